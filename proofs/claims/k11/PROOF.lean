import PyProof.Rows.All
import Wide.All
import OpenK.AllK
import Wide.FinOn
import Lean
import PyProof.EqAt
import PyProof.EqKinds
import PyProof.TupleCall
import PySem.Challenge.RW_drawback_k11_whole_most_units_at_each_du
set_option Elab.async false
set_option linter.all false
set_option maxRecDepth 100000
namespace L2
open PySem PySem.Spec PyProof.Rows
abbrev Key:=Sum Int Str
def keyIs : Key→Value→Bool
  | .inl k,v=>Value.isInt k v
  | .inr x,v=>Value.isStrOf x v
def keyH (w : World) : Key→Int
  | .inl k=>hashInt k
  | .inr x=>hashStr w x
theorem keyIs_shape : ∀ {k : Key} {v : Value},keyIs k v=true→(∃ i t,k=Sum.inl i∧v=Value.int i t)∨(∃ x t,k=Sum.inr x∧v=Value.str x t)
  | .inl i,v,h=>by
    obtain ⟨t,e⟩:=Value.isInt_shape (k:=i) (v:=v) h
    exact .inl ⟨i,t,rfl,e⟩
  | .inr x,v,h=>by
    obtain ⟨t,e⟩:=Value.isStrOf_shape (x:=x) (v:=v) h
    exact .inr ⟨x,t,rfl,e⟩
theorem keyIs_int (i : Int) (t : Tok) : keyIs (.inl i) (.int i t)=true:=by simp [keyIs,Value.isInt]
theorem keyIs_str (x : Str) (t : Tok) : keyIs (.inr x) (.str x t)=true:=by simp [keyIs,Value.isStrOf]
theorem key_ll (a b : Int) : decide ((Sum.inl a : Key)=Sum.inl b)=(a == b):=by
  by_cases e : a=b
  · subst e; simp
  · have h : ¬ (Sum.inl a : Key)=Sum.inl b:=fun q=>e (Sum.inl.inj q)
    rw [decide_eq_false h]
    exact (beq_eq_false_iff_ne.mpr e).symm
theorem key_rr (a b : Str) : decide ((Sum.inr a : Key)=Sum.inr b)=decide (a=b):=by
  by_cases e : a=b
  · subst e; simp
  · have h : ¬ (Sum.inr a : Key)=Sum.inr b:=fun q=>e (Sum.inr.inj q)
    rw [decide_eq_false h,decide_eq_false e]
theorem key_lr (a : Int) (b : Str) : decide ((Sum.inl a : Key)=Sum.inr b)=false:=decide_eq_false (fun q=>nomatch q)
theorem key_rl (a : Str) (b : Int) : decide ((Sum.inr a : Key)=Sum.inl b)=false:=decide_eq_false (fun q=>nomatch q)
def mixKind (prog : Program) (w : World) : PySem.KeyKind prog w Key where
  is:=keyIs
  hash:=keyH w
  inj:=fun v a b ha hb=>by
    rcases keyIs_shape ha with ⟨i,t,rfl,rfl⟩ | ⟨x,t,rfl,rfl⟩
    · rcases keyIs_shape hb with ⟨j,u,rfl,e⟩ | ⟨y,u,rfl,e⟩
      · injection e with e1 _; rw [e1]
      · exact nomatch e
    · rcases keyIs_shape hb with ⟨j,u,rfl,e⟩ | ⟨y,u,rfl,e⟩
      · exact nomatch e
      · injection e with e1 _; rw [e1]
  byValue:=fun k v h=>by
    rcases keyIs_shape h with ⟨i,t,rfl,rfl⟩ | ⟨x,t,rfl,rfl⟩ <;> rfl
  pyHash:=fun hv h=>by
    rcases keyIs_shape hv with ⟨i,t,rfl,rfl⟩ | ⟨x,t,rfl,rfl⟩
    · exact wpAny_pyHash_int h
    · exact wpAny_pyHash_str h
  eqBool:=fun hu hv h=>by
    rcases keyIs_shape hu with ⟨i,t,rfl,rfl⟩ | ⟨x,t,rfl,rfl⟩
    · rcases keyIs_shape hv with ⟨j,u,rfl,rfl⟩ | ⟨y,u,rfl,rfl⟩
      · rw [key_ll] at h; exact wpAny_eqBool_int h
      · rw [key_lr] at h; exact SeqAt.EqAt.int_str i t y u _ _ _ _ h
    · rcases keyIs_shape hv with ⟨j,u,rfl,rfl⟩ | ⟨y,u,rfl,rfl⟩
      · rw [key_rl] at h; exact SeqAt.EqAt.str_int x t j u _ _ _ _ h
      · rw [key_rr] at h; exact wpAny_eqBool_str h
  «strs»:=fun k x t v h=>by
    rcases keyIs_shape h with ⟨i,u,rfl,e⟩ | ⟨y,u,rfl,e⟩
    · exact nomatch e
    · injection e with e1 _
      subst e1
      cases v <;> rfl
theorem mixKind_int (prog : Program) (w : World) (i : Int) (t : Tok) : (mixKind prog w).is (.inl i) (.int i t)=true:=keyIs_int i t
theorem mixKind_str (prog : Program) (w : World) (x : Str) (t : Tok) : (mixKind prog w).is (.inr x) (.str x t)=true:=keyIs_str x t
end L2
namespace L2
open PySem PySem.Spec PyProof.Rows
inductive V where
  | non | bl (b : Bool) | int (i : Int) | str (x : Str) | byt (b : Array UInt8) | flt (b : UInt64) | ref (a : Addr) | ty (n : String)
  deriving DecidableEq
def RelV : V→Value→Prop
  | .non,u=>u=Value.none
  | .bl b,u=>u=Value.bool b
  | .int i,u=>∃ t,u=Value.int i t
  | .str x,u=>∃ t,u=Value.str x t
  | .byt b,u=>∃ t,u=Value.bytes b t
  | .flt b,u=>∃ t,u=Value.float b t
  | .ref a,u=>u=Value.ref a
  | .ty n,u=>u=Value.type n
abbrev Vals : List V→List Value→Prop:=Paired RelV
theorem Vals.length {xs : List V} {us : List Value} (r : Vals xs us) : xs.length=us.length:=Paired.length r
theorem Vals.get : ∀ {xs : List V} {us : List Value} {i : Nat} {x : V},Vals xs us→xs[i]? = some x→∃ u,us[i]? = some u∧RelV x u
  | _,_,_,_,.nil,e=>by simp at e
  | _,_,0,_,.cons r _,e=>by simp at e; subst e; exact ⟨_,rfl,r⟩
  | _,_,i + 1,x,.cons _ t,e=>by
    obtain ⟨u,h1,h2⟩:=Vals.get (i:=i) (x:=x) t (by simpa using e)
    exact ⟨u,by simpa using h1,h2⟩
theorem Vals.set {x : V} {u : Value} (r : RelV x u) : ∀ {xs : List V} {us : List Value} (i : Nat),Vals xs us→Vals (xs.set i x) (us.set i u)
  | _,_,_,.nil=>.nil
  | _,_,0,.cons _ t=>.cons r t
  | _,_,i + 1,.cons q t=>.cons q (Vals.set r i t)
theorem Vals.append : ∀ {xs ys : List V} {us ws : List Value},Vals xs us→Vals ys ws→Vals (xs ++ ys) (us ++ ws)
  | _,_,_,_,.nil,s=>s
  | _,_,_,_,.cons r t,s=>.cons r (Vals.append t s)
theorem Vals.take : ∀ {xs : List V} {us : List Value} (n : Nat),Vals xs us→Vals (xs.take n) (us.take n)
  | _,_,0,_=>.nil
  | _,_,_ + 1,.nil=>.nil
  | _,_,n + 1,.cons r t=>.cons r (Vals.take n t)
theorem Vals.drop : ∀ {xs : List V} {us : List Value} (n : Nat),Vals xs us→Vals (xs.drop n) (us.drop n)
  | _,_,0,r=>r
  | _,_,_ + 1,.nil=>.nil
  | _,_,n + 1,.cons _ t=>Vals.drop n t
def RelO : Option V→Option Value→Prop
  | some v,some u=>RelV v u
  | none,none=>True
  | _,_=>False
def KV {κ : Type} : List (κ×V)→List (κ×Value)→Prop:=Paired fun (p : κ×V) (q : κ×Value)=>p.1=q.1∧RelV p.2 q.2
def kV : Key→V
  | .inl i=>.int i
  | .inr x=>.str x
inductive HO where
  | lst (xs : List V)
  | tup (xs : List V)
  | dK (kvs : List (Key×V)) | dT (kvs : List (List Key×V))
  | set (S : Int→Bool) (n : Nat)
  | ins (C dx : Addr) (fs : List (Str×V))
  | own (x : Addr)
  | xd (fs : List (Str×V))
  | met (f x : Addr)
  | rng (lo hi : Int)
  | frz (o : Obj) (u : HO)
  | tbl (ps : Array Value)
  | ext (φ : Heap→Prop)
  | cod (q : Str) (pos : Pos)
abbrev Hp:=Addr→Option HO
def upd (H : Hp) (a : Addr) (o : HO) : Hp:=fun b=>if b=a then some o else H b
theorem upd_same {H : Hp} {a : Addr} {o : HO} : upd H a o a=some o:=by unfold upd; rw [if_pos rfl]
theorem upd_ne {H : Hp} {a b : Addr} {o : HO} (h : b≠a) : upd H a o b=H b:=by unfold upd; rw [if_neg h]
theorem upd_upd {H : Hp} {a : Addr} {o u : HO} : upd (upd H a o) a u=upd H a u:=by
  funext b; unfold upd; split <;> rfl
theorem ne_of {H : Hp} {a b : Addr} {o u : HO} (h : H a=some o) (h' : H b=some u) (d : o≠u) : a≠b:=by
  intro e; subst e; rw [h] at h'; exact d (Option.some.inj h')
theorem ne_of_none {H : Hp} {a b : Addr} {o : HO} (h : H a=some o) (h' : H b=none) : a≠b:=by
  intro e; subst e; rw [h] at h'; cases h'
section
variable (P : Program) (w : World)
def ObjOk (H : Hp) (h : Heap) (a : Addr) : HO→Prop
  | .lst xs=>xs.length≤sizeLine∧∃ (its : List Value) (n : Nat),Vals xs its∧h.get? a=some { cls:=.type "list",data:=.seq its.toArray n }
  | .tup xs=>xs.length≤sizeLine∧∃ its : List Value,Vals xs its∧IsTup h a its.toArray
  | .dK kvs=>kvs.length≤sizeLine∧(a == sysModules)=false∧∃ vs,KV kvs vs∧h.DictOf (mixKind P w) a vs
  | .dT kvs=>kvs.length≤sizeLine∧(a == sysModules)=false∧∃ xs : List (List Key×Addr×Value),
      Paired (fun (p : List Key×V) (q : List Key×Addr×Value)=>p.1=q.1∧H q.2.1=some (.tup (p.1.map kV))∧RelV p.2 q.2.2) kvs xs∧
      ∃ o es ep,h.get? a=some o∧o.ExactDict∧o.data = .dict es ep∧es.toList=xs.map (entryOfKey (tupleKind (mixKind P w)))∧(xs.map (·.1)).Nodup
  | .set S n=>h.SetOf (intKind P w) a S n
  | .ins C dx fs=>H dx=some (.own a)∧fs.length≤1000∧dx≠a∧h.get? a=some (PySem.W.instObj C dx)∧
      ∃ mA,h.Ns1 dx mA∧(∀ f,RelO (fs.lookup f) (mA f))∧PySem.Within mA (fs.map (·.1))
  | .own _=>∃ o,h.get? a=some o
  | .xd fs=>∃ mA,h.Ns1 a mA∧∀ f,RelO (fs.lookup f) (mA f)
  | .rng lo hi=>∃ t u v,h.get? a=some { cls:=.type "range",data:=.fields #[.int lo t,.int hi u,.int 1 v] }
  | .frz o u=>h.get? a=some o∧ObjOk H h a u
  | .tbl ps=>h.get? a=some { cls:=.none,data:=.fields ps }
  | .met f x=>h.get? a=some (PySem.W.methodObj (.ref f) (.ref x))
  | .ext φ=>φ h∧(∃ o,h.get? a=some o)∧∀ h1 h2 : Heap,φ h1→(∀ o,h1.get? a=some o→h2.get? a=some o)→φ h2
  | .cod q pos=>h.get? a=some { cls:=.none,data:=.fields #[] }∨∃ c,h.get? a=some { cls:=.none,data:=.fields #[rawInt pos.line,rawInt pos.col,.ref c] }∧H c=some (.own a)∧h.CodeRec (.ref c) q
def HOk (H : Hp) (h : Heap) : Prop:=∀ a o,H a=some o→ObjOk P w H h a o
end
section
variable {P : Program} {w : World} {H H' : Hp} {h h' : Heap} {a : Addr} {o : HO}
theorem ObjOk.lt (x : ObjOk P w H h a o) : a < h.objs.size:=by
  cases o with
  | lst xs=>obtain ⟨_,_,_,_,e⟩:=x; exact Heap.lt_size e
  | tup xs=>obtain ⟨_,_,_,p⟩:=x; exact p.lt
  | dK kvs=>obtain ⟨_,_,_,_,o,_,_,e,_⟩:=x; exact Heap.lt_size e
  | dT kvs=>obtain ⟨_,_,_,_,o,_,_,e,_⟩:=x; exact Heap.lt_size e
  | set S n=>obtain ⟨o,_,_,_,e,_⟩:=x; exact Heap.lt_size e
  | ins C dx fs=>obtain ⟨_,_,_,e,_⟩:=x; exact Heap.lt_size e
  | own y=>obtain ⟨_,e⟩:=x; exact Heap.lt_size e
  | xd fs=>obtain ⟨_,⟨_,_,_,e,_⟩,_⟩:=x; exact Heap.lt_size e
  | rng lo hi=>obtain ⟨_,_,_,e⟩:=x; exact Heap.lt_size e
  | frz ob u=>obtain ⟨e,_⟩:=x; exact Heap.lt_size e
  | tbl ps=>exact Heap.lt_size (show h.get? a=some _ from x)
  | met f y=>exact Heap.lt_size (show h.get? a=some _ from x)
  | ext φ=>obtain ⟨_,⟨_,e⟩,_⟩:=x; exact Heap.lt_size e
  | cod q pos=>rcases x with e | ⟨_,e,_⟩ <;> exact Heap.lt_size e
theorem Paired.mapP {α β : Type} {F G : α→β→Prop} : ∀ {l₁ : List α} {l₂ : List β},Paired F l₁ l₂→(∀ a b,F a b→G a b)→Paired G l₁ l₂
  | _,_,.nil,_=>.nil
  | _,_,.cons r t,f=>.cons (f _ _ r) (Paired.mapP t f)
theorem ObjOk.stay (x : ObjOk P w H h a o) (k : ∀ b u,(b=a∨H b=some (.own a))→h.get? b=some u→h'.get? b=some u)
    (ho : ∀ b,H b=some (.own a)→H' b=some (.own a)) (ht : ∀ b xs,H b=some (.tup xs)→H' b=some (.tup xs)) : ObjOk P w H' h' a o:=by
  induction o with
  | lst xs=>obtain ⟨z,its,n,r,e⟩:=x; exact ⟨z,its,n,r,k _ _ (.inl rfl) e⟩
  | tup xs=>obtain ⟨z,its,r,ob,e,c⟩:=x; exact ⟨z,its,r,ob,k _ _ (.inl rfl) e,c⟩
  | dK kvs=>obtain ⟨z,y,vs,r,ob,es,ep,e,c⟩:=x; exact ⟨z,y,vs,r,ob,es,ep,k _ _ (.inl rfl) e,c⟩
  | dT kvs=>
    obtain ⟨z,y,xs,r,ob,es,ep,e,c⟩:=x
    exact ⟨z,y,xs,Paired.mapP r fun p q z=>⟨z.1,ht _ _ z.2.1,z.2.2⟩,ob,es,ep,k _ _ (.inl rfl) e,c⟩
  | set S n=>obtain ⟨ob,es,ep,t,e,c⟩:=x; exact ⟨ob,es,ep,t,k _ _ (.inl rfl) e,c⟩
  | ins C dx fs=>
    obtain ⟨d,z,ne,e,mA,⟨od,es,ep,e2,c⟩,r⟩:=x
    exact ⟨ho _ d,z,ne,k _ _ (.inl rfl) e,mA,⟨od,es,ep,k _ _ (.inr d) e2,c⟩,r⟩
  | own y=>obtain ⟨ob,e⟩:=x; exact ⟨ob,k _ _ (.inl rfl) e⟩
  | xd fs=>obtain ⟨mA,⟨od,es,ep,e,c⟩,r⟩:=x; exact ⟨mA,⟨od,es,ep,k _ _ (.inl rfl) e,c⟩,r⟩
  | rng lo hi=>obtain ⟨t,u,v,e⟩:=x; exact ⟨t,u,v,k _ _ (.inl rfl) e⟩
  | frz ob u ih=>obtain ⟨e,q⟩:=x; exact ⟨k _ _ (.inl rfl) e,ih q⟩
  | tbl ps=>
    have e : h.get? a=some { cls:=.none,data:=.fields ps }:=x
    show h'.get? a=some { cls:=.none,data:=.fields ps }
    exact k a _ (.inl rfl) e
  | met f y=>
    have e : h.get? a=some (PySem.W.methodObj (.ref f) (.ref y)):=x
    show h'.get? a=some (PySem.W.methodObj (.ref f) (.ref y))
    exact k a _ (.inl rfl) e
  | ext φ=>obtain ⟨p,⟨o,e⟩,st⟩:=x; exact ⟨st _ _ p fun o q=>k _ _ (.inl rfl) q,⟨o,k _ _ (.inl rfl) e⟩,st⟩
  | cod q pos=>
    rcases x with e | ⟨c,e,hw,c2,oc,vs,t,e1,e2,r⟩
    · exact .inl (k _ _ (.inl rfl) e)
    · cases e1
      exact .inr ⟨c,k _ _ (.inl rfl) e,ho _ hw,c,oc,vs,t,rfl,k _ _ (.inr hw) e2,r⟩
theorem HOk.lt (x : HOk P w H h) (e : H a=some o) : a < h.objs.size:=(x a o e).lt
theorem HOk.fresh (x : HOk P w H h) (e : h.objs.size≤a) : H a=none:=by
  cases q : H a with
  | none=>rfl
  | some u=>exact absurd (Nat.lt_of_lt_of_le (x.lt q) e) (Nat.lt_irrefl _)
theorem HOk.kept (x : HOk P w H h) (k : ∀ b u,h.get? b=some u→h'.get? b=some u) : HOk P w H h':=fun a o e=>
  (x a o e).stay (fun b u _ q=>k b u q) (fun _ q=>q) fun _ _ q=>q
theorem HOk.laid (x : HOk P w H h) (k : ∀ b u,h.get? b=some u→h'.get? b=some u) (hp : h.objs.size≤a) (new : ObjOk P w (upd H a o) h' a o) : HOk P w (upd H a o) h':=fun b u e=>by
  have hn:=x.fresh hp
  by_cases hb : b=a
  · subst hb; rw [upd_same] at e; cases e; exact new
  · rw [upd_ne hb] at e
    exact (x b u e).stay (fun c v _ q=>k c v q) (fun c q=>by rw [upd_ne (ne_of_none q hn)]; exact q) fun c xs q=>by rw [upd_ne (ne_of_none q hn)]; exact q
end
def Rd (H : Hp) (a : Addr) (u : HO) : Prop:=H a=some u∨∃ o,H a=some (.frz o u)
theorem Rd.ok {P : Program} {w : World} {H : Hp} {h : Heap} {a : Addr} {u : HO} (r : Rd H a u) (x : HOk P w H h) : ObjOk P w H h a u:=by
  rcases r with r | ⟨o,r⟩
  · exact x a u r
  · obtain ⟨_,q⟩:=x a _ r
    exact q
def Mut : Option HO→Prop
  | some (.lst _)=>True
  | some (.dK _)=>True
  | some (.dT _)=>True
  | some (.set _ _)=>True
  | some (.ins _ _ _)=>True
  | some (.ext _)=>True
  | _=>False
section
variable {P : Program} {w : World} {H : Hp} {h h' : Heap} {x e : Addr} {o' : HO}
theorem HOk.write (ok : HOk P w H h) (mu : Mut (H x)) (he : e=x∨H e=some (.own x)) (k : ∀ b u,b≠e→h.get? b=some u→h'.get? b=some u) (heo : ∃ u,h'.get? e=some u)
    (new : ObjOk P w (upd H x o') h' x o') : HOk P w (upd H x o') h':=fun b u q=>by
  have nown : ∀ c y,H c=some (.own y)→c≠x:=fun c y r z=>by subst z; rw [r] at mu; exact mu
  have ntup : ∀ c xs,H c=some (.tup xs)→c≠x:=fun c xs r z=>by subst z; rw [r] at mu; exact mu
  by_cases hb : b=x
  · subst hb; rw [upd_same] at q; cases q; exact new
  · rw [upd_ne hb] at q
    by_cases hbe : b=e
    · have q' : H b=some (.own x):=by
        rcases he with z | z
        · exact absurd (hbe.trans z) hb
        · rw [hbe]; exact z
      rw [q] at q'; cases q'
      obtain ⟨v,hv⟩:=heo
      exact ⟨v,by rw [hbe]; exact hv⟩
    · refine (ok b u q).stay (fun c v hc r=>k c v ?_ r) (fun c r=>by rw [upd_ne (nown c b r)]; exact r) fun c xs r=>by rw [upd_ne (ntup c xs r)]; exact r
      rcases hc with rfl | hc
      · exact hbe
      · rintro rfl
        rcases he with z | z
        · exact nown c b hc z
        · rw [hc] at z; cases z; exact hb rfl
end
structure Un (fs ex : List Addr) (H H' : Hp) (h h' : Heap) : Prop where
  keep : ∀ b o,h.get? b=some o→H b=none→b ∉ fs→b ∉ ex→h'.get? b=some o
  slot : ∀ b o,h.get? b=some o→H b=none→b∈fs→b ∉ ex→∃ sl,h'.get? b=some { o with slots:=sl }
  free : ∀ b o,h.get? b=some o→H b=none→b ∉ ex→H' b=none
  there : ∀ b o,h.get? b=some o→b ∉ ex→∃ o',h'.get? b=some o'
  tups : ∀ b xs,H b=some (.tup xs)→H' b=some (.tup xs)
  frzs : ∀ b o u,H b=some (.frz o u)→H' b=some (.frz o u)
  tbls : ∀ b ps,H b=some (.tbl ps)→∃ more,H' b=some (.tbl (ps ++ more))
section
variable {fs fs' ex ex' : List Addr} {H H1 H2 : Hp} {h h1 h2 h' : Heap} {a x e : Addr} {o : HO}
theorem Un.any (u : Un fs ex H H1 h h1) {b : Addr} {ob : Obj} (q : h.get? b=some ob) (n : H b=none) (hx : b ∉ ex) : ∃ sl,h1.get? b=some { ob with slots:=sl }:=by
  by_cases hb : b∈fs
  · exact u.slot b ob q n hb hx
  · exact ⟨ob.slots,u.keep b ob q n hb hx⟩
theorem Un.kept (k : ∀ b u,h.get? b=some u→h'.get? b=some u) : Un fs ex H H h h':=
  ⟨fun b ob q _ _ _=>k b ob q,fun b ob q _ _ _=>⟨ob.slots,k b ob q⟩,fun _ _ _ n _=>n,fun b ob q _=>⟨ob,k b ob q⟩,fun _ _ q=>q,fun _ _ _ q=>q,fun _ ps q=>⟨#[],by rw [q]; simp⟩⟩
theorem Un.refl : Un fs ex H H h h:=Un.kept fun _ _ q=>q
theorem Un.laid (k : ∀ b u,h.get? b=some u→h'.get? b=some u) (hp : h.objs.size≤a) (hn : H a=none) : Un fs ex H (upd H a o) h h' where
  keep:=fun b u q _ _ _=>k b u q
  slot:=fun b u q _ _ _=>⟨u.slots,k b u q⟩
  free:=fun b u q n _=>by rw [upd_ne (Nat.ne_of_lt (Nat.lt_of_lt_of_le (Heap.lt_size q) hp))]; exact n
  there:=fun b u q _=>⟨u,k b u q⟩
  tups:=fun b xs q=>by rw [upd_ne (ne_of_none q hn)]; exact q
  frzs:=fun b u xs q=>by rw [upd_ne (ne_of_none q hn)]; exact q
  tbls:=fun b ps q=>⟨#[],by rw [upd_ne (ne_of_none q hn),q]; simp⟩
theorem Un.write (mu : Mut (H x)) (he : e=x∨H e=some (.own x)) (k : ∀ b u,b≠e→h.get? b=some u→h'.get? b=some u) (heo : ∃ u,h'.get? e=some u) : Un fs ex H (upd H x o) h h':=by
  have hx : ∀ b,H b=none→b≠x:=fun b n z=>by subst z; rw [n] at mu; exact mu
  have hb : ∀ b,H b=none→b≠e:=fun b n z=>by
    subst z
    rcases he with r | r
    · exact hx b n r
    · rw [n] at r; cases r
  have hm : ∀ b u,H b=some u→¬ Mut (some u)→b≠x:=fun b u q nm z=>by subst z; rw [q] at mu; exact nm mu
  refine ⟨fun b u q n _ _=>k b u (hb b n) q,fun b u q n _ _=>⟨u.slots,k b u (hb b n) q⟩,fun b u q n _=>by rw [upd_ne (hx b n)]; exact n,fun b u q _=>?_,
    fun b xs q=>by rw [upd_ne (hm b _ q fun z=>z)]; exact q,fun b u xs q=>by rw [upd_ne (hm b _ q fun z=>z)]; exact q,fun b ps q=>⟨#[],by rw [upd_ne (hm b _ q fun z=>z),q]; simp⟩⟩
  by_cases hbe : b=e
  · subst hbe; exact heo
  · exact ⟨u,k b u hbe q⟩
end
def trk (h : Heap) (H : Hp) : List Addr:=(List.range h.objs.size).filter fun a=>(H a).isSome
def hidT (h : Heap) (H : Hp) : Heap:=PySem.W.hideAll h (trk h H)
theorem hidT_size (h : Heap) (H : Hp) : (hidT h H).objs.size=h.objs.size:=PySem.W.hideAll_size _ _
theorem hidT_get {h : Heap} {H : Hp} {b : Addr} {o : Obj} (e : h.get? b=some o) (n : H b=none) : (hidT h H).get? b=some o:=
  PySem.W.hideAll_get _ e fun hm=>by
    have q : (H b).isSome=true:=(List.mem_filter.mp hm).2
    rw [n] at q; simp at q
theorem of_hidT {h : Heap} {H : Hp} {b : Addr} {o : Obj} (e : (hidT h H).get? b=some o) : h.get? b=some o∧H b=none:=by
  have e' : h.get? b=some o:=PySem.W.of_hideAll (trk h H) e
  refine ⟨e',?_⟩
  cases q : H b with
  | none=>rfl
  | some x=>
    have hm : b∈trk h H:=List.mem_filter.mpr ⟨List.mem_range.mpr (Heap.lt_size e'),by simp [q]⟩
    have z : (hidT h H).get? b=none:=PySem.W.hideAll_none (trk h H) hm
    rw [z] at e; cases e
def allNews (g h : Heap) (L : Addr) : List (Addr×Obj):=(List.range h.objs.size).filterMap fun a=>if a=L∨(g.get? a).isSome=true then none else (h.get? a).map fun o=>(a,o)
def rest (g h : Heap) (L d : Addr) : List (Addr×Obj):=(allNews g h L).filter fun p=>decide (p.1≠d)
end L2
namespace L2
open PySem PySem.Spec PyProof.Rows
structure Mod (K : PySem.W.Frag) (mg : Str→Option Value) (base : Heap) : Prop where
  kin : K.In base
  glob : base.Ns mainGlobals mg
  blt : ∃ mb,base.Ns builtinsNs mb∧∀ x : Str,x ≠ "__name__" → mb x=bootBuiltins x
  nolimit : base.NoLimit
structure Cx where
  prog : Program
  w : World
  K : PySem.W.Frag
  mg : Str→Option Value
  base : Heap
  A : Around
  N : List Str
  s₀ : Shared
  H₀ : Hp
  env : Env
  outer : List Env
  stack : List Env
  ex : List Addr
  fn : Str→Bool
  calm : Bool
  pn : List (Addr×Obj)
  xe : Value→Shared→Prop
def frs (l : List Env) : List Addr:=l.filterMap (·.frame)
abbrev Cx.fs (X : Cx) : List Addr:=frs X.outer
def Vis (sc : Scope) (x : Str) : Prop:=sc.names.lookup x=some .local∨sc.names.lookup x=some .cell∨sc.names.lookup x=some .free
def Loc (sc : Scope) (x : Str) : Prop:=sc.names.lookup x=some .local∨sc.names.lookup x=some .cell
def Look (env : Env) (h : Heap) (m : Str→Option Value) (x : Str) (u : Value) : Prop:=
  (env.kindOf x=some .local∧m x=some u)∨((env.kindOf x=some .cell∨env.kindOf x=some .free)∧∃ c,env.cells.lookup x=some c∧h.IsCell c (some u))
structure Cx.Ok (X : Cx) : Prop where
  mod : Mod X.K X.mg X.base
  kind : X.env.scope.kind = .function
  glob : X.env.globals=mainGlobals
  blt : X.env.builtins=builtinsNs
  above : X.s₀.heap.objs.size≤X.env.locals
  inj : ∀ x y c,X.env.cells.lookup x=some c→X.env.cells.lookup y=some c→x=y
  has : ∀ x,(X.env.kindOf x=some .cell∨X.env.kindOf x=some .free)→∃ c,X.env.cells.lookup x=some c
  cab : ∀ x c,X.fn x=true→X.env.cells.lookup x=some c→X.s₀.heap.objs.size≤c
  hd : X.calm=true→X.A.handled=none
  frames : X.A.frames=some X.stack
  stk : X.stack=X.outer∨(X.stack=X.env :: X.outer∧X.env.frame=some X.env.locals)
  exf : ∀ b∈X.ex,b≠X.env.locals∧∀ x c,X.env.cells.lookup x=some c→c≠b
  bs : ∀ b o,X.base.get? b=some o→X.s₀.heap.get? b=some o∧X.H₀ b=none
  bsz : X.base.objs.size≤X.s₀.heap.objs.size
  noex : ∀ b o,X.base.get? b=some o→b ∉ X.ex
  exfs : ∀ b∈X.ex,b ∉ X.fs
  funs : X.s₀.heap.FunFrames X.base X.outer
  frf : ∀ b∈X.fs,X.H₀ b=none
structure Inv (X : Cx) (pins : List (Addr×Obj)) (σ : List (Option V)) (H : Hp) (s : Shared) : Prop where
  ok : X.Ok
  os : s.os=X.s₀.os
  bare : AllBare s.gens
  base : Un X.fs X.ex X.H₀ H X.s₀.heap s.heap
  loc : ∃ m,s.heap.Ns X.env.locals m∧∀ (i : Nat) (x : Str) (v : V),X.N[i]? = some x→σ[i]? = some (some v)→Vis X.env.scope x→∃ u,RelV v u∧Look X.env s.heap m x u
  cell : ∀ x c,X.env.cells.lookup x=some c→∃ v,s.heap.IsCell c v
  free : H X.env.locals=none
  freeC : ∀ x c,X.env.cells.lookup x=some c→H c=none
  pin : ∀ p∈X.pn ++ pins,s.heap.get? p.1=some p.2∧H p.1=none∧p.1≠X.env.locals∧p.1 ∉ X.fs∧∀ v,p.2.data≠.cell v
  hok : HOk X.prog X.w H s.heap
  len : σ.length=X.N.length
section
variable {X : Cx} {pins : List (Addr×Obj)} {σ : List (Option V)} {H H' : Hp} {s : Shared} {h' : Heap}
theorem Cx.Ok.nofr (ok : X.Ok) {b : Addr} {o : Obj} (e : X.base.get? b=some o) : b ∉ X.fs:=fun hb=>by
  have:=(ok.funs.mem hb).1
  rw [e] at this; cases this
theorem Inv.bs (I : Inv X pins σ H s) : ∀ b o,X.base.get? b=some o→s.heap.get? b=some o∧H b=none:=fun b o e=>
  ⟨I.base.keep b o (I.ok.bs b o e).1 (I.ok.bs b o e).2 (I.ok.nofr e) (I.ok.noex b o e),I.base.free b o (I.ok.bs b o e).1 (I.ok.bs b o e).2 (I.ok.noex b o e)⟩
theorem Inv.bk (I : Inv X pins σ H s) : ∀ b o,X.base.get? b=some o→s.heap.get? b=some o:=fun b o e=>(I.bs b o e).1
theorem Inv.mod (I : Inv X pins σ H s) : Mod X.K X.mg X.base:=I.ok.mod
theorem Inv.kIn (I : Inv X pins σ H s) : X.K.In s.heap:=I.ok.mod.kin.keeps I.bk
theorem Inv.lt (I : Inv X pins σ H s) : X.env.locals < s.heap.objs.size:=let ⟨_,hn,_⟩:=I.loc; hn.lt
theorem Inv.sz (I : Inv X pins σ H s) : X.s₀.heap.objs.size≤s.heap.objs.size:=Nat.le_trans I.ok.above (Nat.le_of_lt I.lt)
theorem Inv.nofs (I : Inv X pins σ H s) {a : Addr} (h : s.heap.objs.size≤a) : a ∉ X.fs:=fun hb=>by
  obtain ⟨_,o,ho,_⟩:=I.ok.funs.mem hb
  exact absurd (Nat.lt_of_lt_of_le (Heap.lt_size ho) (Nat.le_trans I.sz h)) (Nat.lt_irrefl _)
theorem Inv.cne (I : Inv X pins σ H s) : ∀ x c,X.env.cells.lookup x=some c→c≠X.env.locals:=fun x c e z=>by
  obtain ⟨v,o,ho,hd⟩:=I.cell x c e
  obtain ⟨m,⟨o',es,ep,ho',hd',_⟩,_⟩:=I.loc
  rw [z,ho'] at ho; cases ho; rw [hd'] at hd; cases hd
theorem Inv.funs (I : Inv X pins σ H s) : s.heap.FunFrames X.base X.outer:=by
  have all : ∀ (l : List Env),(∀ b∈frs l,b∈X.fs)→X.s₀.heap.FunFrames X.base l→s.heap.FunFrames X.base l:=by
    intro l
    induction l with
    | nil=>intro _ _; trivial
    | cons env r ih=>
      intro hs hl
      obtain ⟨hk,⟨L,o,hf,hn,ho,hd⟩,hr⟩:=hl
      have hL : L∈X.fs:=hs L (by unfold frs; rw [List.filterMap_cons,hf]; exact List.mem_cons_self)
      obtain ⟨sl,e⟩:=I.base.slot L o ho (I.ok.frf L hL) hL fun z=>I.ok.exfs L z hL
      exact ⟨hk,⟨L,_,hf,hn,e,hd⟩,ih (fun b hb=>hs b (by unfold frs; rw [List.filterMap_cons,hf]; exact List.mem_cons_of_mem _ hb)) hr⟩
  exact all X.outer (fun _ hb=>hb) I.ok.funs
theorem Inv.stack (I : Inv X pins σ H s) : s.heap.FunFrames X.base X.stack:=by
  rcases I.ok.stk with e | ⟨e,hf⟩
  · rw [e]; exact I.funs
  · rw [e]
    obtain ⟨m,hn,_⟩:=I.loc
    refine .cons (by rw [I.ok.kind]; decide) hf hn ?_ I.funs
    exact Heap.get?_none_of_le (Nat.le_trans I.ok.bsz I.ok.above)
theorem Inv.stkSub (I : Inv X pins σ H s) : ∀ b∈frs X.stack,b∈X.env.locals :: X.fs:=fun b hb=>by
  rcases I.ok.stk with e | ⟨e,hf⟩
  · rw [e] at hb; exact List.mem_cons_of_mem _ hb
  · rw [e] at hb
    unfold frs at hb
    rw [List.filterMap_cons,hf] at hb
    exact hb
theorem Inv.stkFree (I : Inv X pins σ H s) : ∀ b∈frs X.stack,H b=none:=fun b hb=>by
  rcases List.mem_cons.mp (I.stkSub b hb) with e | hb
  · rw [e]; exact I.free
  · obtain ⟨_,o,ho,_⟩:=I.ok.funs.mem hb
    exact I.base.free b o ho (I.ok.frf b hb) fun z=>I.ok.exfs b z hb
theorem Inv.step {g' : Array GenState} {t' : Nat} {d' : Drawn} {ch : List Addr} (I : Inv X pins σ H s)
    (hch : ∀ b∈ch,(b∈X.ex∨X.s₀.heap.objs.size≤b)∧b≠X.env.locals∧(∀ x c,X.env.cells.lookup x=some c→c≠b)∧∀ p∈X.pn ++ pins,p.1≠b)
    (keep : ∀ b o,b≠X.env.locals→b ∉ X.fs→b ∉ ch→s.heap.get? b=some o→H b=none→h'.get? b=some o)
    (slot : ∀ b o,b≠X.env.locals→b∈X.fs→b ∉ ch→s.heap.get? b=some o→H b=none→∃ sl,h'.get? b=some { o with slots:=sl }) (free : ∀ b o,b ∉ ch→s.heap.get? b=some o→H b=none→H' b=none)
    (there : ∀ b o,b ∉ ch→s.heap.get? b=some o→∃ o',h'.get? b=some o')
    (tups : ∀ b xs,H b=some (.tup xs)→H' b=some (.tup xs)) (frzs : ∀ b o u,H b=some (.frz o u)→H' b=some (.frz o u)) (tbls : ∀ b ps,H b=some (.tbl ps)→∃ more,H' b=some (.tbl (ps ++ more)))
    (ns : ∀ m,s.heap.Ns X.env.locals m→h'.Ns X.env.locals m) (hok : HOk X.prog X.w H' h') (hg : AllBare g') :
    Inv X pins σ H' { s with heap:=h',gens:=g',drawn:=d',toks:=t' }:=by
  have neL : ∀ b o,X.s₀.heap.get? b=some o→b≠X.env.locals:=fun b o e=>Nat.ne_of_lt (Nat.lt_of_lt_of_le (Heap.lt_size e) I.ok.above)
  have neC : ∀ b o,X.s₀.heap.get? b=some o→b ∉ X.ex→b ∉ ch:=fun b o e hx hb=>by
    rcases (hch b hb).1 with z | z
    · exact hx z
    · exact absurd (Nat.lt_of_lt_of_le (Heap.lt_size e) z) (Nat.lt_irrefl _)
  have cellK : ∀ x c,X.env.cells.lookup x=some c→∀ v,s.heap.IsCell c v→h'.IsCell c v:=fun x c e v ⟨o,ho,hd⟩=>by
    have nch : c ∉ ch:=fun z=>(hch c z).2.2.1 x c e rfl
    by_cases hc : c∈X.fs
    · obtain ⟨sl,q⟩:=slot c o (I.cne x c e) hc nch ho (I.freeC x c e)
      exact ⟨_,q,hd⟩
    · exact ⟨o,keep c o (I.cne x c e) hc nch ho (I.freeC x c e),hd⟩
  refine ⟨I.ok,I.os,hg,⟨fun b o e n hb hx=>?_,fun b o e n hb hx=>?_,fun b o e n hx=>?_,fun b o e hx=>?_,fun b xs e=>tups b xs (I.base.tups b xs e),fun b o xs e=>frzs b o xs (I.base.frzs b o xs e),fun b ps e=>?_⟩,?_,fun x c e=>?_,?_,fun x c e=>?_,fun p hp=>?_,hok,I.len⟩
  · exact keep b o (neL b o e) hb (neC b o e hx) (I.base.keep b o e n hb hx) (I.base.free b o e n hx)
  · obtain ⟨sl,e1⟩:=I.base.slot b o e n hb hx
    obtain ⟨sl',e2⟩:=slot b _ (neL b o e) hb (neC b o e hx) e1 (I.base.free b o e n hx)
    exact ⟨sl',e2⟩
  · obtain ⟨o',e1⟩:=I.base.there b o e hx
    exact free b o' (neC b o e hx) e1 (I.base.free b o e n hx)
  · obtain ⟨o',e1⟩:=I.base.there b o e hx
    exact there b o' (neC b o e hx) e1
  · obtain ⟨m1,e1⟩:=I.base.tbls b ps e
    obtain ⟨m2,e2⟩:=tbls b _ e1
    exact ⟨m1 ++ m2,by rw [e2,Array.append_assoc]⟩
  · obtain ⟨m,hn,hl⟩:=I.loc
    refine ⟨m,ns m hn,fun i x v e1 e2 e3=>?_⟩
    obtain ⟨u,r,l⟩:=hl i x v e1 e2 e3
    refine ⟨u,r,?_⟩
    rcases l with l | ⟨k,c,e,z⟩
    · exact .inl l
    · exact .inr ⟨k,c,e,cellK x c e _ z⟩
  · obtain ⟨v,z⟩:=I.cell x c e
    exact ⟨v,cellK x c e v z⟩
  · obtain ⟨m,⟨o,_,_,ho,_⟩,_⟩:=I.loc
    exact free _ o (fun z=>(hch _ z).2.1 rfl) ho I.free
  · obtain ⟨v,o,ho,hd⟩:=I.cell x c e
    exact free c o (fun z=>(hch c z).2.2.1 x c e rfl) ho (I.freeC x c e)
  · obtain ⟨e,n,ne,nf,d⟩:=I.pin p hp
    have nch : p.1 ∉ ch:=fun z=>(hch p.1 z).2.2.2 p hp rfl
    exact ⟨keep p.1 p.2 ne nf nch e n,free p.1 p.2 nch e n,ne,nf,d⟩
theorem Inv.un {t' : Nat} (I : Inv X pins σ H s) (u : Un X.fs [] H H' s.heap h') (hok : HOk X.prog X.w H' h') : Inv X pins σ H' { s with heap:=h',toks:=t' }:=by
  obtain ⟨m,⟨o,es,ep,ho,r⟩,_⟩:=id I.loc
  obtain ⟨sl,hL⟩:=u.any ho I.free (by simp)
  exact I.step (g':=s.gens) (d':=s.drawn) (ch:=[]) (fun _ z=>nomatch z) (fun b o _ hb _ e n=>u.keep b o e n hb (by simp)) (fun b o _ hb _ e n=>u.slot b o e n hb (by simp)) (fun b o _ e n=>u.free b o e n (by simp)) (fun b o _ e=>u.there b o e (by simp)) u.tups u.frzs u.tbls (fun m' hm=>by
    obtain ⟨o',es',ep',ho',r'⟩:=hm
    rw [ho] at ho'; cases ho'
    exact ⟨_,es',ep',hL,r'⟩) hok I.bare
theorem Inv.call {g' : Array GenState} {t' : Nat} {d' : Drawn} {ch : List Addr} (I : Inv X pins σ H s) (u : Un (frs X.stack) ch H H' s.heap h') (hok : HOk X.prog X.w H' h') (hg : AllBare g')
    (hch : ∀ b∈ch,(b∈X.ex∨X.s₀.heap.objs.size≤b)∧b≠X.env.locals∧(∀ x c,X.env.cells.lookup x=some c→c≠b)∧∀ p∈X.pn ++ pins,p.1≠b) :
    Inv X pins σ H' { s with heap:=h',gens:=g',drawn:=d',toks:=t' }:=by
  obtain ⟨m,⟨o,es,ep,ho,r⟩,_⟩:=id I.loc
  obtain ⟨sl,hL⟩:=u.any ho I.free fun z=>(hch _ z).2.1 rfl
  exact I.step (ch:=ch) hch (fun b o hL hb hc e n=>u.keep b o e n (fun z=>(List.mem_cons.mp (I.stkSub b z)).elim hL hb) hc) (fun b o _ _ hc e n=>u.any e n hc) (fun b o hc e n=>u.free b o e n hc) (fun b o hc e=>u.there b o e hc) u.tups u.frzs u.tbls (fun m' hm=>by
    obtain ⟨o',es',ep',ho',r'⟩:=hm
    rw [ho] at ho'; cases ho'
    exact ⟨_,es',ep',hL,r'⟩) hok hg
theorem Inv.turned {t' : Nat} {it : Addr} (I : Inv X pins σ H s) (k : ∀ b o,b≠it→s.heap.get? b=some o→h'.get? b=some o) (hn : H it=none) (hL : it≠X.env.locals)
    (h1 : it∈X.ex∨X.s₀.heap.objs.size≤it) (h2 : ∀ x c,X.env.cells.lookup x=some c→c≠it) (h3 : ∀ p∈X.pn ++ pins,p.1≠it) : Inv X pins σ H { s with heap:=h',toks:=t' }:=by
  have nit : ∀ b u,H b=some u→b≠it:=fun b u e z=>by rw [z,hn] at e; cases e
  refine I.step (g':=s.gens) (d':=s.drawn) (ch:=[it]) (fun b hb=>?_) (fun b o _ _ hc e _=>k b o (fun z=>hc (by simp [z])) e) (fun b o _ _ hc e _=>⟨o.slots,k b o (fun z=>hc (by simp [z])) e⟩) (fun _ _ _ _ n=>n)
    (fun b o hc e=>⟨o,k b o (fun z=>hc (by simp [z])) e⟩) (fun _ _ e=>e) (fun _ _ _ e=>e) (fun b ps e=>⟨#[],by rw [e]; simp⟩) (fun m hm=>?_) (fun b u e=>?_) I.bare
  · have e : b=it:=by simpa using hb
    subst e
    exact ⟨h1,hL,h2,h3⟩
  · obtain ⟨o,es,ep,ho,r⟩:=hm
    exact ⟨o,es,ep,k _ o (Ne.symm hL) ho,r⟩
  · refine (I.hok b u e).stay (fun c v hc q=>k c v ?_ q) (fun _ q=>q) fun _ _ q=>q
    rcases hc with z | z
    · rw [z]; exact nit b u e
    · exact nit c _ z
theorem Inv.tok (I : Inv X pins σ H s) (t : Nat) : Inv X pins σ H { s with toks:=t }:=I.un (h':=s.heap) (t':=t) Un.refl I.hok
theorem Inv.kept {t' : Nat} (I : Inv X pins σ H s) (k : ∀ b u,s.heap.get? b=some u→h'.get? b=some u) : Inv X pins σ H { s with heap:=h',toks:=t' }:=I.un (Un.kept k) (I.hok.kept k)
theorem Inv.laid {a : Addr} {o : HO} {t' : Nat} (I : Inv X pins σ H s) (k : ∀ b u,s.heap.get? b=some u→h'.get? b=some u) (hp : s.heap.objs.size≤a) (new : ObjOk X.prog X.w (upd H a o) h' a o) :
    Inv X pins σ (upd H a o) { s with heap:=h',toks:=t' }:=I.un (Un.laid k hp (I.hok.fresh hp)) (I.hok.laid k hp new)
theorem Inv.write {x e : Addr} {o : HO} {t' : Nat} (I : Inv X pins σ H s) (mu : Mut (H x)) (he : e=x∨H e=some (.own x)) (k : ∀ b u,b≠e→s.heap.get? b=some u→h'.get? b=some u) (heo : ∃ u,h'.get? e=some u)
    (new : ObjOk X.prog X.w (upd H x o) h' x o) : Inv X pins σ (upd H x o) { s with heap:=h',toks:=t' }:=I.un (Un.write mu he k heo) (I.hok.write mu he k heo new)
theorem Inv.weak {σ' : List (Option V)} (I : Inv X pins σ H s) (hl : σ'.length=σ.length) (w : ∀ (i : Nat) v,σ'[i]? = some (some v)→σ[i]? = some (some v)) : Inv X pins σ' H s:=
  ⟨I.ok,I.os,I.bare,I.base,let ⟨m,hn,hl'⟩:=I.loc; ⟨m,hn,fun i x v e1 e2 e3=>hl' i x v e1 (w i v e2) e3⟩,I.cell,I.free,I.freeC,I.pin,I.hok,hl.trans I.len⟩
theorem Inv.pins_of {pins' : List (Addr×Obj)} (I : Inv X pins σ H s) (h : ∀ p∈pins',s.heap.get? p.1=some p.2∧H p.1=none∧p.1≠X.env.locals∧p.1 ∉ X.fs∧∀ v,p.2.data≠.cell v) : Inv X pins' σ H s:=
  ⟨I.ok,I.os,I.bare,I.base,I.loc,I.cell,I.free,I.freeC,fun p hp=>(List.mem_append.mp hp).elim (fun z=>I.pin p (List.mem_append_left _ z)) (h p),I.hok,I.len⟩
theorem nodup_ix {N : List Str} (hN : N.Nodup) {i j : Nat} {x : Str} (a : N[i]? = some x) (b : N[j]? = some x) : i=j:=by
  obtain ⟨h1,e1⟩:=List.getElem?_eq_some_iff.mp a
  obtain ⟨h2,e2⟩:=List.getElem?_eq_some_iff.mp b
  exact (List.getElem_inj hN).mp (e1.trans e2.symm)
theorem store_ok2 {M : Model} {A : Around} {E : Value→Shared→Prop} {i : Nat} {x : Str} {v : V} {u : Value} {Q : Unit→Shared→Prop} (I : Inv X pins σ H s) (hN : X.N.Nodup) (hi : X.N[i]? = some x) (hx : Loc X.env.scope x) (r : RelV v u)
    (h : ∀ s',Inv X pins (σ.set i (some v)) H s'→(∃ a,Heap.SameBut a s.heap s'.heap∧(a=X.env.locals∨X.env.cells.lookup x=some a))→Q () s') (hf : X.fn x=true∨X.env.scope.names.lookup x=some .local:=by first | exact .inl rfl | exact .inr rfl | assumption) : wpAny M A (storeName X.env x u) Q E s:=by
  obtain ⟨m,hn,hl⟩:=id I.loc
  have hcls : (X.env.scope.kind == .class || (X.env.scope.kind == .module && X.env.locals != X.env.globals))=false:=by rw [I.ok.kind]; rfl
  have hiσ : i < σ.length:=by rw [I.len]; exact (List.getElem?_eq_some_iff.mp hi).1
  have cne:=I.cne
  have tracked : ∀ {a : Addr} {h' : Heap},(∃ o,s.heap.get? a=some o∧H a=none)→Heap.SameBut a s.heap h'→HOk X.prog X.w H h':=fun {a h'} ha hs b ob e=>by
    obtain ⟨_,_,hfree⟩:=ha
    refine (I.hok b ob e).stay (fun c w' hc q=>(hs.2 c ?_).trans q) (fun _ q=>q) fun _ _ q=>q
    rintro rfl
    rcases hc with rfl | hc
    · rw [hfree] at e; cases e
    · rw [hfree] at hc; cases hc
  rcases hx with hk | hk
  · refine wpAny_storeName_local hk hn (fun h' hn' hs=>?_) hcls
    obtain ⟨oL,_,_,hoL,_⟩:=id hn
    refine h _ ⟨I.ok,I.os,I.bare,⟨fun b o e n hb hx=>?_,fun b o e n hb hx=>?_,I.base.free,fun b o e hx=>?_,I.base.tups,I.base.frzs,I.base.tbls⟩,⟨_,hn',fun j y v' e1 e2 e3=>?_⟩,fun y c e=>?_,I.free,I.freeC,fun p hp=>?_,tracked ⟨oL,hoL,I.free⟩ hs,by simpa using I.len⟩ ⟨_,hs,.inl rfl⟩
    · exact (hs.2 b (Nat.ne_of_lt (Nat.lt_of_lt_of_le (Heap.lt_size e) I.ok.above))).trans (I.base.keep b o e n hb hx)
    · obtain ⟨sl,e1⟩:=I.base.slot b o e n hb hx
      exact ⟨sl,(hs.2 b (Nat.ne_of_lt (Nat.lt_of_lt_of_le (Heap.lt_size e) I.ok.above))).trans e1⟩
    · obtain ⟨o',e1⟩:=I.base.there b o e hx
      exact ⟨o',(hs.2 b (Nat.ne_of_lt (Nat.lt_of_lt_of_le (Heap.lt_size e) I.ok.above))).trans e1⟩
    · by_cases hj : j=i
      · subst hj
        rw [hi] at e1; cases e1
        rw [List.getElem?_set_self hiσ] at e2
        cases e2
        exact ⟨u,r,.inl ⟨hk,by simp⟩⟩
      · rw [List.getElem?_set_ne (Ne.symm hj)] at e2
        obtain ⟨u',r',q⟩:=hl j y v' e1 e2 e3
        refine ⟨u',r',?_⟩
        rcases q with ⟨k,e⟩ | ⟨k,c,e,z⟩
        · refine .inl ⟨k,?_⟩
          have : y≠x:=fun e=>hj (nodup_ix hN e1 (e ▸ hi))
          simp [this,e]
        · exact .inr ⟨k,c,e,z.sameBut hs (cne y c e)⟩
    · obtain ⟨w',z⟩:=I.cell y c e
      exact ⟨w',z.sameBut hs (cne y c e)⟩
    · obtain ⟨e,n,ne,nf,d⟩:=I.pin p hp
      exact ⟨(hs.2 p.1 ne).trans e,n,ne,nf,d⟩
  · have hfn : X.fn x=true:=by
      rcases hf with z | z
      · exact z
      · rw [z] at hk; cases hk
    obtain ⟨c,hc⟩:=I.ok.has x (.inl hk)
    obtain ⟨w',z⟩:=I.cell x c hc
    refine wpAny_storeName_cell I.ok.kind hk hc z (fun h' hc' hs=>?_)
    obtain ⟨oc,hoc,hocd⟩:=id z
    refine h { s with heap:=h' } ⟨I.ok,I.os,I.bare,⟨fun b o e n hb hx=>?_,fun b o e n hb hx=>?_,I.base.free,fun b o e hx=>?_,I.base.tups,I.base.frzs,I.base.tbls⟩,⟨m,hn.sameBut hs (Ne.symm (cne x c hc)),fun j y v' e1 e2 e3=>?_⟩,fun y c' e=>?_,I.free,I.freeC,fun p hp=>?_,tracked ⟨oc,hoc,I.freeC x c hc⟩ hs,by simpa using I.len⟩ ⟨c,hs,.inr hc⟩
    · exact (hs.2 b (Nat.ne_of_lt (Nat.lt_of_lt_of_le (Heap.lt_size e) (I.ok.cab x c hfn hc)))).trans (I.base.keep b o e n hb hx)
    · obtain ⟨sl,e1⟩:=I.base.slot b o e n hb hx
      exact ⟨sl,(hs.2 b (Nat.ne_of_lt (Nat.lt_of_lt_of_le (Heap.lt_size e) (I.ok.cab x c hfn hc)))).trans e1⟩
    · obtain ⟨o',e1⟩:=I.base.there b o e hx
      exact ⟨o',(hs.2 b (Nat.ne_of_lt (Nat.lt_of_lt_of_le (Heap.lt_size e) (I.ok.cab x c hfn hc)))).trans e1⟩
    · by_cases hj : j=i
      · subst hj
        rw [hi] at e1; cases e1
        rw [List.getElem?_set_self hiσ] at e2
        cases e2
        exact ⟨u,r,.inr ⟨.inl hk,c,hc,hc'⟩⟩
      · rw [List.getElem?_set_ne (Ne.symm hj)] at e2
        obtain ⟨u',r',q⟩:=hl j y v' e1 e2 e3
        refine ⟨u',r',?_⟩
        rcases q with q | ⟨k,c',e,z'⟩
        · exact .inl q
        · refine .inr ⟨k,c',e,z'.sameBut hs ?_⟩
          rintro rfl
          exact hj (nodup_ix hN e1 (I.ok.inj _ _ _ e hc ▸ hi))
    · by_cases hcc : c' = c
      · subst hcc; exact ⟨_,hc'⟩
      · obtain ⟨w2,z2⟩:=I.cell y c' e
        exact ⟨w2,z2.sameBut hs hcc⟩
    · obtain ⟨e,n,ne,nf,d⟩:=I.pin p hp
      refine ⟨(hs.2 p.1 ?_).trans e,n,ne,nf,d⟩
      intro q
      rw [q,hoc] at e
      have q' : oc=p.2:=Option.some.inj e
      exact d w' (by rw [← q']; exact hocd)
theorem store_ok {M : Model} {A : Around} {E : Value→Shared→Prop} {i : Nat} {x : Str} {v : V} {u : Value} {Q : Unit→Shared→Prop} (I : Inv X pins σ H s) (hN : X.N.Nodup) (hi : X.N[i]? = some x) (hx : Loc X.env.scope x) (r : RelV v u)
    (h : ∀ s',Inv X pins (σ.set i (some v)) H s'→Q () s') (hf : X.fn x=true∨X.env.scope.names.lookup x=some .local:=by first | exact .inl rfl | exact .inr rfl | assumption) : wpAny M A (storeName X.env x u) Q E s:=
  store_ok2 I hN hi hx r (fun s' I' _=>h s' I') hf
theorem Inv.call' {s' : Shared} {ch : List Addr} (I : Inv X pins σ H s) (ho : s'.os=s.os) (u : Un (frs X.stack) ch H H' s.heap s'.heap) (hok : HOk X.prog X.w H' s'.heap) (hg : AllBare s'.gens)
    (hch : ∀ b∈ch,(b∈X.ex∨X.s₀.heap.objs.size≤b)∧b≠X.env.locals∧(∀ x c,X.env.cells.lookup x=some c→c≠b)∧∀ p∈X.pn ++ pins,p.1≠b) : Inv X pins σ H' s':=by
  obtain ⟨h',g',d',t',o'⟩:=s'
  have e : o' = s.os:=ho
  subst e
  exact I.call (g':=g') (t':=t') (d':=d') u hok hg hch
end
abbrev XK:=Value→Option Addr→Hp→Prop
abbrev St:=List (Option V)
abbrev VK:=V→Hp→Prop
abbrev TE:=St→Hp→VK→Prop
abbrev TT:=St→Hp→(Bool→Hp→Prop)→Prop
abbrev TA:=St→Hp→(List V→Hp→Prop)→Prop
structure Ends where
  nx : St→Hp→Prop
  rt : VK
  bk : St→Hp→Prop:=fun _ _=>False
  ct : St→Hp→Prop:=fun _ _=>False
abbrev TS:=Ends→St→Hp→Prop
def EP (X : Cx) (pins : List (Addr×Obj)) (σ : St) (Q : VK) (u : Value) (s' : Shared) : Prop:=∃ v H',Inv X pins σ H' s'∧RelV v u∧Q v H'
def TP (X : Cx) (pins : List (Addr×Obj)) (σ : St) (Q : Bool→Hp→Prop) (b : Bool) (s' : Shared) : Prop:=∃ H',Inv X pins σ H' s'∧Q b H'
def AP (X : Cx) (pins : List (Addr×Obj)) (σ : St) (Q : List V→Hp→Prop) (us : List Value) (s' : Shared) : Prop:=∃ vs H',Inv X pins σ H' s'∧Vals vs us∧Q vs H'
def SP (X : Cx) (pins : List (Addr×Obj)) (D : Ends) (f : Flow) (s' : Shared) : Prop:=
  match f with
  | .next=>∃ σ' H',Inv X pins σ' H' s'∧D.nx σ' H'
  | .brk=>∃ σ' H',Inv X pins σ' H' s'∧D.bk σ' H'
  | .cont=>∃ σ' H',Inv X pins σ' H' s'∧D.ct σ' H'
  | .ret u=>∃ v σ' H',Inv X pins σ' H' s'∧RelV v u∧D.rt v H'
def PE (X : Cx) (e : Expr) (t : TE) : Prop:=
  ∀ (pins : List (Addr×Obj)) (s : Shared) (σ : St) (H : Hp) (Q : VK),Inv X pins σ H s→t σ H Q→wpAny (model X.prog X.w) X.A (eval e X.env) (EP X pins σ Q) X.xe s
def PT (X : Cx) (e : Expr) (t : TT) : Prop:=
  ∀ (pins : List (Addr×Obj)) (s : Shared) (σ : St) (H : Hp) (Q : Bool→Hp→Prop),Inv X pins σ H s→t σ H Q→wpAny (model X.prog X.w) X.A (isTrue e X.env (eval e X.env)) (TP X pins σ Q) X.xe s
def PW (X : Cx) (e : Expr) (t : TT) : Prop:=
  ∀ (whole : Sem Value) (pins : List (Addr×Obj)) (s : Shared) (σ : St) (H : Hp) (Q : Bool→Hp→Prop),Inv X pins σ H s→t σ H Q→wpAny (model X.prog X.w) X.A (isTrue e X.env whole) (TP X pins σ Q) X.xe s
theorem PW.pt {X : Cx} {e : Expr} {t : TT} (h : PW X e t) : PT X e t:=h _
def PA (X : Cx) (es : List Expr) (t : TA) : Prop:=
  ∀ (pos : Pos) (pins : List (Addr×Obj)) (s : Shared) (σ : St) (H : Hp) (Q : List V→Hp→Prop),Inv X pins σ H s→t σ H Q→wpAny (model X.prog X.w) X.A (spliced (backTo pos (starEach es X.env))) (AP X pins σ Q) X.xe s
def PS (X : Cx) (st : Stmt) (t : TS) : Prop:=
  ∀ (pins : List (Addr×Obj)) (s : Shared) (σ : St) (H : Hp) (D : Ends),Inv X pins σ H s→t D σ H→wpAny (model X.prog X.w) X.A (exec st X.env) (SP X pins D) X.xe s
def PSs (X : Cx) (st : List Stmt) (t : TS) : Prop:=
  ∀ (pins : List (Addr×Obj)) (s : Shared) (σ : St) (H : Hp) (D : Ends),Inv X pins σ H s→t D σ H→wpAny (model X.prog X.w) X.A (execs st X.env) (SP X pins D) X.xe s
theorem thn {α : Type} {t : Sem α} {Q Q' : α→Shared→Prop} {M : Model} {A : Around} {E : Value→Shared→Prop} {s : Shared} (h : wpAny M A t Q E s) (hQ : ∀ a s,Q a s→Q' a s) : wpAny M A t Q' E s:=wpAny_mono h hQ fun _ _ x=>x
end L2
namespace L2
open PySem PySem.Spec PyProof.Rows
section
variable {X : Cx}
def tVar (i : Nat) : TE:=fun σ H Q=>∃ v,σ[i]? = some (some v)∧Q v H
def tC (v : V) : TE:=fun _ H Q=>Q v H
theorem pe_var {i : Nat} {x : Str} {pos : Pos} (hN : X.N[i]? = some x) (hv : Vis X.env.scope x) (hd : (x == ("__debug__" : Str))=false:=by decide) (hcd : (x == ("__classdict__" : Str))=false:=by decide) : PE X (.Name x pos) (tVar i):=by
  intro pins s σ H Q I h
  obtain ⟨v,e,h⟩:=h
  obtain ⟨m,hn,hl⟩:=I.loc
  obtain ⟨u,r,l⟩:=hl i x v hN e hv
  have fin : EP X pins σ Q u s:=⟨v,H,I,r,h⟩
  rcases l with ⟨hk,hm⟩ | ⟨hk,c,hc,hcell⟩
  · exact wpAny_Name (wpAny_loadName_local I.ok.kind hk hn hm fin) hd
  · rcases hk with hk | hk
    · exact wpAny_Name (wpAny_loadName_cell I.ok.kind hk hc hcell fin) hd
    · exact wpAny_Name (wpAny_loadName_free I.ok.kind hk hc hcell fin hcd) hd
theorem pe_int {i j pos} : PE X (.Constant (.int i) j pos) (tC (.int i)):=fun _ _ _ H _ I h=>wpAny_Constant_int ⟨.int i,H,I.tok _,⟨_,rfl⟩,h⟩
theorem pe_bl {b j pos} : PE X (.Constant (.bool b) j pos) (tC (.bl b)):=fun _ _ _ H _ I h=>Constant_bool ⟨.bl b,H,I,rfl,h⟩
theorem pe_non {j pos} : PE X (.Constant .none j pos) (tC .non):=fun _ _ _ H _ I h=>Constant_none ⟨.non,H,I,rfl,h⟩
theorem pe_str {x j pos} : PE X (.Constant (.str x) j pos) (tC (.str x)):=fun _ _ _ H _ I h=>Calls.Constant_str ⟨.str x,H,I.tok _,⟨_,rfl⟩,h⟩
def Gl (X : Cx) (x : Str) : Prop:=X.env.kindOf x=some .globalImplicit
theorem ld_glob {E : Value→Shared→Prop} {pins : List (Addr×Obj)} {s : Shared} {σ : St} {H : Hp} {x : Str} {u : Value} {pos : Pos} {Q : Value→Shared→Prop} (I : Inv X pins σ H s) (hg : Gl X x) (hm : X.mg x=some u) (h : Q u s)
    (hd : (x == ("__debug__" : Str))=false:=by decide) : wpAny (model X.prog X.w) X.A (eval (.Name x pos) X.env) Q E s :=
  Calls.Name_function_global I.ok.kind hg (Calls.loadGlobal_global (by rw [I.ok.glob]; exact I.mod.glob.keeps I.bk) hm h) hd
theorem ld_blt {E : Value→Shared→Prop} {pins : List (Addr×Obj)} {s : Shared} {σ : St} {H : Hp} {x : Str} {u : Value} {pos : Pos} {Q : Value→Shared→Prop} (I : Inv X pins σ H s) (hg : Gl X x) (hm : X.mg x=none) (hv : bootBuiltins x=some u) (h : Q u s)
    (hn : x ≠ "__name__" := by decide) (hd : (x == ("__debug__" : Str))=false:=by decide) : wpAny (model X.prog X.w) X.A (eval (.Name x pos) X.env) Q E s:=by
  obtain ⟨mb,h1,h2⟩:=I.mod.blt
  exact Calls.Name_function_global I.ok.kind hg (Calls.loadGlobal_builtin (by rw [I.ok.glob]; exact I.mod.glob.keeps I.bk) hm (by rw [I.ok.blt]; exact h1.keeps I.bk) ((h2 x hn).trans hv) h) hd
theorem pe_glob {x : Str} {v : V} {u : Value} {pos : Pos} (hg : Gl X x) (hm : X.mg x=some u) (r : RelV v u) (hd : (x == ("__debug__" : Str))=false:=by decide) : PE X (.Name x pos) (tC v) :=
  fun _ _ _ H _ I h=>ld_glob I hg hm ⟨v,H,I,r,h⟩ hd
variable {a b : Expr} {ta tb : TE} {pos : Pos}
variable {tA tB' : TT} {rest : List Expr}
def tAnd (t u : TT) : TT:=fun σ H Q=>t σ H fun c H1=>if c=true then u σ H1 Q else Q false H1
def tOr (t u : TT) : TT:=fun σ H Q=>t σ H fun c H1=>if c=true then Q true H1 else u σ H1 Q
def tNot (t : TT) : TT:=fun σ H Q=>t σ H fun c H1=>Q (!c) H1
theorem pw_and1 (ha : PT X a tA) : PW X (.BoolOp .And [a] pos) tA:=by
  intro wh pins s σ H Q I h
  refine isTrue_and (thn (ha pins s σ H Q I h) fun c s1 e=>?_)
  cases c with
  | true=>exact isTrue_and_nil e
  | false=>exact e
theorem pw_or1 (ha : PT X a tA) : PW X (.BoolOp .Or [a] pos) tA:=by
  intro wh pins s σ H Q I h
  refine isTrue_or (thn (ha pins s σ H Q I h) fun c s1 e=>?_)
  cases c with
  | false=>exact isTrue_or_nil e
  | true=>exact e
theorem pw_and (ha : PT X a tA) (hb : PW X (.BoolOp .And (b :: rest) pos) tB') : PW X (.BoolOp .And (a :: b :: rest) pos) (tAnd tA tB'):=by
  intro wh pins s σ H Q I h
  refine isTrue_and (thn (ha pins s σ H _ I h) fun c s1 ⟨H1,I1,q1⟩=>?_)
  cases c with
  | true=>exact hb wh pins s1 σ H1 Q I1 q1
  | false=>exact ⟨H1,I1,q1⟩
theorem pw_or (ha : PT X a tA) (hb : PW X (.BoolOp .Or (b :: rest) pos) tB') : PW X (.BoolOp .Or (a :: b :: rest) pos) (tOr tA tB'):=by
  intro wh pins s σ H Q I h
  refine isTrue_or (thn (ha pins s σ H _ I h) fun c s1 ⟨H1,I1,q1⟩=>?_)
  cases c with
  | true=>exact ⟨H1,I1,q1⟩
  | false=>exact hb wh pins s1 σ H1 Q I1 q1
theorem pt_not (ha : PT X a tA) : PT X (.UnaryOp .Not a pos) (tNot tA):=by
  intro pins s σ H Q I h
  exact isTrue_not (ha pins s σ H (fun c H1=>Q (!c) H1) I h)
def tAndV (ta tb : TE) : TE:=fun σ H Q=>ta σ H fun x H1=>∃ c,x = .bl c∧if c=true then tb σ H1 Q else Q (.bl false) H1
theorem pe_one {op} {t : TE} (h : PE X a t) : PE X (.BoolOp op [a] pos) t:=fun pins s σ H Q I hw=>BoolOp_one (h pins s σ H Q I hw)
theorem pe_and (ha : PE X a ta) (hb : PE X (.BoolOp .And (b :: rest) pos) tb) : PE X (.BoolOp .And (a :: b :: rest) pos) (tAndV ta tb):=by
  intro pins s σ H Q I h
  refine BoolOp_and (thn (ha pins s σ H _ I h) fun v s1 ⟨x,H1,I1,r1,q1⟩=>?_)
  obtain ⟨c,rfl,q1⟩:=q1
  cases r1
  refine wpAny_truthy_bool ?_
  cases c with
  | true=>exact hb pins s1 σ H1 Q I1 q1
  | false=>exact ⟨.bl false,H1,I1,rfl,q1⟩
def tIf (t : TT) (ta tb : TE) : TE:=fun σ H Q=>t σ H fun c H1=>if c=true then ta σ H1 Q else tb σ H1 Q
theorem pe_ifExp {c : Expr} (hc : PT X c tA) (ha : PE X a ta) (hb : PE X b tb) : PE X (.IfExp c a b pos) (tIf tA ta tb):=by
  intro pins s σ H Q I h
  refine wpAny_IfExp (thn (hc pins s σ H _ I h) fun d s1 ⟨H1,I1,q1⟩=>?_)
  cases d with
  | true=>exact ha pins s1 σ H1 Q I1 q1
  | false=>exact hb pins s1 σ H1 Q I1 q1
end
end L2
namespace L2
open PySem PySem.Spec PyProof.Rows
def SqL (K : PySem.W.Frag) (H : Hp) (a : Addr) (xs : List V) : Prop:=
  Rd H a (.lst xs)∨
    ∃ (o : Obj) (its : Array Value) (n : Nat),K.lookup a=some o∧o.cls = .type "list" ∧ o.dict=none∧o.data = .seq its n∧its.size≤sizeLine∧Vals xs its.toList
def SqT (K : PySem.W.Frag) (H : Hp) (a : Addr) (xs : List V) : Prop:=
  Rd H a (.tup xs)∨
    ∃ (o : Obj) (its : Array Value) (n : Nat),K.lookup a=some o∧o.cls = .type "tuple" ∧ o.data = .seq its n∧its.size≤sizeLine∧Vals xs its.toList
def absV : Value→Option V
  | .none=>some .non
  | .bool b=>some (.bl b)
  | .int i _=>some (.int i)
  | .str x _=>some (.str x)
  | .bytes b _=>some (.byt b)
  | .float b _=>some (.flt b)
  | .ref a=>some (.ref a)
  | .type n=>some (.ty n)
  | _=>none
theorem RelV.abs {x : V} {u : Value} (r : RelV x u) : absV u=some x:=by
  cases x with
  | non=>cases r; rfl
  | bl _=>cases r; rfl
  | int _=>obtain ⟨t,rfl⟩:=r; rfl
  | str _=>obtain ⟨t,rfl⟩:=r; rfl
  | byt _=>obtain ⟨t,rfl⟩:=r; rfl
  | flt _=>obtain ⟨t,rfl⟩:=r; rfl
  | ref _=>cases r; rfl
  | ty _=>cases r; rfl
theorem RelV.inj {x y : V} {u : Value} (r : RelV x u) (q : RelV y u) : x=y:=Option.some.inj (r.abs.symm.trans q.abs)
theorem Vals.inj : ∀ {xs ys : List V} {us : List Value},Vals xs us→Vals ys us→xs=ys
  | _,_,_,.nil,.nil=>rfl
  | _,_,_,.cons r t,.cons r' t'=>by rw [r.inj r',Vals.inj t t']
section
variable {X : Cx} {pins : List (Addr×Obj)} {σ : St} {H : Hp} {s : Shared} {a : Addr} {xs ys : List V}
theorem SqL.of {K : PySem.W.Frag} (h : H a=some (.lst xs)) : SqL K H a xs:=.inl (.inl h)
theorem SqT.of {K : PySem.W.Frag} (h : H a=some (.tup xs)) : SqT K H a xs:=.inl (.inl h)
theorem Inv.list (I : Inv X pins σ H s) (h : SqL X.K H a xs) : ∃ its : List Value,Vals xs its∧PlainL s.heap a its.toArray∧xs.length≤sizeLine:=by
  rcases h with h | ⟨o,its,n,hk,hc,hd,hs,hz,r⟩
  · obtain ⟨z,its,n,r,e⟩:=h.ok I.hok
    exact ⟨its,r,⟨_,n,e,rfl,rfl,rfl⟩,z⟩
  · refine ⟨its.toList,r,⟨o,n,I.kIn a o hk,hc,hd,by simpa using hs⟩,?_⟩
    have e:=r.length
    simp only [Array.length_toList] at e
    omega
theorem Inv.tuple (I : Inv X pins σ H s) (h : SqT X.K H a xs) : ∃ its : List Value,Vals xs its∧IsTup s.heap a its.toArray∧xs.length≤sizeLine:=by
  rcases h with h | ⟨o,its,n,hk,hc,hs,hz,r⟩
  · obtain ⟨z,its,r,p⟩:=h.ok I.hok
    exact ⟨its,r,p,z⟩
  · refine ⟨its.toList,r,⟨o,I.kIn a o hk,hc,n,by simpa using hs⟩,?_⟩
    have e:=r.length
    simp only [Array.length_toList] at e
    omega
theorem Inv.list_inj (I : Inv X pins σ H s) (h : SqL X.K H a xs) (h' : SqL X.K H a ys) : xs=ys:=by
  obtain ⟨its,r,⟨o,n,e,_,_,d⟩,_⟩:=I.list h
  obtain ⟨its',r',⟨o',n',e',_,_,d'⟩,_⟩:=I.list h'
  rw [e] at e'; cases e'
  rw [d] at d'
  injection d' with d1 _
  have : its=its':=by simpa using congrArg Array.toList d1
  subst this
  exact r.inj r'
end
abbrev Cx.wish (X : Cx) (E : Value→Shared→Prop) : Cx:={ X with xe:=E }
abbrev Cx.nox (X : Cx) : Cx:=X.wish fun _ _=>False
theorem Cx.Ok.wish {X : Cx} (ok : X.Ok) (E : Value→Shared→Prop) : (X.wish E).Ok:=
  ⟨ok.mod,ok.kind,ok.glob,ok.blt,ok.above,ok.inj,ok.has,ok.cab,ok.hd,ok.frames,ok.stk,ok.exf,ok.bs,ok.bsz,ok.noex,ok.exfs,ok.funs,ok.frf⟩
theorem Cx.Ok.unwish {X : Cx} {E : Value→Shared→Prop} (ok : (X.wish E).Ok) : X.Ok:=
  ⟨ok.mod,ok.kind,ok.glob,ok.blt,ok.above,ok.inj,ok.has,ok.cab,ok.hd,ok.frames,ok.stk,ok.exf,ok.bs,ok.bsz,ok.noex,ok.exfs,ok.funs,ok.frf⟩
section
variable {X : Cx} {pins : List (Addr×Obj)} {σ : St} {H : Hp} {s : Shared} {E : Value→Shared→Prop}
theorem Inv.wish (I : Inv X pins σ H s) (E : Value→Shared→Prop) : Inv (X.wish E) pins σ H s:=⟨I.ok.wish E,I.os,I.bare,I.base,I.loc,I.cell,I.free,I.freeC,I.pin,I.hok,I.len⟩
theorem Inv.unwish (I : Inv (X.wish E) pins σ H s) : Inv X pins σ H s:=⟨I.ok.unwish,I.os,I.bare,I.base,I.loc,I.cell,I.free,I.freeC,I.pin,I.hok,I.len⟩
theorem SP.unwish {D : Ends} {f : Flow} {s' : Shared} (h : SP (X.wish E) pins D f s') : SP X pins D f s':=by
  cases f with
  | next=>obtain ⟨σ',H',I,q⟩:=h; exact ⟨σ',H',I.unwish,q⟩
  | brk=>obtain ⟨σ',H',I,q⟩:=h; exact ⟨σ',H',I.unwish,q⟩
  | cont=>obtain ⟨σ',H',I,q⟩:=h; exact ⟨σ',H',I.unwish,q⟩
  | ret u=>obtain ⟨v,σ',H',I,r,q⟩:=h; exact ⟨v,σ',H',I.unwish,r,q⟩
theorem PSs.nox {st : List Stmt} {t : TS} (h : PSs X.nox st t) : PSs X st t:=fun pins s σ H D I hw=>
  wpAny_mono (h pins s σ H D (I.wish _) hw) (fun _ _ q=>q.unwish) fun _ _ z=>False.elim z
end
section
variable {X : Cx} {st : Stmt} {rest : List Stmt} {t u : TS} {e : Expr} {te : TE} {pos : Pos}
def tNext : TS:=fun D σ H=>D.nx σ H
def tSeq (t u : TS) : TS:=fun D σ H=>t { D with nx:=u D } σ H
theorem pss_nil : PSs X [] tNext:=fun _ _ σ H _ I h=>wpAny_execs_nil ⟨σ,H,I,h⟩
theorem pss_cons (h1 : PS X st t) (h2 : PSs X rest u) : PSs X (st :: rest) (tSeq t u):=by
  intro pins s σ H D I h
  refine wpAny_execs_cons (thn (h1 pins s σ H { D with nx:=u D } I h) fun f s1 q=>?_)
  cases f with
  | next=>
    obtain ⟨σ',H',I',q⟩:=q
    exact h2 pins s1 σ' H' D I' q
  | ret v=>exact q
  | brk=>exact q
  | cont=>exact q
theorem pss_one (h1 : PS X st t) : PSs X [st] t:=by
  intro pins s σ H D I h
  refine wpAny_execs_cons (thn (h1 pins s σ H D I h) fun f s1 q=>?_)
  cases f with
  | next=>exact wpAny_execs_nil q
  | ret v=>exact q
  | brk=>exact q
  | cont=>exact q
theorem Inv.quiet {pins : List (Addr×Obj)} {σ : St} {H : Hp} {s : Shared} (I : Inv X pins σ H s) : interactive X.env=false:=by simp [interactive,I.ok.kind]
def tDrop (te : TE) : TS:=fun D σ H=>te σ H fun _ H1=>D.nx σ H1
theorem ps_expr (he : PE X e te) (hs : swapsWith e none pos.line X.env=pure false:=by rfl) : PS X (.Expr e pos) (tDrop te):=by
  intro pins s σ H D I h
  exact wpAny_Expr_any (thn (he pins s σ H _ I h) fun v s1 ⟨x,H1,I1,r1,q1⟩=>⟨σ,H1,I1,q1⟩) I.quiet hs
def tRet (te : TE) : TS:=fun D σ H=>te σ H D.rt
theorem ps_ret (he : PE X e te) : PS X (.Return (some e) pos) (tRet te):=by
  intro pins s σ H D I h
  exact wpAny_Return_some (thn (he pins s σ H _ I h) fun v s1 ⟨x,H1,I1,r1,q1⟩=>⟨x,σ,H1,I1,r1,q1⟩)
def tIfS (c : TT) (t u : TS) : TS:=fun D σ H=>c σ H fun b H1=>if b=true then t D σ H1 else u D σ H1
theorem ps_if {c : Expr} {a b : List Stmt} {tc : TT} (hc : PT X c tc) (ha : PSs X a t) (hb : PSs X b u) : PS X (.If c a b pos) (tIfS tc t u):=by
  intro pins s σ H D I h
  refine wpAny_If (thn (hc pins s σ H _ I h) fun d s1 ⟨H1,I1,q1⟩=>?_)
  cases d with
  | true=>exact ha pins s1 σ H1 D I1 q1
  | false=>exact hb pins s1 σ H1 D I1 q1
end
abbrev TG:=V→St→Hp→(St→Hp→Prop)→Prop
abbrev TGs:=List V→St→Hp→(St→Hp→Prop)→Prop
def PG (X : Cx) (target : Expr) (t : TG) : Prop:=
  ∀ (pins : List (Addr×Obj)) (s : Shared) (σ : St) (H : Hp) (v : V) (u : Value) (Q : St→Hp→Prop),Inv X pins σ H s→RelV v u→t v σ H Q→
    wpAny (model X.prog X.w) X.A (assign target X.env u) (fun _ s'=>∃ σ' H',Inv X pins σ' H' s'∧Q σ' H') X.xe s
def PGs (X : Cx) (ts : List Expr) (t : TGs) : Prop:=
  ∀ (pins : List (Addr×Obj)) (s : Shared) (σ : St) (H : Hp) (vs : List V) (us : List Value) (Q : St→Hp→Prop),Inv X pins σ H s→Vals vs us→t vs σ H Q→
    wpAny (model X.prog X.w) X.A (assignInOrder ((assignEach ts X.env).map (·.2)) us) (fun _ s'=>∃ σ' H',Inv X pins σ' H' s'∧Q σ' H') X.xe s
abbrev TSet:=V→V→V→Hp→(Hp→Prop)→Prop
def PSet (X : Cx) (t : TSet) : Prop:=
  ∀ (pins : List (Addr×Obj)) (s : Shared) (σ : St) (H : Hp) (o i v : V) (ov iv u : Value) (Q : Hp→Prop),Inv X pins σ H s→RelV o ov→RelV i iv→RelV v u→t o i v H Q→
    wpAny (model X.prog X.w) X.A (setItem ov iv u) (fun _ s'=>∃ H',Inv X pins σ H' s'∧Q H') X.xe s
section
variable {X : Cx} {pos : Pos}
def gName (i : Nat) : TG:=fun v σ H Q=>Q (σ.set i (some v)) H
theorem pg_name {i : Nat} {x : Str} (hN : X.N.Nodup) (hi : X.N[i]? = some x) (hx : Loc X.env.scope x) (hf : X.fn x=true∨X.env.scope.names.lookup x=some .local:=by first | exact .inl rfl | exact .inr rfl | assumption) : PG X (.Name x pos) (gName i):=by
  intro pins s σ H v u Q I r h
  exact wpAny_assign_Name (store_ok I hN hi hx r (fun s' I'=>⟨_,H,I',h⟩) hf)
def gNil : TGs:=fun vs σ H Q=>vs=[]∧Q σ H
def gCons (t : TG) (u : TGs) : TGs:=fun vs σ H Q=>∃ v r,vs=v :: r∧t v σ H fun σ' H'=>u r σ' H' Q
theorem pgs_nil : PGs X [] gNil:=by
  intro pins s σ H vs us Q I r h
  obtain ⟨e,h⟩:=h
  subst e
  cases r
  exact assignInOrder_nil ⟨σ,H,I,h⟩
theorem pgs_cons {e : Expr} {es : List Expr} {t : TG} {u : TGs} (h1 : PG X e t) (h2 : PGs X es u)
    (hs : (assignEach (e :: es) X.env).map (·.2)=assign e X.env :: (assignEach es X.env).map (·.2):=by rfl) : PGs X (e :: es) (gCons t u):=by
  intro pins s σ H vs us Q I r h
  obtain ⟨v,vr,e1,h⟩:=h
  subst e1
  cases r with
  | cons r rr=>
    rw [hs]
    refine assignInOrder_cons (thn (h1 pins s σ H _ _ _ I r h) fun _ s1 ⟨σ1,H1,I1,q1⟩=>?_)
    exact h2 pins s1 σ1 H1 _ _ Q I1 rr q1
def gTup (K : PySem.W.Frag) (n : Nat) (t : TGs) : TG:=fun v σ H Q=>∃ a xs,v = .ref a∧SqT K H a xs∧xs.length=n∧t xs σ H Q
theorem pg_tup {es : List Expr} {k : Nat} {t : TGs} {n : Nat} (hc : X.calm=true) (h : PGs X es t)
    (hn : (assignEach es X.env).length=n:=by rfl) (hst : (assignEach es X.env).findIdx? (·.1)=none:=by rfl) : PG X (.Tuple es k pos) (gTup X.K n t):=by
  intro pins s σ H v u Q I r hw
  obtain ⟨a,xs,e1,hq,hl,hw⟩:=hw
  subst e1
  cases r
  obtain ⟨its,rv,ht,hz⟩:=I.tuple hq
  refine assign_Tuple_tuple (I.ok.hd hc) ht (by simp [hn,← hl,rv.length]) hst fun h' hx=>?_
  have I1 : Inv X pins σ H { s with heap:=h' }:=I.kept (t':=s.toks) fun b o e=>hx b o (Nat.ne_of_lt (Heap.lt_size e)) e
  exact h pins _ σ H xs _ Q I1 (by simpa using rv) hw
def gSub (to ti : TE) (t : TSet) : TG:=fun v σ H Q=>to σ H fun o H1=>ti σ H1 fun i H2=>t o i v H2 fun H3=>Q σ H3
theorem pg_sub {o i : Expr} {to ti : TE} {t : TSet} (ho : PE X o to) (hi : PE X i ti) (hs : PSet X t)
    (ha : ∀ v,assign (.Subscript o i pos) X.env v=(do
      let ov ← holding [v] (eval o X.env)
      let iv ← holding [v,ov] (eval i X.env)
      standAt pos
      holding [v,ov,iv] (setItem ov iv v)
      release [v,ov,iv] []):=by intro _; rfl) : PG X (.Subscript o i pos) (gSub to ti t):=by
  intro pins s σ H v u Q I r h
  rw [ha]
  refine wpAny_bind (wpAny_holding (thn (ho pins s σ H _ I h) fun ov s1 ⟨x,H1,I1,r1,q1⟩=>?_))
  refine wpAny_bind (wpAny_holding (thn (hi pins s1 σ H1 _ I1 q1) fun iv s2 ⟨y,H2,I2,r2,q2⟩=>?_))
  refine wpAny_bind (wpAny_standAt (wpAny_bind (wpAny_holding (thn (hs pins s2 σ H2 x y v ov iv u _ I2 r1 r2 r q2) fun _ s3 ⟨H3,I3,q3⟩=>?_))))
  exact wpAny_release ⟨σ,H3,I3,q3⟩
def tAsg (te : TE) (g : TG) : TS:=fun D σ H=>te σ H fun x H1=>g x σ H1 D.nx
theorem ps_asg {tg e : Expr} {te : TE} {g : TG} (he : PE X e te) (hg : PG X tg g) (hs : swapsWithSole [tg] e pos.line X.env=pure false:=by rfl) (hw : swappedStores [tg] e X.env=pure none:=by rfl)
    (h1 : (assignEach [tg] X.env).map (·.2)=[assign tg X.env]:=by rfl) : PS X (.Assign [tg] e pos) (tAsg te g):=by
  intro pins s σ H D I h
  refine wpAny_Assign_stores (thn (he pins s σ H _ I h) fun v s1 ⟨x,H1,I1,r1,q1⟩=>?_) hs hw
  rw [h1]
  exact thn (hg pins s1 σ H1 x v _ I1 r1 q1) fun _ s2 q=>q
theorem ps_set {i : Nat} {x : Str} {e : Expr} {te : TE} {pos' : Pos} (hN : X.N.Nodup) (hi : X.N[i]? = some x) (hx : Loc X.env.scope x) (he : PE X e te) (hs : swapsWith e (some (.Name x pos')) pos.line X.env=pure false:=by rfl) (hf : X.fn x=true∨X.env.scope.names.lookup x=some .local:=by first | exact .inl rfl | exact .inr rfl | assumption) :
    PS X (.Assign [.Name x pos'] e pos) (tAsg te (gName i)):=by
  intro pins s σ H D I h
  refine wpAny_Assign_Name (thn (he pins s σ H _ I h) fun v s1 ⟨y,H1,I1,r1,q1⟩=>?_) hs
  exact store_ok I1 hN hi hx r1 (fun s2 I2=>⟨_,H1,I2,q1⟩) hf
end
section
variable {X : Cx} {pos : Pos}
end
structure It where
  go : Nat→Hp→Prop
  yld : Nat→Hp→V→Hp→Prop
  stop : Nat→Hp→Prop
def FpOk (X : Cx) (pins : List (Addr×Obj)) (H : Hp) (b : Addr) : Prop:=
  H b=none∧b≠X.env.locals∧b ∉ X.fs∧(b∈X.ex∨X.s₀.heap.objs.size≤b)∧(∀ x c,X.env.cells.lookup x=some c→c≠b)∧∀ p∈X.pn ++ pins,p.1≠b
theorem Inv.fpOk {X : Cx} {pins : List (Addr×Obj)} {σ : St} {H H' : Hp} {s : Shared} {b : Addr} (I : Inv X pins σ H s) (hb : s.heap.objs.size≤b) (hn : H' b=none) : FpOk X pins H' b:=by
  refine ⟨hn,Nat.ne_of_gt (Nat.lt_of_lt_of_le I.lt hb),I.nofs hb,.inr (Nat.le_trans I.sz hb),fun x c e z=>?_,fun p hp z=>?_⟩
  · obtain ⟨v,q⟩:=I.cell x c e
    exact absurd (Nat.lt_of_lt_of_le q.lt (by rw [z]; exact hb)) (Nat.lt_irrefl _)
  · exact absurd (Nat.lt_of_lt_of_le (Heap.lt_size (I.pin p hp).1) (by rw [z]; exact hb)) (Nat.lt_irrefl _)
structure Turn (P : Program) (w : World) (K : PySem.W.Frag) (tg : Expr) (J : It) (fp : List Addr) (it : Addr) (tn : Nat→Heap→Prop) : Prop where
  mem : it∈fp
  obj : ∀ i h,tn i h→∀ b∈fp,∃ o,h.get? b=some o∧∀ v,o.data≠.cell v
  keep : ∀ i h h',tn i h→(∀ b∈fp,∀ o,h.get? b=some o→h'.get? b=some o)→tn i h'
  item : ∀ (X : Cx),X.prog=P→X.w=w→X.K=K→X.calm=true→∀ (i : Nat) (pins : List (Addr×Obj)) (s : Shared) (σ : St) (H : Hp) (E : Value→Shared→Prop),Inv X pins σ H s→(∀ b∈fp,FpOk X pins H b)→tn i s.heap→J.go i H→
    wpAny (model P w) X.A (pyNext (.ref it)) (fun r s1=>∃ u,r=some u∧
      wpAny (model P w) X.A (letOwnedTupleGo tg (.ref it) u) (fun _ s2=>∃ x H',Inv X pins σ H' s2∧RelV x u∧J.yld i H x H'∧tn (i + 1) s2.heap∧∀ b∈fp,H' b=none) E s1) E s
  done : ∀ (X : Cx),X.prog=P→X.w=w→X.K=K→X.calm=true→∀ (i : Nat) (pins : List (Addr×Obj)) (s : Shared) (σ : St) (H : Hp) (E : Value→Shared→Prop),Inv X pins σ H s→(∀ b∈fp,FpOk X pins H b)→tn i s.heap→J.stop i H→
    wpAny (model P w) X.A (pyNext (.ref it)) (fun r s1=>r=none∧Inv X pins σ H s1) E s
  self : ∀ (A : Around) (i : Nat) (s : Shared) (Q : Value→Shared→Prop) (E : Value→Shared→Prop),tn i s.heap→Q (.ref it) s→wpAny (model P w) A (pyIter (.ref it)) Q E s
abbrev TI:=St→Hp→(It→Hp→Prop)→Prop
def PIE (X : Cx) (pins : List (Addr×Obj)) (σ : St) (tg : Expr) (R : It→Hp→Prop) (itv : Value) (s2 : Shared) : Prop:=
  ∃ (it : Addr) (fp : List Addr) (tn : Nat→Heap→Prop) (J : It) (H' : Hp),itv = .ref it∧Inv X pins σ H' s2∧Turn X.prog X.w X.K tg J fp it tn∧tn 0 s2.heap∧(∀ b∈fp,FpOk X pins H' b)∧R J H'
def PI (X : Cx) (tg iter : Expr) (wi : TI) : Prop:=
  ∀ (pins : List (Addr×Obj)) (s : Shared) (σ : St) (H : Hp) (R : It→Hp→Prop),Inv X pins σ H s→wi σ H R→
    wpAny (model X.prog X.w) X.A (eval iter X.env) (fun v s1=>wpAny (model X.prog X.w) X.A (pyIter v) (PIE X pins σ tg R) X.xe s1) X.xe s
theorem go_of {M : Model} {A : Around} {E : Value→Shared→Prop} {s : Shared} {tg : Expr} {it : Addr} {u : Value} {o : Obj} {n : String} {vs : Array Value} {Q : Unit→Shared→Prop} (ho : s.heap.get? it=some o) (hc : o.cls = .type n) (hd : o.data = .fields vs)
    (hn : ["enumerate","zip","dict_itemiterator","dict_reverseitemiterator","odict_iterator","itertools.zip_longest","itertools.pairwise"].contains n=false) (hQ : Q () s) : wpAny M A (letOwnedTupleGo tg (.ref it) u) Q E s:=by
  unfold letOwnedTupleGo
  cases tg <;> first
    | exact wpAny_pure hQ
    | (cases u <;> first
        | exact wpAny_pure hQ
        | (refine wpAny_bind (wpAny_load ho ?_)
           rw [hc,hd]
           show wpAny M A (if (["enumerate","zip","dict_itemiterator","dict_reverseitemiterator","odict_iterator","itertools.zip_longest","itertools.pairwise"].contains n && vs[0]? == some (rawInt _))=true then _ else _) Q E s
           rw [if_neg (by intro h; rw [hn,Bool.false_and] at h; cases h)]
           exact wpAny_pure hQ))
def Itl (K : PySem.W.Frag) (a : Addr) : It:=
  ⟨fun i H=>∃ xs x,SqL K H a xs∧xs[i]? = some x,fun i H x H'=>H' = H∧∀ xs,SqL K H a xs→xs[i]? = some x,fun i H=>∃ xs,SqL K H a xs∧xs.length≤i⟩
def Itr (lo : Int) (n : Nat) : It:=⟨fun i _=>i < n,fun i H x H'=>H' = H∧x = .int (lo + i),fun i _=>n≤i⟩
theorem turn_list {P : Program} {w : World} {K : PySem.W.Frag} {tg : Expr} (a it : Addr) : Turn P w K tg (Itl K a) [it] it (fun i h=>h.IsListIter it a i) where
  mem:=by simp
  obj:=fun i h st b hb=>by
    have e : b=it:=by simpa using hb
    subst e
    obtain ⟨o,e,c,d⟩:=st
    exact ⟨o,e,fun v z=>by rw [d] at z; cases z⟩
  keep:=fun i h h' st k=>st.at fun o e=>k it (by simp) o e
  item:=by
    intro X hP hw hK hc i pins s σ H E I hf st hg
    subst hP hw hK
    obtain ⟨xs,x,hq,hx⟩:=hg
    obtain ⟨its,rv,p,hz⟩:=I.list hq
    obtain ⟨u,hu,ru⟩:=rv.get hx
    obtain ⟨f0,f1,f2,f3,f4,f5⟩:=hf it (by simp)
    refine wpAny_pyNext_list_item st p.isList (x:=u) (by simpa using hu) fun h' st' sb=>?_
    have I1 : Inv X pins σ H { s with heap:=h' }:=I.turned (t':=s.toks) (fun b o hb e=>(sb.2 b hb).trans e) f0 f1 f3 f4 f5
    obtain ⟨o,e,c,d⟩:=id st'
    exact ⟨u,rfl,go_of (s:={ s with heap:=h' }) e c d (by decide) ⟨x,H,I1,ru,⟨rfl,fun ys hy=>by rw [I.list_inj hy hq]; exact hx⟩,st',fun b hb=>(hf b hb).1⟩⟩
  done:=by
    intro X hP hw hK hc i pins s σ H E I hf st hg
    subst hP hw hK
    obtain ⟨xs,hq,hx⟩:=hg
    obtain ⟨its,rv,p,hz⟩:=I.list hq
    obtain ⟨f0,f1,f2,f3,f4,f5⟩:=hf it (by simp)
    have hl:=rv.length
    exact wpAny_pyNext_list_end (I.ok.hd hc) st p.isList (by simp; omega) fun h' eb=>⟨rfl,I.turned (t':=s.toks) (fun b o hb e=>eb b o hb e) f0 f1 f3 f4 f5⟩
  self:=fun _ _ _ _ _ st h=>wpAny_pyIter_listiter st h
theorem turn_range {P : Program} {w : World} {K : PySem.W.Frag} {tg : Expr} (it : Addr) (lo : Int) (n : Nat) : Turn P w K tg (Itr lo n) [it] it (fun i h=>IsRangeIter h it (lo + (i : Nat) * 1) ((n : Int) - (i : Nat)) 1) where
  mem:=by simp
  obj:=fun i h st b hb=>by
    have e : b=it:=by simpa using hb
    subst e
    exact ⟨_,st,fun v z=>by
      have z' : Data.fields _=Data.cell v:=z
      cases z'⟩
  keep:=fun i h h' st k=>k it (by simp) _ st
  item:=by
    intro X hP hw hK hc i pins s σ H E I hf st hg
    subst hP hw hK
    obtain ⟨f0,f1,f2,f3,f4,f5⟩:=hf it (by simp)
    have W:=Walks.range (prog:=X.prog) (w:=X.w) (I.ok.hd hc) it lo 1 n
    refine W.item i s _ _ hg st fun v h' tk hv st' kk=>?_
    obtain ⟨t,rfl⟩:=hv
    have I1 : Inv X pins σ H { s with heap:=h',toks:=tk }:=I.turned (fun b o hb e=>kk b o (by simpa using hb) e) f0 f1 f3 f4 f5
    refine ⟨_,rfl,go_of (s:={ s with heap:=h',toks:=tk }) (n := "range_iterator") st' rfl rfl (by decide) ⟨.int (lo + i),H,I1,⟨t,?_⟩,⟨rfl,rfl⟩,st',fun b hb=>(hf b hb).1⟩⟩
    rw [Int.mul_one]
  done:=by
    intro X hP hw hK hc i pins s σ H E I hf st hg
    subst hP hw hK
    obtain ⟨f0,f1,f2,f3,f4,f5⟩:=hf it (by simp)
    exact wpAny_pyNext_range_end (I.ok.hd hc) st (by have : n≤i:=hg; omega) fun h' eb=>⟨rfl,I.turned (t':=s.toks) (fun b o hb e=>eb b o hb e) f0 f1 f3 f4 f5⟩
  self:=fun _ _ _ _ _ st h=>wpAny_pyIter_rangeiter st h
end L2
namespace L2
open PySem PySem.Spec PyProof.Rows
section
variable {X : Cx} {tg : Expr}
def iList (K : PySem.W.Frag) (tl : TE) : TI:=fun σ H R=>tl σ H fun x H1=>∃ a,x = .ref a∧(∃ xs,SqL K H1 a xs)∧R (Itl K a) H1
theorem pi_list {l : Expr} {tl : TE} (hl : PE X l tl) : PI X tg l (iList X.K tl):=by
  intro pins s σ H R I h
  refine thn (hl pins s σ H _ I h) fun v s1 ⟨x,H1,I1,r1,q1⟩=>?_
  obtain ⟨a,e,⟨xs,hq⟩,q⟩:=q1
  subst e
  cases r1
  obtain ⟨its,rv,p,hz⟩:=I1.list hq
  refine wpAny_pyIter_list p.isList ?_
  refine ⟨s1.heap.objs.size,[s1.heap.objs.size],_,_,H1,rfl,I1.kept (t':=s1.toks) fun b o e=>Heap.get?_push_of_some _ e,turn_list a _,⟨_,Heap.get?_push_size _ rfl,rfl,rfl⟩,fun b hb=>?_,q⟩
  have e : b=s1.heap.objs.size:=by simpa using hb
  subst e
  exact I1.fpOk (Nat.le_refl _) (I1.hok.fresh (Nat.le_refl _))
theorem range_it {pins : List (Addr×Obj)} {σ : St} {H : Hp} {s : Shared} {R : It→Hp→Prop} {E : Value→Shared→Prop} {lo hi : Int} {t u v : Tok} {tk : Nat} (I : Inv X pins σ H s) (h1 : -(2 ^ 62)≤lo) (h2 : lo < 2 ^ 62) (h3 : -(2 ^ 62)≤hi) (h4 : hi < 2 ^ 62)
    (q : R (Itr lo (hi - lo).toNat) H) : wpAny (model X.prog X.w) X.A (pyIter (.ref s.heap.objs.size)) (PIE X pins σ tg R) E { s with heap:=s.heap.push { cls:=.type "range",data:=.fields #[.int lo t,.int hi u,.int 1 v] },toks:=tk }:=by
  refine wpAny_pyIter_range (IsRange.new ..) (small_one h1 h2 h3 h4) ?_
  have I1 : Inv X pins σ H { s with heap:=s.heap.push { cls:=.type "range",data:=.fields #[.int lo t,.int hi u,.int 1 v] },toks:=tk }:=I.kept fun b o e=>Heap.get?_push_of_some _ e
  refine ⟨(s.heap.push { cls:=.type "range",data:=.fields #[.int lo t,.int hi u,.int 1 v] }).objs.size,[(s.heap.push { cls:=.type "range",data:=.fields #[.int lo t,.int hi u,.int 1 v] }).objs.size],_,_,H,rfl,
    I1.kept (t':=tk) fun b o e=>Heap.get?_push_of_some _ e,turn_range _ lo (hi - lo).toNat,?_,fun b hb=>?_,q⟩
  · have e1 : lo + ((0 : Nat) : Int) * 1=lo:=by simp
    have e2 : (((hi - lo).toNat : Nat) : Int) - ((0 : Nat) : Int)=Builtin.Range.rangeSize lo hi 1:=by rw [rangeSize_one]; split <;> omega
    show IsRangeIter _ _ (lo + ((0 : Nat) : Int) * 1) ((((hi - lo).toNat : Nat) : Int) - ((0 : Nat) : Int)) 1
    rw [e1,e2]
    exact Heap.get?_push_size _ rfl
  · have e : b=(s.heap.push { cls:=.type "range",data:=.fields #[.int lo t,.int hi u,.int 1 v] }).objs.size:=by simpa using hb
    subst e
    exact I1.fpOk (Nat.le_refl _) (I1.hok.fresh (Nat.le_refl _))
def iRng1 (ta : TA) : TI:=fun σ H R=>ta σ H fun vs H1=>∃ j : Int,vs=[.int j]∧-(2 ^ 62)≤j∧j < 2 ^ 62∧R (Itr 0 j.toNat) H1
theorem pi_range1 {a : Expr} {ta : TA} {p pos : Pos} (hg : Gl X "range") (hm : X.mg "range" = none) (ha : PA X [a] ta) (hs : starEach [a] X.env=[(false,eval a X.env)]:=by rfl) : PI X tg (.Call (.Name "range" p) [a] [] pos) (iRng1 ta):=by
  intro pins s σ H R I h
  refine Call_ (ld_blt I hg hm boot_range (PyProof.Rows.callWith_type1 (thn (ha pos pins s σ H _ I h) fun us s1 ⟨vs,H1,I1,r1,q1⟩=>?_) hs rfl))
  obtain ⟨j,e,q1,q2,q⟩:=q1
  subst e
  cases r1 with
  | cons r rr=>
    cases rr
    obtain ⟨t,rfl⟩:=r
    exact call_range_1 (range_it I1 (by omega) (by omega) q1 q2 (by simpa using q))
def tFor (wi : TI) (g : TG) (tb : TS) : TS:=fun D σ H=>wi σ H fun J H1=>∃ W : Nat→Nat→St→Hp→Prop,(∃ m,W 0 m σ H1)∧∀ i m σ H,W i m σ H→
  (J.stop i H∧D.nx σ H)∨(J.go i H∧∃ N : St→Hp→Prop,(∀ σ' H',N σ' H'→∃ m',m' < m∧W (i + 1) m' σ' H')∧∀ x H',J.yld i H x H'→g x σ H' fun σ2 H2=>tb { D with nx:=N,ct:=N,bk:=D.nx } σ2 H2)
def pinsAt (fp : List Addr) (h : Heap) : List (Addr×Obj):=fp.filterMap fun b=>(h.get? b).map fun o=>(b,o)
theorem mem_pinsAt {fp : List Addr} {h : Heap} {b : Addr} {o : Obj} (hb : b∈fp) (e : h.get? b=some o) : (b,o)∈pinsAt fp h:=List.mem_filterMap.mpr ⟨b,hb,by rw [e]; rfl⟩
theorem of_pinsAt {fp : List Addr} {h : Heap} {p : Addr×Obj} (hp : p∈pinsAt fp h) : p.1∈fp∧h.get? p.1=some p.2:=by
  obtain ⟨b,hb,e⟩:=List.mem_filterMap.mp hp
  cases q : h.get? b with
  | none=>rw [q] at e; cases e
  | some o=>
    rw [q] at e
    have e' : (b,o)=p:=Option.some.inj e
    subst e'
    exact ⟨hb,q⟩
theorem Inv.pinned {pins : List (Addr×Obj)} {σ : St} {H : Hp} {s : Shared} {fp : List Addr} (I : Inv X pins σ H s) (hf : ∀ b∈fp,FpOk X pins H b) (ho : ∀ b∈fp,∃ o,s.heap.get? b=some o∧∀ v,o.data≠.cell v) : Inv X (pins ++ pinsAt fp s.heap) σ H s:=
  I.pins_of fun p hp=>(List.mem_append.mp hp).elim (fun z=>I.pin p (List.mem_append_right _ z)) fun z=>by
    obtain ⟨hb,e⟩:=of_pinsAt z
    obtain ⟨f0,f1,f2,_⟩:=hf p.1 hb
    obtain ⟨o,e',d⟩:=ho p.1 hb
    rw [e] at e'; cases e'
    exact ⟨e,f0,f1,f2,d⟩
theorem Inv.unpinned {pins pl : List (Addr×Obj)} {σ : St} {H : Hp} {s : Shared} (I : Inv X (pins ++ pl) σ H s) : Inv X pins σ H s:=I.pins_of fun p hp=>I.pin p (List.mem_append_right _ (List.mem_append_left _ hp))
theorem ps_for {iter : Expr} {body : List Stmt} {wi : TI} {g : TG} {tb : TS} {pos : Pos} (hp : PassesOwn (model X.prog X.w) X.A X.env X.xe) (hc : X.calm=true) (hi : PI X tg iter wi) (hg : PG X tg g) (hb : PSs X body tb)
    (hs : ∀ x,foldedSetIterable iter X.env x=pure x:=by intro _; rfl) : PS X (.For tg iter body [] pos) (tFor wi g tb):=by
  intro pins s σ H D I h
  refine wpAny_For (thn (hi pins s σ H _ I h) fun v s1 h1=>thn h1 fun itv s2 h2=>?_) hs
  obtain ⟨it,fp,tn,J,H2,e,I2,T,st2,f2,W,⟨m0,w0⟩,turn⟩:=h2
  subst e
  have stat : ∀ {H' : Hp},(∀ b∈fp,H' b=none)→∀ b∈fp,FpOk X pins H' b:=fun hn b hb=>⟨hn b hb,(f2 b hb).2⟩
  refine codeAny_forLoop_any (fun n s'=>∃ i σ' H',Inv X pins σ' H' s'∧tn i s'.heap∧(∀ b∈fp,H' b=none)∧W i n σ' H') ?_ m0 ⟨0,σ,H2,I2,st2,fun b hb=>(f2 b hb).1,w0⟩
  rintro n s3 ⟨i,σ3,H3,I3,st3,fr3,w3⟩
  rcases turn i n σ3 H3 w3 with ⟨stop,qn⟩ | ⟨go,N,hN,step⟩
  · refine wpAny_passesOwn hp (thn (T.done X rfl rfl rfl hc i pins s3 σ3 H3 X.xe I3 (stat fr3) st3 stop) fun r s4 ⟨hr,I4⟩=>?_)
    subst hr
    exact wpAny_execs_nil ⟨σ3,H3,I4,qn⟩
  · refine wpAny_passesOwn hp (thn (T.item X rfl rfl rfl hc i pins s3 σ3 H3 X.xe I3 (stat fr3) st3 go) fun r s4 ⟨u,hr,h4⟩=>?_)
    subst hr
    refine wpAny_passesOwn hp (thn h4 fun _ s5 ⟨x,H5,I5,r5,y5,st5,fr5⟩=>?_)
    have I5':=I5.pinned (stat fr5) (T.obj _ _ st5)
    refine wpAny_passesOwn hp (thn (hg _ s5 σ3 H5 x u _ I5' r5 (step x H5 y5)) fun _ s6 ⟨σ6,H6,I6,q6⟩=>?_)
    refine wpAny_passesOwn hp (thn (hb _ s6 σ6 H6 _ I6 q6) fun f s7 q7=>?_)
    have again : ∀ {σ7 : St} {H7 : Hp},Inv X (pins ++ pinsAt fp s5.heap) σ7 H7 s7→N σ7 H7→∃ m,m < n∧∃ i σ' H',Inv X pins σ' H' s7∧tn i s7.heap∧(∀ b∈fp,H' b=none)∧W i m σ' H':=fun {σ7 H7} I7 n7=>by
      obtain ⟨m',hm,w7⟩:=hN σ7 H7 n7
      refine ⟨m',hm,i + 1,σ7,H7,I7.unpinned,T.keep _ _ _ st5 fun b hb o e=>(I7.pin (b,o) (List.mem_append_right _ (List.mem_append_right _ (mem_pinsAt hb e)))).1,fun b hb=>?_,w7⟩
      obtain ⟨o,e,d⟩:=T.obj _ _ st5 b hb
      exact (I7.pin (b,o) (List.mem_append_right _ (List.mem_append_right _ (mem_pinsAt hb e)))).2.1
    cases f with
    | next=>obtain ⟨σ7,H7,I7,n7⟩:=q7; exact again I7 n7
    | cont=>obtain ⟨σ7,H7,I7,n7⟩:=q7; exact again I7 n7
    | brk=>obtain ⟨σ7,H7,I7,q7⟩:=q7; exact ⟨σ7,H7,I7.unpinned,q7⟩
    | ret v=>obtain ⟨x7,σ7,H7,I7,r7,q7⟩:=q7; exact ⟨x7,σ7,H7,I7.unpinned,r7,q7⟩
end
theorem for_list {K : PySem.W.Frag} {a : Addr} {xs : List V} {g : TG} {tb : TS} {D : Ends} {σ : St} {H : Hp} (Pv : Nat→St→Hp→Prop) (h0 : Pv 0 σ H) (hl : ∀ i σ H,i≤xs.length→Pv i σ H→SqL K H a xs)
    (hs : ∀ i x σ H,xs[i]? = some x→Pv i σ H→g x σ H fun σ2 H2=>tb { D with nx:=Pv (i + 1),ct:=Pv (i + 1),bk:=D.nx } σ2 H2) (hd : ∀ σ H,Pv xs.length σ H→D.nx σ H) :
    ∃ W : Nat→Nat→St→Hp→Prop,(∃ m,W 0 m σ H)∧∀ i m σ H,W i m σ H→
      ((Itl K a).stop i H∧D.nx σ H)∨((Itl K a).go i H∧∃ N : St→Hp→Prop,(∀ σ' H',N σ' H'→∃ m',m' < m∧W (i + 1) m' σ' H')∧∀ x H',(Itl K a).yld i H x H'→g x σ H' fun σ2 H2=>tb { D with nx:=N,ct:=N,bk:=D.nx } σ2 H2):=by
  refine ⟨fun i m σ H=>m=xs.length - i∧i≤xs.length∧Pv i σ H,⟨xs.length,by simp,Nat.zero_le _,h0⟩,?_⟩
  rintro i m σ H ⟨rfl,hi,p⟩
  have q:=hl i σ H hi p
  by_cases hlt : i < xs.length
  · refine .inr ⟨⟨xs,xs[i],q,by simp [hlt]⟩,Pv (i + 1),fun σ' H' p'=>⟨xs.length - (i + 1),by omega,rfl,hlt,p'⟩,fun x H' y=>?_⟩
    obtain ⟨e,y⟩:=y
    subst e
    exact hs i x σ _ (y xs q) p
  · have e : i=xs.length:=by omega
    subst e
    exact .inl ⟨⟨xs,q,Nat.le_refl _⟩,hd σ H p⟩
theorem for_range {lo : Int} {n : Nat} {g : TG} {tb : TS} {D : Ends} {σ : St} {H : Hp} (Pv : Nat→St→Hp→Prop) (h0 : Pv 0 σ H)
    (hs : ∀ i σ H,i < n→Pv i σ H→g (.int (lo + i)) σ H fun σ2 H2=>tb { D with nx:=Pv (i + 1),ct:=Pv (i + 1),bk:=D.nx } σ2 H2) (hd : ∀ σ H,Pv n σ H→D.nx σ H) :
    ∃ W : Nat→Nat→St→Hp→Prop,(∃ m,W 0 m σ H)∧∀ i m σ H,W i m σ H→
      ((Itr lo n).stop i H∧D.nx σ H)∨((Itr lo n).go i H∧∃ N : St→Hp→Prop,(∀ σ' H',N σ' H'→∃ m',m' < m∧W (i + 1) m' σ' H')∧∀ x H',(Itr lo n).yld i H x H'→g x σ H' fun σ2 H2=>tb { D with nx:=N,ct:=N,bk:=D.nx } σ2 H2):=by
  refine ⟨fun i m σ H=>m=n - i∧i≤n∧Pv i σ H,⟨n,by simp,Nat.zero_le _,h0⟩,?_⟩
  rintro i m σ H ⟨rfl,hi,p⟩
  by_cases hlt : i < n
  · refine .inr ⟨hlt,Pv (i + 1),fun σ' H' p'=>⟨n - (i + 1),by omega,rfl,hlt,p'⟩,fun x H' y=>?_⟩
    obtain ⟨e,y⟩:=y
    subst e y
    exact hs i σ _ hlt p
  · have e : i=n:=by omega
    subst e
    exact .inl ⟨Nat.le_refl _,hd σ H p⟩
end L2
namespace L2
open PySem PySem.Spec PyProof.Rows
abbrev R2:=V→V→Hp→VK→Prop
def OpR (X : Cx) (f : Value→Value→Sem Value) (r : R2) : Prop:=
  ∀ (pins : List (Addr×Obj)) (s : Shared) (σ : St) (H : Hp) (x y : V) (v u : Value) (Q : VK),Inv X pins σ H s→RelV x v→RelV y u→r x y H Q→
    wpAny (model X.prog X.w) X.A (f v u) (EP X pins σ Q) X.xe s
def UnR (X : Cx) (f : Value→Sem Value) (r : V→Hp→VK→Prop) : Prop:=
  ∀ (pins : List (Addr×Obj)) (s : Shared) (σ : St) (H : Hp) (x : V) (v : Value) (Q : VK),Inv X pins σ H s→RelV x v→r x H Q→
    wpAny (model X.prog X.w) X.A (f v) (EP X pins σ Q) X.xe s
def CallR (X : Cx) (f : Value) (r : List V→Hp→VK→Prop) : Prop:=
  ∀ (pins : List (Addr×Obj)) (s : Shared) (σ : St) (H : Hp) (xs : List V) (us : List Value) (Q : VK),Inv X pins σ H s→Vals xs us→r xs H Q→
    wpAny (model X.prog X.w) X.A (call f us) (EP X pins σ Q) X.xe s
def TruR (X : Cx) (r : V→Hp→(Bool→Hp→Prop)→Prop) : Prop:=
  ∀ (pins : List (Addr×Obj)) (s : Shared) (σ : St) (H : Hp) (x : V) (v : Value) (Q : Bool→Hp→Prop),Inv X pins σ H s→RelV x v→r x H Q→
    wpAny (model X.prog X.w) X.A (truthy v) (TP X pins σ Q) X.xe s
def tOp (r : R2) (ta tb : TE) : TE:=fun σ H Q=>ta σ H fun x H1=>tb σ H1 fun y H2=>r x y H2 Q
def tUn (r : V→Hp→VK→Prop) (ta : TE) : TE:=fun σ H Q=>ta σ H fun x H1=>r x H1 Q
def rI (C : Int→Int→Prop) (g : Int→Int→V) : R2:=fun x y H Q=>∃ i j,x = .int i∧y = .int j∧C i j∧Q (g i j) H
def rI0 (g : Int→Int→V) : R2:=fun x y H Q=>∃ i j,x = .int i∧y = .int j∧Q (g i j) H
def rU (g : Int→V) : V→Hp→VK→Prop:=fun x H Q=>∃ i,x = .int i∧Q (g i) H
section
variable {X : Cx} {a b c : Expr} {ta tb tc : TE} {pos : Pos}
theorem binT (ha : PE X a ta) (hb : PE X b tb) {pins : List (Addr×Obj)} {s : Shared} {σ : St} {H : Hp} {R : V→V→Hp→Prop} (I : Inv X pins σ H s)
    (h : ta σ H fun x H1=>tb σ H1 fun y H2=>R x y H2) {Q : Value→Shared→Prop} {f : Value→Value→Sem Value}
    (hf : ∀ v u s2 x y H2,Inv X pins σ H2 s2→RelV x v→RelV y u→R x y H2→wpAny (model X.prog X.w) X.A (f v u) Q X.xe s2) :
    wpAny (model X.prog X.w) X.A (eval a X.env) (fun v s₁=>wpAny (model X.prog X.w) X.A (eval b X.env) (fun u s₂=>wpAny (model X.prog X.w) X.A (f v u) Q X.xe s₂) X.xe s₁) X.xe s:=by
  refine thn (ha pins s σ H _ I h) fun v s1 ⟨x,H1,I1,r1,q1⟩=>?_
  refine thn (hb pins s1 σ H1 _ I1 q1) fun u s2 ⟨y,H2,I2,r2,q2⟩=>?_
  exact hf v u s2 x y H2 I2 r1 r2 q2
theorem pe_op {op : Operator} {r : R2} (ho : OpR X (binaryOp op) r) (ha : PE X a ta) (hb : PE X b tb) : PE X (.BinOp a op b pos) (tOp r ta tb):=by
  intro pins s σ H Q I h
  exact wpAny_BinOp (binT ha hb I h fun v u s2 x y H2 I2 rx ry q=>ho pins s2 σ H2 x y v u Q I2 rx ry q)
theorem pe_un {op : UnaryOp} {r : V→Hp→VK→Prop} (ho : UnR X (unaryOp op) r) (ha : PE X a ta) : PE X (.UnaryOp op a pos) (tUn r ta):=by
  intro pins s σ H Q I h
  exact UnaryOp_ (thn (ha pins s σ H _ I h) fun v s1 ⟨x,H1,I1,r1,q1⟩=>ho pins s1 σ H1 x v Q I1 r1 q1)
theorem opI {f : Value→Value→Sem Value} {C : Int→Int→Prop} {g : Int→Int→Int}
    (rule : ∀ (i j : Int) (t u : Tok) (s : Shared) (Q : Value→Shared→Prop) (E : Value→Shared→Prop),C i j→Q (.int (g i j) s.toks) { s with toks:=s.toks + 1 }→wpAny (model X.prog X.w) X.A (f (.int i t) (.int j u)) Q E s) :
    OpR X f (rI C fun i j=>.int (g i j)):=by
  intro pins s σ H x y v u Q I rx ry h
  obtain ⟨i,j,rfl,rfl,hc,q⟩:=h
  obtain ⟨t,rfl⟩:=rx
  obtain ⟨t',rfl⟩:=ry
  exact rule i j t t' s _ _ hc ⟨.int (g i j),H,I.tok _,⟨_,rfl⟩,q⟩
theorem opI0 {f : Value→Value→Sem Value} {g : Int→Int→Int}
    (rule : ∀ (i j : Int) (t u : Tok) (s : Shared) (Q : Value→Shared→Prop) (E : Value→Shared→Prop),Q (.int (g i j) s.toks) { s with toks:=s.toks + 1 }→wpAny (model X.prog X.w) X.A (f (.int i t) (.int j u)) Q E s) :
    OpR X f (rI0 fun i j=>.int (g i j)):=by
  intro pins s σ H x y v u Q I rx ry h
  obtain ⟨i,j,rfl,rfl,q⟩:=h
  obtain ⟨t,rfl⟩:=rx
  obtain ⟨t',rfl⟩:=ry
  exact rule i j t t' s _ _ ⟨.int (g i j),H,I.tok _,⟨_,rfl⟩,q⟩
theorem opB0 {f : Value→Value→Sem Value} {g : Int→Int→Bool}
    (rule : ∀ (i j : Int) (t u : Tok) (s : Shared) (Q : Value→Shared→Prop) (E : Value→Shared→Prop),Q (.bool (g i j)) s→wpAny (model X.prog X.w) X.A (f (.int i t) (.int j u)) Q E s) :
    OpR X f (rI0 fun i j=>.bl (g i j)):=by
  intro pins s σ H x y v u Q I rx ry h
  obtain ⟨i,j,rfl,rfl,q⟩:=h
  obtain ⟨t,rfl⟩:=rx
  obtain ⟨t',rfl⟩:=ry
  exact rule i j t t' s _ _ ⟨.bl (g i j),H,I,rfl,q⟩
def CPow (i j : Int) : Prop:=0≤j∧j≤1000000∧i.natAbs < 2 ^ 64
def CMul (i j : Int) : Prop:=(-(2 ^ 64) < i∧i < 2 ^ 64)∨(-(2 ^ 64) < j∧j < 2 ^ 64)
theorem CMul.ok {i j : Int} (h : CMul i j) : IntMulOk i j:=by
  rcases h with ⟨h1,h2⟩ | ⟨h1,h2⟩
  · exact .of_left (intBits_le_64 h1 h2)
  · exact .of_right (intBits_le_64 h1 h2)
theorem op_add : OpR X (binaryOp .Add) (rI0 fun i j=>.int (i + j)):=opI0 fun _ _ _ _ _ _ _ q=>add_int q
theorem op_sub : OpR X (binaryOp .Sub) (rI0 fun i j=>.int (i - j)):=opI0 fun _ _ _ _ _ _ _ q=>sub_int q
theorem op_mul : OpR X (binaryOp .Mult) (rI CMul fun i j=>.int (i * j)):=opI fun _ _ _ _ _ _ _ hc q=>mul_int q hc.ok
theorem op_mod : OpR X (binaryOp .Mod) (rI (fun _ j=>0 < j) fun i j=>.int (i % j)):=opI fun i j _ _ _ _ _ hc q=>by
  have h1 : (0 : Int) < j:=hc
  exact mod_int' (by omega) (by rw [Int.fmod_eq_emod_of_nonneg i (by omega)]; exact q)
theorem op_pow : OpR X (binaryOp .Pow) (rI CPow fun i j=>.int (i ^ j.toNat)):=opI fun _ _ _ _ _ _ _ hc q=>pow_int_small hc.1 hc.2.1 hc.2.2 q
theorem unI {f : Value→Sem Value} {g : Int→Int}
    (rule : ∀ (i : Int) (t : Tok) (s : Shared) (Q : Value→Shared→Prop) (E : Value→Shared→Prop),Q (.int (g i) s.toks) { s with toks:=s.toks + 1 }→wpAny (model X.prog X.w) X.A (f (.int i t)) Q E s) :
    UnR X f (rU fun i=>.int (g i)):=by
  intro pins s σ H x v Q I rx h
  obtain ⟨i,rfl,q⟩:=h
  obtain ⟨t,rfl⟩:=rx
  exact rule i t s _ _ ⟨.int (g i),H,I.tok _,⟨_,rfl⟩,q⟩
theorem un_neg : UnR X (unaryOp .USub) (rU fun i=>.int (-i)):=unI fun _ _ _ _ _ q=>neg_int q
end
def scal : V→V→Bool
  | .non,.non=>true | .non,.int _=>true | .int _,.non=>true | .non,.bl _=>true | .bl _,.non=>true | .non,.str _=>true | .str _,.non=>true
  | .int _,.int _=>true | .bl _,.bl _=>true | .str _,.str _=>true | .byt _,.byt _=>true
  | .int _,.str _=>true | .str _,.int _=>true | .bl _,.str _=>true | .str _,.bl _=>true
  | _,_=>false
def rEq : R2:=fun x y H Q=>scal x y=true∧Q (.bl (decide (x=y))) H
def rNe : R2:=fun x y H Q=>scal x y=true∧Q (.bl (!decide (x=y))) H
theorem dec_int {i j : Int} : decide (V.int i=V.int j)=(i == j):=by
  rw [Bool.eq_iff_iff]
  simp
theorem dec_bl {i j : Bool} : decide (V.bl i=V.bl j)=(i == j):=by
  rw [Bool.eq_iff_iff]
  simp
theorem dec_str {i j : Str} : decide (V.str i=V.str j)=(i == j):=by
  rw [Bool.eq_iff_iff]
  simp
theorem dec_byt {i j : Array UInt8} : decide (V.byt i=V.byt j)=(i.toList == j.toList):=by
  rw [Bool.eq_iff_iff]
  cases i
  cases j
  simp
section
variable {X : Cx} {a b c : Expr} {ta tb tc : TE} {pos : Pos}
theorem fin_bl {pins : List (Addr×Obj)} {σ : St} {H : Hp} {s : Shared} {Q : VK} {k k' : Bool} (I : Inv X pins σ H s) (q : Q (.bl k) H) (e : k=k') : EP X pins σ Q (.bool k') s:=by
  subst e
  exact ⟨.bl k,H,I,rfl,q⟩
theorem op_eq : OpR X (compareOp .Eq) rEq:=by
  intro pins s σ H x y v u Q I rx ry h
  obtain ⟨hs,q⟩:=h
  cases x with
  | non=>
    cases rx
    cases y with
    | non=>cases ry; exact PySem.EqNone.eq_none_none (fin_bl I q (by simp))
    | bl j=>cases ry; exact PySem.EqNone.eq_none_bool (fin_bl I q (by simp))
    | int j=>obtain ⟨t',rfl⟩:=ry; exact PySem.EqNone.eq_none_int (fin_bl I q (by simp))
    | str j=>obtain ⟨t',rfl⟩:=ry; exact PySem.EqNone.eq_none_str (fin_bl I q (by simp))
    | _=>exact absurd (show false=true from hs) Bool.false_ne_true
  | bl i=>
    cases rx
    cases y with
    | non=>cases ry; exact PySem.EqNone.eq_bool_none (fin_bl I q (by simp))
    | bl j=>cases ry; exact eq_bool (fin_bl I q dec_bl)
    | str j=>obtain ⟨t',rfl⟩:=ry; exact PySem.EqMixed.eq_bool_str (fin_bl I q (by simp))
    | _=>exact absurd (show false=true from hs) Bool.false_ne_true
  | int i=>
    obtain ⟨t,rfl⟩:=rx
    cases y with
    | non=>cases ry; exact PySem.EqNone.eq_int_none (fin_bl I q (by simp))
    | int j=>obtain ⟨t',rfl⟩:=ry; exact eq_int (fin_bl I q dec_int)
    | str j=>obtain ⟨t',rfl⟩:=ry; exact PySem.EqMixed.eq_int_str (fin_bl I q (by simp))
    | _=>exact absurd (show false=true from hs) Bool.false_ne_true
  | str i=>
    obtain ⟨t,rfl⟩:=rx
    cases y with
    | non=>cases ry; exact PySem.EqNone.eq_str_none (fin_bl I q (by simp))
    | bl j=>cases ry; exact PySem.EqMixed.eq_str_bool (fin_bl I q (by simp))
    | int j=>obtain ⟨t',rfl⟩:=ry; exact PySem.EqMixed.eq_str_int (fin_bl I q (by simp))
    | str j=>obtain ⟨t',rfl⟩:=ry; exact eq_str (fin_bl I q dec_str)
    | _=>exact absurd (show false=true from hs) Bool.false_ne_true
  | byt i=>
    obtain ⟨t,rfl⟩:=rx
    cases y with
    | byt j=>obtain ⟨t',rfl⟩:=ry; exact PySem.W.eq_bytes (fin_bl I q dec_byt)
    | _=>exact absurd (show false=true from hs) Bool.false_ne_true
  | _=>cases y <;> exact absurd (show false=true from hs) Bool.false_ne_true
theorem op_ne : OpR X (compareOp .NotEq) rNe:=by
  intro pins s σ H x y v u Q I rx ry h
  obtain ⟨hs,q⟩:=h
  cases x with
  | non=>
    cases rx
    cases y with
    | non=>cases ry; exact PySem.EqNone.ne_none_none (fin_bl I q (by simp))
    | bl j=>cases ry; exact PySem.EqNone.ne_none_bool (fin_bl I q (by simp))
    | int j=>obtain ⟨t',rfl⟩:=ry; exact PySem.EqNone.ne_none_int (fin_bl I q (by simp))
    | str j=>obtain ⟨t',rfl⟩:=ry; exact PySem.EqNone.ne_none_str (fin_bl I q (by simp))
    | _=>exact absurd (show false=true from hs) Bool.false_ne_true
  | bl i=>
    cases rx
    cases y with
    | non=>cases ry; exact PySem.EqNone.ne_bool_none (fin_bl I q (by simp))
    | bl j=>cases ry; exact ne_bool (fin_bl I q (congrArg not dec_bl))
    | str j=>obtain ⟨t',rfl⟩:=ry; exact PySem.EqMixed.ne_bool_str (fin_bl I q (by simp))
    | _=>exact absurd (show false=true from hs) Bool.false_ne_true
  | int i=>
    obtain ⟨t,rfl⟩:=rx
    cases y with
    | non=>cases ry; exact PySem.EqNone.ne_int_none (fin_bl I q (by simp))
    | int j=>obtain ⟨t',rfl⟩:=ry; exact ne_int (fin_bl I q (congrArg not dec_int))
    | str j=>obtain ⟨t',rfl⟩:=ry; exact PySem.EqMixed.ne_int_str (fin_bl I q (by simp))
    | _=>exact absurd (show false=true from hs) Bool.false_ne_true
  | str i=>
    obtain ⟨t,rfl⟩:=rx
    cases y with
    | non=>cases ry; exact PySem.EqNone.ne_str_none (fin_bl I q (by simp))
    | bl j=>cases ry; exact PySem.EqMixed.ne_str_bool (fin_bl I q (by simp))
    | int j=>obtain ⟨t',rfl⟩:=ry; exact PySem.EqMixed.ne_str_int (fin_bl I q (by simp))
    | str j=>obtain ⟨t',rfl⟩:=ry; exact ne_str (fin_bl I q (congrArg not dec_str))
    | _=>exact absurd (show false=true from hs) Bool.false_ne_true
  | byt i=>
    obtain ⟨t,rfl⟩:=rx
    cases y with
    | byt j=>obtain ⟨t',rfl⟩:=ry; exact PySem.W.ne_bytes (fin_bl I q (congrArg not dec_byt))
    | _=>exact absurd (show false=true from hs) Bool.false_ne_true
  | _=>cases y <;> exact absurd (show false=true from hs) Bool.false_ne_true
theorem op_lt : OpR X (compareOp .Lt) (rI0 fun i j=>.bl (decide (i < j))):=opB0 fun _ _ _ _ _ _ _ q=>lt_int q
theorem op_le : OpR X (compareOp .LtE) (rI0 fun i j=>.bl (decide (i≤j))):=opB0 fun _ _ _ _ _ _ _ q=>le_int q
theorem op_gt : OpR X (compareOp .Gt) (rI0 fun i j=>.bl (decide (j < i))):=opB0 fun _ _ _ _ _ _ _ q=>gt_int q
theorem op_ge : OpR X (compareOp .GtE) (rI0 fun i j=>.bl (decide (j≤i))):=opB0 fun _ _ _ _ _ _ _ q=>ge_int q
theorem op_isN : OpR X (compareOp .Is) (fun x y H Q=>y = .non∧Q (.bl (decide (x = .non))) H):=by
  intro pins s σ H x y v u Q I rx ry h
  obtain ⟨rfl,q⟩:=h
  cases ry
  refine is_none_gen (fin_bl I q ?_)
  cases x <;> first
    | (cases rx; rfl)
    | (obtain ⟨t,rfl⟩:=rx; rfl)
theorem nomark (b : Expr) {op : CmpOp} (h : op≠.In:=by decide) (h2 : op≠.NotIn:=by decide) : behindInMarks op b=false:=by
  have e1 : (op == CmpOp.In)=false:=by cases op <;> first | rfl | exact absurd rfl h
  have e2 : (op == CmpOp.NotIn)=false:=by cases op <;> first | rfl | exact absurd rfl h2
  cases b <;> simp [behindInMarks,e1,e2]
theorem pe_cmpR {op : CmpOp} {r : R2} (ho : OpR X (compareOp op) r) (ha : PE X a ta) (hb : PE X b tb) (hm : behindInMarks op b=false) : PE X (.Compare a [op] [b] pos) (tOp r ta tb):=by
  intro pins s σ H Q I h
  exact wpAny_Compare1 (binT ha hb I h fun v u s2 x y H2 I2 rx ry q=>ho pins s2 σ H2 x y v u Q I2 rx ry q) hm
def tTest (t : TE) : TT:=fun σ H Q=>t σ H fun x H'=>∃ k,x = .bl k∧Q k H'
theorem pt_cmpR {op : CmpOp} {r : R2} (ho : OpR X (compareOp op) r) (ha : PE X a ta) (hb : PE X b tb) (hm : behindInMarks op b=false) : PT X (.Compare a [op] [b] pos) (tTest (tOp r ta tb)):=by
  intro pins s σ H Q I h
  refine wpAny_isTrue_Compare1 (thn (ha pins s σ H _ I h) fun v s1 ⟨x,H1,I1,r1,q1⟩=>thn (hb pins s1 σ H1 _ I1 q1) fun u s2 ⟨y,H2,I2,r2,q2⟩=>
    thn (ho pins s2 σ H2 x y v u _ I2 r1 r2 q2) fun c s3 ⟨z,H3,I3,r3,k,e,q3⟩=>?_) hm
  subst e
  cases r3
  exact wpAny_truthy_bool ⟨H3,I3,q3⟩
def tChain (r r' : R2) (ta tb tc : TE) : TE:=fun σ H Q=>ta σ H fun x H1=>tb σ H1 fun y H2=>r x y H2 fun z H3=>∃ k,z = .bl k∧
  (if k=true then tc σ H3 fun w' H4=>r' y w' H4 Q else Q (.bl false) H3)
theorem pe_chain {op op' : CmpOp} {r r' : R2} (ho : OpR X (compareOp op) r) (ho' : OpR X (compareOp op') r') (ha : PE X a ta) (hb : PE X b tb) (hc : PE X c tc)
    (hm : lastMarks [op,op'] [b,c]=false:=by with_unfolding_all rfl) : PE X (.Compare a [op,op'] [b,c] pos) (tChain r r' ta tb tc):=by
  intro pins s σ H Q I h
  refine Compare_chain (thn (ha pins s σ H _ I h) fun v s1 ⟨x,H1,I1,r1,q1⟩=>chain_link (thn (hb pins s1 σ H1 _ I1 q1) fun u s2 ⟨y,H2,I2,r2,q2⟩=>
    thn (ho pins s2 σ H2 x y v u _ I2 r1 r2 q2) fun d s3 ⟨z,H3,I3,r3,k,e,q3⟩=>?_)) hm
  subst e
  cases r3
  refine wpAny_truthy_bool ?_
  cases k with
  | false=>exact ite_ff ⟨.bl false,H3,I3,rfl,q3⟩
  | true=>exact ite_tt (chain_last (thn (hc pins s3 σ H3 _ I3 q3) fun w' s4 ⟨z',H4,I4,r4,q4⟩=>ho' pins s4 σ H4 y z' u w' Q I4 r2 r4 q4))
theorem pt_chain {op op' : CmpOp} {r r' : R2} (ho : OpR X (compareOp op) r) (ho' : OpR X (compareOp op') r') (ha : PE X a ta) (hb : PE X b tb) (hc : PE X c tc)
    (hm : lastMarks [op,op'] [b,c]=false:=by with_unfolding_all rfl) : PT X (.Compare a [op,op'] [b,c] pos) (tTest (tChain r r' ta tb tc)):=by
  intro pins s σ H Q I h
  refine isTrue_chain (thn (ha pins s σ H _ I h) fun v s1 ⟨x,H1,I1,r1,q1⟩=>test_link (thn (hb pins s1 σ H1 _ I1 q1) fun u s2 ⟨y,H2,I2,r2,q2⟩=>
    thn (ho pins s2 σ H2 x y v u _ I2 r1 r2 q2) fun d s3 ⟨z,H3,I3,r3,k,e,q3⟩=>?_)) hm
  subst e
  cases r3
  refine wpAny_truthy_bool ?_
  cases k with
  | false=>
    obtain ⟨k',e',q'⟩:=q3
    cases e'
    exact ite_ff ⟨H3,I3,q'⟩
  | true=>
    refine ite_tt (test_last (thn (hc pins s3 σ H3 _ I3 q3) fun w' s4 ⟨z',H4,I4,r4,q4⟩=>thn (ho' pins s4 σ H4 y z' u w' _ I4 r2 r4 q4) fun d' s5 ⟨z2,H5,I5,r5,k2,e2,q5⟩=>?_))
    subst e2
    cases r5
    exact wpAny_truthy_bool ⟨H5,I5,q5⟩
def TruV (K : PySem.W.Frag) (x : V) (H : Hp) (k : Bool) : Prop:=
  match x with
  | .non=>k=false
  | .bl b=>k=b
  | .int i=>k=(i != 0)
  | .str y=>y.length≤sizeLine∧k=((y.length : Int) != 0)
  | .byt y=>y.size≤sizeLine∧k=((y.size : Int) != 0)
  | .ref p=>(∃ xs,SqL K H p xs∧k = !xs.isEmpty)∨(∃ xs,SqT K H p xs∧k = !xs.isEmpty)∨∃ kvs,H p=some (.dK kvs)∧k = !kvs.isEmpty
  | _=>False
theorem isEmpty_kv {κ : Type} {kvs : List (κ×V)} {vs : List (κ×Value)} (r : KV kvs vs) : (!vs.isEmpty) = !kvs.isEmpty:=by
  cases r <;> rfl
theorem isEmpty_of {xs : List V} {its : List Value} (r : Vals xs its) : (!its.toArray.isEmpty) = !xs.isEmpty:=by
  cases r <;> simp
theorem line63 : (sizeLine : Nat) < 2 ^ 63:=by rw [sizeLine_eq]; decide
theorem tru_ok : TruR X (fun x H Q=>∃ k,TruV X.K x H k∧Q k H):=by
  intro pins s σ H x v Q I rx h
  obtain ⟨k,e,q⟩:=h
  have hl:=line63
  have hs : sizeLine=16777216:=sizeLine_eq
  cases x with
  | non=>
    cases rx
    have e' : k=false:=e
    subst e'
    exact truthy_none ⟨H,I,q⟩
  | bl b=>
    cases rx
    have e' : k=b:=e
    subst e'
    exact wpAny_truthy_bool ⟨H,I,q⟩
  | int i=>
    obtain ⟨t,rfl⟩:=rx
    have e' : k=(i != 0):=e
    subst e'
    exact PySem.P.truthy_int ⟨H,I,q⟩
  | str y=>
    obtain ⟨t,rfl⟩:=rx
    obtain ⟨hy,e'⟩ : y.length≤sizeLine∧k=((y.length : Int) != 0):=e
    subst e'
    exact PySem.P.truthy_str (by omega) ⟨H,I.tok _,q⟩
  | byt y=>
    obtain ⟨t,rfl⟩:=rx
    obtain ⟨hy,e'⟩ : y.size≤sizeLine∧k=((y.size : Int) != 0):=e
    subst e'
    exact PySem.W.truthy_bytes (by omega) ⟨H,I.tok _,q⟩
  | ref p=>
    cases rx
    have e' : (∃ xs,SqL X.K H p xs∧k = !xs.isEmpty)∨(∃ xs,SqT X.K H p xs∧k = !xs.isEmpty)∨∃ kvs,H p=some (.dK kvs)∧k = !kvs.isEmpty:=e
    rcases e' with ⟨xs,hx,e'⟩ | ⟨xs,hx,e'⟩ | ⟨kvs,hx,e'⟩
    · subst e'
      obtain ⟨its,r,pl,hz⟩:=I.list hx
      have hlen:=r.length
      exact wpAny_truthy_list pl.isList (by simp only [List.size_toArray]; omega) ⟨H,I.tok _,by rw [isEmpty_of r]; exact q⟩
    · subst e'
      obtain ⟨its,r,pl,hz⟩:=I.tuple hx
      have hlen:=r.length
      exact truthy_tuple pl (by simp only [List.size_toArray]; omega) ⟨H,I.tok _,by rw [isEmpty_of r]; exact q⟩
    · subst e'
      obtain ⟨hz,hS,vs,r,m⟩ : kvs.length≤sizeLine∧(p == sysModules)=false∧∃ vs,KV kvs vs∧s.heap.DictOf (mixKind X.prog X.w) p vs:=I.hok p _ hx
      have hlen : kvs.length=vs.length:=Paired.length r
      exact wpAny_truthy_dict hS m (by omega) ⟨H,I.tok _,by rw [isEmpty_kv r]; exact q⟩
  | _=>exact (show False from e).elim
theorem pt_truth (ha : PE X a ta) (he : ∀ whole,isTrue a X.env whole=(do let v ← whole; standAt a.pos; holding [v] (truthy v))) :
    PT X a (fun σ H Q=>ta σ H fun x H'=>∃ k,TruV X.K x H' k∧Q k H'):=by
  intro pins s σ H Q I h
  exact isTrue_plain (thn (ha pins s σ H _ I h) fun v s1 ⟨x,H1,I1,r1,q1⟩=>tru_ok pins s1 σ H1 x v Q I1 r1 q1) (he _)
theorem vals1 {x : V} {us : List Value} (r : Vals [x] us) : ∃ u,us=[u]∧RelV x u:=by
  cases r with
  | cons r1 r2=>cases r2; exact ⟨_,rfl,r1⟩
theorem call_int1 : CallR X (.type "int") (fun xs H Q=>(∃ i,xs=[.int i]∧Q (.int i) H)∨∃ k,xs=[.bl k]∧Q (.int (if k then 1 else 0)) H):=by
  intro pins s σ H xs us Q I r h
  rcases h with ⟨i,rfl,q⟩ | ⟨k,rfl,q⟩
  · obtain ⟨u,rfl,t,rfl⟩:=vals1 r
    exact call_int_int ⟨.int i,H,I,⟨_,rfl⟩,q⟩
  · obtain ⟨u,rfl,r1⟩:=vals1 r
    cases r1
    exact call_int_bool ⟨.int (if k then 1 else 0),H,I.tok _,⟨_,rfl⟩,q⟩
end
end L2
namespace L2
open PySem PySem.Spec PyProof.Rows
section
variable {prog : Program} {w : World} {A : Around} {E : Value→Shared→Prop} {s : Shared} {K : PySem.W.Frag} {x dx C f : Addr} {mA : Str→Option Value} {name : Str} {v : Value}
end
section
variable {P : Program} {w : World} {H H' : Hp} {h h' : Heap} {a C dx : Addr} {fs fs' : List (Str×V)}
end
section
variable {X : Cx} {pins : List (Addr×Obj)} {σ : St} {H : Hp} {s : Shared} {a C dx : Addr} {fs : List (Str×V)} {f : Str} {v : V} {A : Around} {E : Value→Shared→Prop}
end
section
variable {X : Cx} {o e value : Expr} {f : Str} {pos pos' tpos : Pos} {ta tv : TE}
end
section
variable {X : Cx} {pins : List (Addr×Obj)} {σ : St} {H : Hp} {s : Shared} {A : Around} {E : Value→Shared→Prop} {Q : Value→Shared→Prop} {c : Value} {b : Bool}
end
end L2
namespace L2
open PySem PySem.Spec PyProof.Rows
structure Room (k : Nat) (A : Around) : Prop where
  hd : A.handled=none
  dp : A.depth + 3 * k + 5 < recursionLimit
  un : A.units + 16 * k + 200 < cLine
theorem Room.mono {j k : Nat} {A : Around} (r : Room k A) (h : j≤k) : Room j A:=⟨r.hd,by have:=r.dp; omega,by have:=r.un; omega⟩
theorem Room.deeper {k : Nat} {A : Around} (r : Room (k + 1) A) (env : Env) : Room k (A.deeper env):=
  ⟨r.hd,by have:=r.dp; show A.depth + 1 + 3 * k + 5 < _; omega,by have:=r.un; show A.units + 3 + 16 * k + 200 < _; omega⟩
theorem Room.depth {k : Nat} {A : Around} (r : Room k A) : A.depth < recursionLimit:=by have:=r.dp; omega
theorem Room.units {k : Nat} {A : Around} (r : Room k A) : A.units + 64 < cLine:=by have:=r.un; omega
def tNil : TA:=fun _ H Q=>Q [] H
def tCons (ta : TE) (tr : TA) : TA:=fun σ H Q=>ta σ H fun x H1=>tr σ H1 fun xs H2=>Q (x :: xs) H2
section
variable {X : Cx} {e : Expr} {es : List Expr} {te : TE} {t : TA} {pos : Pos}
theorem pa_nil : PA X [] tNil:=fun _ _ _ _ H Q I h=>Calls.spliced_nil ⟨[],H,I,.nil,h⟩
theorem pa_cons (ha : PE X e te) (hr : PA X es t) (hs : starEach (e :: es) X.env=(false,eval e X.env) :: starEach es X.env:=by rfl) : PA X (e :: es) (tCons te t):=by
  intro pos pins s σ H Q I h
  rw [hs]
  show wpAny _ _ (spliced ((false,eval e X.env) :: backTo pos (starEach es X.env))) _ _ s
  refine Calls.spliced_cons (thn (ha pins s σ H _ I h) fun u s1 ⟨x,H1,I1,r1,q1⟩=>?_)
  exact thn (hr pos pins s1 σ H1 _ I1 q1) fun us s2 ⟨xs,H2,I2,r2,q2⟩=>⟨x :: xs,H2,I2,.cons r1 r2,q2⟩
def tTup (t : TA) : TE:=fun σ H Q=>t σ H fun xs H1=>xs.length≤sizeLine∧∀ p,H1 p=none→Q (.ref p) (upd H1 p (.tup xs))
def tLst (t : TA) : TE:=fun σ H Q=>t σ H fun xs H1=>xs.length≤sizeLine∧∀ p,H1 p=none→Q (.ref p) (upd H1 p (.lst xs))
theorem pe_tup {x1} (h : PA X es t) : PE X (.Tuple es x1 pos) (tTup t):=by
  intro pins s σ H Q I hq
  refine wpAny_Tuple_spliced (thn (h pos pins s σ H _ I hq) fun us s1 ⟨xs,H1,I1,r,z,q⟩=>⟨by rw [← r.length]; exact z,?_⟩)
  have hf : H1 s1.heap.objs.size=none:=I1.hok.fresh (Nat.le_refl _)
  refine ⟨.ref s1.heap.objs.size,upd H1 s1.heap.objs.size (.tup xs),I1.laid (t':=s1.toks) (fun b u e=>Heap.get?_push_of_some _ e) (Nat.le_refl _) ?_,rfl,q _ hf⟩
  exact ⟨z,us,r,⟨_,Heap.get?_push_size _ rfl,rfl,_,rfl⟩⟩
theorem pe_lst (h : PA X es t) : PE X (.List es pos) (tLst t):=by
  intro pins s σ H Q I hq
  refine wpAny_List_spliced (thn (h pos pins s σ H _ I hq) fun us s1 ⟨xs,H1,I1,r,z,q⟩=>⟨by rw [← r.length]; exact z,?_⟩)
  have hf : H1 s1.heap.objs.size=none:=I1.hok.fresh (Nat.le_refl _)
  refine ⟨.ref s1.heap.objs.size,upd H1 s1.heap.objs.size (.lst xs),I1.laid (t':=s1.toks) (fun b u e=>Heap.get?_push_of_some _ e) (Nat.le_refl _) ?_,rfl,q _ hf⟩
  exact ⟨z,us,0,r,Heap.get?_push_size _ rfl⟩
end
abbrev Sp:=List V→Hp→VK→XK→Prop
abbrev CXT:=List Env→Hp→Shared→XK→Value→Shared→Prop
structure Env0 (P : Program) (w : World) (K : PySem.W.Frag) (mg : Str→Option Value) (base : Heap) (A : Around) (outer : List Env) (s : Shared) (H : Hp) : Prop where
  frames : A.frames=some outer
  mod : Mod K mg base
  bs : ∀ b o,base.get? b=some o→s.heap.get? b=some o∧H b=none
  bsz : base.objs.size≤s.heap.objs.size
  funs : s.heap.FunFrames base outer
  frf : ∀ b∈frs outer,H b=none
  hok : HOk P w H s.heap
  bare : AllBare s.gens
def CE (outer : List Env) (P : Program) (w : World) (H : Hp) (s : Shared) (Q : VK) (u : Value) (s' : Shared) : Prop:=
  ∃ v H',s'.os=s.os∧AllBare s'.gens∧Un (frs outer) [] H H' s.heap s'.heap∧HOk P w H' s'.heap∧RelV v u∧Q v H'
def CR (CX : CXT) (outer : List Env) (P : Program) (w : World) (H : Hp) (s : Shared) (Q : VK) (E : XK) (r : Result) (s' : Shared) : Prop:=
  match r with
  | .ok (.ret u)=>CE outer P w H s Q u s'
  | .ok _=>False
  | .error e=>CX outer H s E e s'
structure FnOk (P : Program) (w : World) (K : PySem.W.Frag) (mg : Str→Option Value) (base : Heap) (CX : CXT) (k : Nat) (f : Addr) (fd : FuncData) (ps : List Str) (sp : Sp) : Prop where
  len : ∀ vs H Q E,sp vs H Q E→vs.length=ps.length
  run : ∀ (A : Around) (outer : List Env) (s : Shared) (H : Hp) (args : Args) (us : List Value) (vs : List V) (Q : VK) (E : XK),Room k A→Env0 P w K mg base A outer s H→BindsTo s fd args (ps.zip us)→Vals vs us→sp vs H Q E→
    codeAny (model P w) A (.call (.ref f) args) (CR CX outer P w H s Q E) s
theorem FnOk.mono {P : Program} {w : World} {K : PySem.W.Frag} {mg : Str→Option Value} {base : Heap} {CX : CXT} {j k : Nat} {f : Addr} {fd : FuncData} {ps : List Str} {sp : Sp} (F : FnOk P w K mg base CX j f fd ps sp) (h : j≤k) :
    FnOk P w K mg base CX k f fd ps sp:=⟨F.len,fun A outer s H args us vs Q E hr=>F.run A outer s H args us vs Q E (hr.mono h)⟩
section
variable {X : Cx} {pins : List (Addr×Obj)} {σ : St} {H : Hp} {s s' : Shared}
theorem Inv.env0 (I : Inv X pins σ H s) : Env0 X.prog X.w X.K X.mg X.base X.A X.stack s H:=
  ⟨I.ok.frames,I.ok.mod,I.bs,Nat.le_trans I.ok.bsz I.sz,I.stack,I.stkFree,I.hok,I.bare⟩
theorem Inv.after {Q : VK} {u : Value} (I : Inv X pins σ H s) (h : CE X.stack X.prog X.w H s Q u s') : EP X pins σ Q u s':=by
  obtain ⟨v,H',os,bare,un,hok,r,q⟩:=h
  obtain ⟨hh,g,d,t,os'⟩:=s'
  obtain rfl : os' = s.os:=os
  exact ⟨v,H',I.call (h':=hh) (g':=g) (d':=d) (t':=t) (ch:=[]) un hok bare (fun b z=>absurd z (by simp)),r,q⟩
end
def tCall (sp : Sp) (dvs : List V) (E : XK) (t : TA) : TE:=fun σ H Q=>t σ H fun vs H1=>sp (vs ++ dvs) H1 Q E
def Binds (K : PySem.W.Frag) (fd : FuncData) (ps : List Str) (ds : List Value) : Prop:=
  ∀ (s : Shared) (us : List Value),K.In s.heap→(us ++ ds).length=ps.length→BindsTo s fd ⟨us,[]⟩ (ps.zip (us ++ ds))
theorem Binds.all {K : PySem.W.Frag} {fd : FuncData} {ps : List Str} (h : ∀ us : List Value,us.length=ps.length→bindArgs fd ⟨us,[]⟩=pure (ps.zip us)) : Binds K fd ps []:=fun s us _ hl=>by
  rw [List.append_nil] at hl ⊢
  exact .of_eq (h us hl)
def Passes (CX : CXT) (X : Cx) (E : XK) : Prop:=∀ (pins : List (Addr×Obj)) (σ : St) (H : Hp) (s : Shared) (e : Value) (s' : Shared),Inv X pins σ H s→CX X.stack H s E e s'→X.xe e s'
section
variable {X : Cx} {CX : CXT} {k : Nat} {f C : Addr} {fd : FuncData} {ps : List Str} {sp : Sp} {dvs : List V} {ds : List Value} {E : XK} {x m : Str} {p pos apos : Pos} {e o : Expr} {es : List Expr} {ta : TE} {t : TA}
theorem run_fn {pins : List (Addr×Obj)} {σ : St} {H : Hp} {s : Shared} {Q : VK} {us : List Value} {vs : List V} (F : FnOk X.prog X.w X.K X.mg X.base CX k f fd ps sp) (hr : Room k X.A) (hb : Binds X.K fd ps ds) (hd : Vals dvs ds) (hx : Passes CX X E)
    (I : Inv X pins σ H s) (r : Vals vs us) (h : sp (vs ++ dvs) H Q E) : wpAny (model X.prog X.w) X.A (call (.ref f) us) (EP X pins σ Q) X.xe s:=by
  have r2 : Vals (vs ++ dvs) (us ++ ds):=r.append hd
  have hl : (us ++ ds).length=ps.length:=by rw [← r2.length]; exact F.len _ _ _ _ h
  refine wpAny_call (codeAny_mono (F.run X.A X.stack s H ⟨us,[]⟩ (us ++ ds) (vs ++ dvs) Q E hr I.env0 (hb s us I.kIn hl) r2 h) fun r s' hq=>?_)
  cases r with
  | error e=>exact hx pins σ H s e s' I hq
  | ok fl=>
    cases fl with
    | ret u=>exact I.after hq
    | next=>exact False.elim hq
    | brk=>exact False.elim hq
    | cont=>exact False.elim hq
theorem pe_call (F : FnOk X.prog X.w X.K X.mg X.base CX k f fd ps sp) (hr : Room k X.A) (hg : Gl X x) (hm : X.mg x=some (.ref f)) (hk : PySem.W.keepIn X.K (.ref f)=true) (hb : Binds X.K fd ps ds) (hd : Vals dvs ds) (hx : Passes CX X E)
    (ha : PA X (e :: es) t) (hdb : (x == ("__debug__" : Str))=false:=by decide) (he : starEach (e :: es) X.env=(false,eval e X.env) :: starEach es X.env:=by rfl) (hpl : (backTo pos (starEach es X.env)).any (·.1)=false:=by rfl) :
    PE X (.Call (.Name x p) (e :: es) [] pos) (tCall sp dvs E t):=by
  intro pins s σ H Q I h
  refine wpAny_Call_Name_kw (ld_glob I hg hm ?_ hdb)
  refine PySem.W.callWith_K (h₀:=X.base) I.ok.mod.kin hk (thn (ha pos pins s σ H _ I h) fun us s1 ⟨vs,H1,I1,r,q⟩=>⟨I1.kIn,?_⟩) he hpl
  exact run_fn F hr hb hd hx I1 r q
end
section
variable {X : Cx} {CX : CXT} {k : Nat} {f C : Addr} {fd : FuncData} {ps ks : List Str} {sp : Sp} {E : XK} {x m : Str} {p pos apos kpos : Pos} {e o : Expr} {es : List Expr} {kws : List Keyword} {te ta : TE} {t tk : TA} {nm : Option Str}
variable {g : List Value→List Value→List Value} {gV : List V→List V→List V}
end
structure FnScope (N P : List Str) (sc : Scope) : Prop where
  kind : sc.kind = .function
  co : sc.isCoroutine=false
  gen : sc.isGenerator=false
  nd : N.Nodup
  pre : N.take P.length=P
  par : ∀ x∈P,sc.names.lookup x=some .local∨sc.names.lookup x=some .cell
  nofree : ∀ y∈sc.names,y.2≠.free
theorem bindL_out {kindOf : Str→Option NameKind} {x : Str} : ∀ {binds : List (Str×Value)} {m : Str→Option Value},(∀ v,(x,v) ∉ binds)→bindL kindOf binds m x=m x
  | [],_,_=>rfl
  | (n,v) :: r,m,h=>by
    unfold bindL
    rw [bindL_out fun w hw=>h w (List.mem_cons_of_mem _ hw)]
    split
    · have : x≠n:=by rintro rfl; exact h v List.mem_cons_self
      simp [this]
    · rfl
theorem bindC_out {kindOf : Str→Option NameKind} {x : Str} : ∀ {binds : List (Str×Value)} {m : Str→Option Value},(∀ v,(x,v) ∉ binds)→bindC kindOf binds m x=m x
  | [],_,_=>rfl
  | (n,v) :: r,m,h=>by
    unfold bindC
    rw [bindC_out fun w hw=>h w (List.mem_cons_of_mem _ hw)]
    split
    · rfl
    · have : x≠n:=by rintro rfl; exact h v List.mem_cons_self
      simp [this]
theorem bindL_get {kindOf : Str→Option NameKind} {x : Str} {v : Value} : ∀ {P : List Str} {vs : List Value} {i : Nat} {m : Str→Option Value},P.Nodup→P[i]? = some x→vs[i]? = some v→kindOf x=some .local→
    bindL kindOf (P.zip vs) m x=some v
  | [],_,_,_,_,h,_,_=>by simp at h
  | _ :: _,[],_,_,_,_,h,_=>by simp at h
  | p :: P,w :: vs,0,m,nd,h1,h2,hk=>by
    simp at h1 h2; subst h1; subst h2
    show bindL kindOf ((p,w) :: P.zip vs) m p=_
    unfold bindL
    rw [bindL_out fun v hv=>(List.nodup_cons.mp nd).1 (List.of_mem_zip hv).1,if_pos hk]
    simp
  | p :: P,w :: vs,i + 1,m,nd,h1,h2,hk=>by
    show bindL kindOf ((p,w) :: P.zip vs) m x=_
    unfold bindL
    exact bindL_get (i:=i) (List.nodup_cons.mp nd).2 (by simpa using h1) (by simpa using h2) hk
theorem bindC_get {kindOf : Str→Option NameKind} {x : Str} {v : Value} : ∀ {P : List Str} {vs : List Value} {i : Nat} {m : Str→Option Value},P.Nodup→P[i]? = some x→vs[i]? = some v→kindOf x≠some .local→
    bindC kindOf (P.zip vs) m x=some v
  | [],_,_,_,_,h,_,_=>by simp at h
  | _ :: _,[],_,_,_,_,h,_=>by simp at h
  | p :: P,w :: vs,0,m,nd,h1,h2,hk=>by
    simp at h1 h2; subst h1; subst h2
    show bindC kindOf ((p,w) :: P.zip vs) m p=_
    unfold bindC
    rw [bindC_out fun v hv=>(List.nodup_cons.mp nd).1 (List.of_mem_zip hv).1,if_neg hk]
    simp
  | p :: P,w :: vs,i + 1,m,nd,h1,h2,hk=>by
    show bindC kindOf ((p,w) :: P.zip vs) m x=_
    unfold bindC
    exact bindC_get (i:=i) (List.nodup_cons.mp nd).2 (by simpa using h1) (by simpa using h2) hk
def start (N : List Str) (vs : List V) : St:=vs.map some ++ List.replicate (N.length - vs.length) none
def cxOf (CX : CXT) (P : Program) (w : World) (K : PySem.W.Frag) (mg : Str→Option Value) (base : Heap) (N : List Str) (qual : Str) (scope : Scope) (f : Addr) (cd : Value) (A : Around) (outer : List Env) (s : Shared) (H : Hp) (E : XK) : Cx where
  prog:=P
  w:=w
  K:=K
  mg:=mg
  base:=base
  A:=A.deeper (envOfC qual scope s.heap.objs.size f cd)
  N:=N
  s₀:=s
  H₀:=H
  env:=envOfC qual scope s.heap.objs.size f cd
  outer:=outer
  stack:=envOfC qual scope s.heap.objs.size f cd :: outer
  ex:=[]
  calm:=true
  fn:=fun _=>true
  pn:=[]
  xe:=fun e s'=>wpAny (model P w) (A.deeper (envOfC qual scope s.heap.objs.size f cd)) (leaving (envOfC qual scope s.heap.objs.size f cd) e) (fun _ s''=>CX outer H s E e s'') (fun e' s''=>CX outer H s E e' s'') s'
theorem cell_has {sc : Scope} {n : Nat} {x : Str} (h : sc.names.lookup x=some .cell) : ∃ c,(cellsFrom n sc.names []).lookup x=some c:=by
  have q:=PySem.W.cellsFrom_some sc.names n [] (.inl h)
  exact Option.isSome_iff_exists.mp q
theorem inv_start {CX : CXT} {P : Program} {w : World} {K : PySem.W.Frag} {mg : Str→Option Value} {base : Heap} {N ps : List Str} {qual : Str} {scope : Scope} {f : Addr} {cd : Value} {A : Around} {outer : List Env} {s s1 : Shared} {H : Hp} {E : XK} {us : List Value} {vs : List V}
    (S : FnScope N ps scope) (hd : A.handled=none) (e0 : Env0 P w K mg base A outer s H) (hl : vs.length=ps.length) (r : Vals vs us)
    (x : InCallC s s.heap.objs.size (bindL (envOfC qual scope s.heap.objs.size f cd).kindOf (ps.zip us) fun _=>none) (cellsFrom (s.heap.objs.size + 1) scope.names []) (bindC (envOfC qual scope s.heap.objs.size f cd).kindOf (ps.zip us) fun _=>none) s1) :
    Inv (cxOf CX P w K mg base N qual scope f cd A outer s H E) [] (start N vs) H s1:=by
  have hpl : ps.length≤N.length:=by have:=congrArg List.length S.pre; rw [List.length_take] at this; omega
  obtain ⟨h1,tk,rfl,hk⟩:=x.done
  have noA : ∀ b : Addr,b ∉ (cxOf CX P w K mg base N qual scope f cd A outer s H E).ex:=fun b z=>absurd (show b∈([] : List Addr) from z) (by simp)
  refine ⟨⟨e0.mod,S.kind,rfl,rfl,Nat.le_refl _,fun y z c h1 h2=>?_,fun y hy=>?_,fun y c _ h=>?_,fun _=>hd,Around.frames_deeper e0.frames,.inr ⟨rfl,rfl⟩,fun b z=>absurd z (noA b),e0.bs,e0.bsz,fun b _ _=>noA b,fun b z=>absurd z (noA b),e0.funs,e0.frf⟩,
    rfl,e0.bare,Un.kept hk,⟨_,x.toInCall.ns,fun i y v h1 h2 h3=>?_⟩,fun y c h=>⟨_,x.cell y c h⟩,e0.hok.fresh (Nat.le_refl _),fun y c h=>?_,fun p hp=>absurd (show p∈([] : List (Addr×Obj)) from hp) (by simp),e0.hok.kept hk,?_⟩
  · exact name_of_addr x.apart (PySem.mem_of_lookup h1) (PySem.mem_of_lookup h2)
  · have hy : scope.names.lookup y=some .cell∨scope.names.lookup y=some .free:=hy
    rcases hy with hy | hy
    · exact cell_has hy
    · exact absurd rfl (S.nofree _ (PySem.mem_of_lookup hy))
  · exact Nat.le_of_lt (x.above y c (PySem.mem_of_lookup h))
  · have hi : i < vs.length:=by
      unfold start at h2
      by_cases hi : i < vs.length
      · exact hi
      · rw [List.getElem?_append_right (by simpa using hi)] at h2
        rw [List.getElem?_replicate] at h2
        split at h2 <;> cases h2
    have ha : vs[i]? = some v:=by
      unfold start at h2
      rw [List.getElem?_append_left (by simpa using hi),List.getElem?_map] at h2
      cases e : vs[i]? with
      | none=>rw [e] at h2; cases h2
      | some a=>rw [e] at h2; cases h2; rfl
    obtain ⟨u,hu,rv⟩:=r.get ha
    have hp : ps[i]? = some y:=by
      rw [← S.pre,List.getElem?_take_of_lt (by omega)]; exact h1
    have ndP : ps.Nodup:=by rw [← S.pre]; exact S.nd.sublist (List.take_sublist _ _)
    refine ⟨u,rv,?_⟩
    rcases S.par y (List.mem_of_getElem? hp) with k | k
    · exact .inl ⟨k,bindL_get ndP hp hu k⟩
    · obtain ⟨c,e⟩:=cell_has (n:=s.heap.objs.size + 1) k
      refine .inr ⟨.inl k,c,e,?_⟩
      have q:=x.cell y c e
      rw [bindC_get ndP hp hu (by show scope.names.lookup y≠_; rw [k]; decide)] at q
      exact q
  · exact e0.hok.fresh (Nat.le_of_lt (x.above y c (PySem.mem_of_lookup h)))
  · unfold start
    show _=N.length
    rw [List.length_append,List.length_map,List.length_replicate]
    omega
theorem fn_of {CX : CXT} {P : Program} {w : World} {K : PySem.W.Frag} {mg : Str→Option Value} {base : Heap} {k : Nat} {f : Addr} {name qual : Str} {params : Arguments} {body : List Stmt} {scope : Scope} {dV kV doc pm cdv ct oc : Value} {an od : Option Addr}
    {osl : Array (Option Value)} {N ps : List Str} {sp : Sp} (lk : K.lookup f=some ⟨oc,od,.func (PySem.W.fnOf name qual params body scope dV kV doc pm an cdv ct),osl⟩) (hcd : PySem.W.codeIn K cdv qual=true) (S : FnScope N ps scope)
    (len : ∀ vs H Q E,sp vs H Q E→vs.length=ps.length)
    (hbody : ∀ (A : Around) (outer : List Env) (s : Shared) (H : Hp) (vs : List V) (Q : VK) (E : XK),Room k (A.deeper (envOfC qual scope s.heap.objs.size f cdv))→sp vs H Q E→
      ∃ t,PSs (cxOf CX P w K mg base N qual scope f cdv A outer s H E) body t∧t { nx:=fun _ H'=>Q .non H',rt:=Q } (start N vs) H) :
    FnOk P w K mg base CX (k + 1) f (PySem.W.fnOf name qual params body scope dV kV doc pm an cdv ct) ps sp:=by
  refine ⟨len,fun A outer s H args us vs Q E hr e0 hb r hsp=>?_⟩
  have hl:=len _ _ _ _ hsp
  have KX : K.In s.heap:=e0.mod.kin.keeps fun b o e=>(e0.bs b o e).1
  have lim : s.heap.NoLimit:=e0.mod.nolimit.keeps fun b o e=>(e0.bs b o e).1
  have hkind : ∀ y∈ps.zip us,scope.names.lookup y.1=some .local∨(scope.names.lookup y.1=some .cell∧((cellsFrom (s.heap.objs.size + 1) scope.names []).lookup y.1).isSome=true):=fun ⟨n,v⟩ hy=>by
    rcases S.par n (List.of_mem_zip hy).1 with q | q
    · exact .inl q
    · exact .inr ⟨q,PySem.W.cellsFrom_some _ _ _ (.inl q)⟩
  refine codeAny_call_function hr.depth (KX _ _ lk) rfl S.co S.gen rfl (PySem.W.codeRec_of KX hcd) (hb _ _ _ _ ?_)
  refine wpAny_newFunctionEnv_cells S.kind hkind fun env he s1 x=>?_
  subst he
  refine ⟨lim.keeps x.toInCall.keep,codeAny_func ?_⟩
  obtain ⟨t,ht,hq⟩:=hbody A outer s H vs Q E (hr.deeper _) hsp
  have I : Inv (cxOf CX P w K mg base N qual scope f cdv A outer s H E) [] (start N vs) H s1:=inv_start S hr.hd e0 hl r x
  refine wpAny_mono (ht [] s1 (start N vs) H _ I hq) (fun fl s' hs=>?_) fun e s' hs=>hs
  have fin : ∀ {σ' : St} {H' : Hp} {v : V} {u : Value},Inv (cxOf CX P w K mg base N qual scope f cdv A outer s H E) [] σ' H' s'→RelV v u→Q v H'→CE outer P w H s Q u s':=
    fun {σ' H' v u} J rv q=>⟨v,H',J.os,J.bare,J.base,J.hok,rv,q⟩
  cases fl with
  | ret u=>
    obtain ⟨v,σ',H',J,rv,q⟩:=hs
    exact fin J rv q
  | next=>
    obtain ⟨σ',H',J,q⟩:=hs
    exact fin (v:=V.non) (u:=Value.none) J rfl q
  | brk=>
    obtain ⟨_,_,_,q⟩:=hs
    exact False.elim q
  | cont=>
    obtain ⟨_,_,_,q⟩:=hs
    exact False.elim q
end L2
namespace L2
open PySem PySem.Spec PyProof.Rows
section
variable {X : Cx} {x : Str} {p pos : Pos} {e : Expr} {es : List Expr} {t : TA} {id T : String} {r : List V→Hp→VK→Prop}
def tCB (r : List V→Hp→VK→Prop) (t : TA) : TE:=fun σ H Q=>t σ H fun vs H1=>r vs H1 Q
theorem pe_callB (hc : CallR X (.builtin id) r) (hg : Gl X x) (hm : X.mg x=none) (hv : bootBuiltins x=some (.builtin id)) (ha : PA X (e :: es) t) (hn : x ≠ "__name__" := by decide) (hdb : (x == ("__debug__" : Str))=false:=by decide)
    (he : starEach (e :: es) X.env=(false,eval e X.env) :: starEach es X.env:=by rfl) (hpl : (backTo pos (starEach es X.env)).any (·.1)=false:=by rfl) : PE X (.Call (.Name x p) (e :: es) [] pos) (tCB r t):=by
  intro pins s σ H Q I h
  refine wpAny_Call_Name_kw (ld_blt I hg hm hv ?_ hn hdb)
  exact PyProof.Rows.callWith_builtin1 (thn (ha pos pins s σ H _ I h) fun us s1 ⟨vs,H1,I1,r1,q1⟩=>hc pins s1 σ H1 vs us Q I1 r1 q1) he hpl
theorem pe_callTy (hc : CallR X (.type T) r) (hg : Gl X x) (hm : X.mg x=none) (hv : bootBuiltins x=some (.type T)) (ha : PA X (e :: es) t) (hn : x ≠ "__name__" := by decide) (hdb : (x == ("__debug__" : Str))=false:=by decide)
    (he : starEach (e :: es) X.env=(false,eval e X.env) :: starEach es X.env:=by rfl) (hpl : (backTo pos (starEach es X.env)).any (·.1)=false:=by rfl) : PE X (.Call (.Name x p) (e :: es) [] pos) (tCB r t):=by
  intro pins s σ H Q I h
  refine wpAny_Call_Name_kw (ld_blt I hg hm hv ?_ hn hdb)
  exact PyProof.Rows.callWith_type1 (thn (ha pos pins s σ H _ I h) fun us s1 ⟨vs,H1,I1,r1,q1⟩=>hc pins s1 σ H1 vs us Q I1 r1 q1) he hpl
end
end L2
namespace HT
open PySem PyProof.Rows
section
open PySem.SeqAt
open PySem.AutoSeq1 (wpAny_loadPart')
open PySem.MeetsSeq PySem.MeetsSeq2 PySem.MeetsSeq3
end
section
variable {prog : Program} {w : World} {A : Around} {E : Value→Shared→Prop} {s : Shared}
def sIx (n d : Nat) : Option Int→Nat
  | none=>d
  | some v=>if v < 0 then (v + (n : Int)).toNat else min v.toNat n
end
end HT
namespace L2
open PySem PySem.Spec PyProof.Rows
abbrev TO:=St→Hp→(Option Int→Hp→Prop)→Prop
def PO (X : Cx) (e : Option Expr) (t : TO) : Prop:=
  ∀ (pins : List (Addr×Obj)) (s : Shared) (σ : St) (H : Hp) (Q : Option Int→Hp→Prop),Inv X pins σ H s→t σ H Q→
    wpAny (model X.prog X.w) X.A (evalPart e X.env) (fun u s'=>∃ o H',Inv X pins σ H' s'∧IsPart u o∧Q o H') X.xe s
def tNoPart : TO:=fun _ H Q=>Q none H
def tPart (t : TE) : TO:=fun σ H Q=>t σ H fun x H1=>∃ i,x = .int i∧Q (some i) H1
section
variable {X : Cx} {e : Expr} {te : TE} {lo hi : Option Expr} {tl th : TO} {pos p2 : Pos}
theorem po_none : PO X none tNoPart:=by
  intro pins s σ H Q I h
  rw [evalPart_none]
  exact wpAny_pure ⟨none,H,I,.none,h⟩
theorem po_some (h : PE X e te) : PO X (some e) (tPart te):=by
  intro pins s σ H Q I hw
  rw [evalPart_some]
  refine thn (h pins s σ H _ I hw) fun u s1 ⟨x,H1,I1,r1,q1⟩=>?_
  obtain ⟨i,rfl,q⟩:=q1
  obtain ⟨t,rfl⟩:=r1
  exact ⟨some i,H1,I1,.int i t,q⟩
def SlR (X : Cx) (r : V→Option Int→Option Int→Hp→VK→Prop) : Prop:=
  ∀ (pins : List (Addr×Obj)) (s : Shared) (σ : St) (H : Hp) (x : V) (v vl vu : Value) (lo hi : Option Int) (sl : Addr) (Q : VK),Inv X pins σ H s→RelV x v→s.heap.IsSliceOf sl vl vu .none→IsPart vl lo→IsPart vu hi→r x lo hi H Q→
    ∃ T id,typeLookup (.type T) "__getitem__" = pure (some (.builtin id))∧s.TypeIs v T∧wpAny (model X.prog X.w) X.A (getItem v (.ref sl)) (EP X pins σ Q) X.xe s
def tSl (r : V→Option Int→Option Int→Hp→VK→Prop) (te : TE) (tl th : TO) : TE:=fun σ H Q=>te σ H fun x H1=>tl σ H1 fun l H2=>th σ H2 fun u H3=>r x l u H3 Q
theorem pe_slice {r : V→Option Int→Option Int→Hp→VK→Prop} (hr : SlR X r) (he : PE X e te) (hl : PO X lo tl) (hu : PO X hi th) : PE X (.Subscript e (.Slice lo hi none p2) pos) (tSl r te tl th):=by
  intro pins s σ H Q I h
  refine Subscript_ (thn (he pins s σ H _ I h) fun v s1 ⟨x,H1,I1,r1,q1⟩=>?_)
  refine wpAny_Slice (thn (hl pins s1 σ H1 _ I1 q1) fun vl s2 ⟨l,H2,I2,pl,q2⟩=>thn (hu pins s2 σ H2 _ I2 q2) fun vu s3 ⟨u,H3,I3,pu,q3⟩=>?_)
  rw [evalPart_none]
  refine wpAny_pure ?_
  have I4 : Inv X pins σ H3 { s3 with heap:=s3.heap.push { cls:=.type "slice",data:=.fields #[vl,vu,.none] } }:=I3.kept (t':=s3.toks) fun b ob q=>Heap.get?_push_of_some _ q
  obtain ⟨T,id,hT,ht,hg⟩:=hr pins { s3 with heap:=s3.heap.push { cls:=.type "slice",data:=.fields #[vl,vu,.none] } } σ H3 x v vl vu l u s3.heap.objs.size Q I4 r1 (Heap.IsSliceOf.new ..) pl pu q3
  show wpAny (model X.prog X.w) X.A (subscriptTail e (.Slice lo hi none p2) v (.ref s3.heap.objs.size)) (EP X pins σ Q) X.xe { s3 with heap:=s3.heap.push { cls:=.type "slice",data:=.fields #[vl,vu,.none] } }
  exact tail_any (ops:=[.ref s3.heap.objs.size,v]) ht hT hg (by with_unfolding_all rfl)
def cutV (xs : List V) (lo hi : Option Int) : List V:=(xs.drop (HT.sIx xs.length 0 lo)).take (HT.sIx xs.length xs.length hi - HT.sIx xs.length 0 lo)
theorem cutV_length (xs : List V) (lo hi : Option Int) : (cutV xs lo hi).length≤xs.length:=by
  unfold cutV
  rw [List.length_take,List.length_drop]
  omega
end
end L2
namespace L2
open PySem PySem.Spec PyProof.Rows
def ixN (n : Nat) (i : Int) : Option Nat:=if 0≤i then (if i < n then some i.toNat else none) else if -(n : Int)≤i then some (i + n).toNat else none
def atI {α : Type} (xs : List α) (i : Int) : Option α:=(ixN xs.length i).bind fun j=>xs[j]?
theorem ixN_seq {n : Nat} {i : Int} {j : Nat} (h : ixN n i=some j) : seqIndex? i n=some j∧j < n∧-(n : Int)≤i∧i < n:=by
  unfold ixN at h
  by_cases h0 : 0≤i
  · rw [if_pos h0] at h
    by_cases h1 : i < n
    · rw [if_pos h1] at h
      have e : i.toNat=j:=Option.some.inj h
      exact ⟨by rw [seqIndex_of h0 h1,e],by omega,by omega,h1⟩
    · rw [if_neg h1] at h; cases h
  · rw [if_neg h0] at h
    by_cases h1 : -(n : Int)≤i
    · rw [if_pos h1] at h
      have e : (i + n).toNat=j:=Option.some.inj h
      exact ⟨by rw [seqIndex_neg (by omega) h1,e],by omega,h1,by omega⟩
    · rw [if_neg h1] at h; cases h
theorem atI_get {α : Type} {xs : List α} {i : Int} {v : α} (h : atI xs i=some v) : ∃ j,seqIndex? i xs.length=some j∧xs[j]? = some v∧j < xs.length∧-(xs.length : Int)≤i∧i < xs.length:=by
  unfold atI at h
  cases e : ixN xs.length i with
  | none=>rw [e] at h; cases h
  | some j=>
    rw [e] at h
    obtain ⟨h1,h2,h3,h4⟩:=ixN_seq e
    exact ⟨j,h1,h,h2,h3,h4⟩
theorem atI_nat {α : Type} {xs : List α} {j : Nat} {v : α} (h : xs[j]? = some v) : atI xs (j : Int)=some v:=by
  have hj : j < xs.length:=(List.getElem?_eq_some_iff.mp h).1
  have e : ixN xs.length (j : Int)=some j:=by
    unfold ixN
    rw [if_pos (by omega),if_pos (by omega)]; simp
  unfold atI; rw [e]; exact h
def PlainIx (b : Expr) : Prop:=∀ o i,subscripted b false o i=operate [o,i] (getItem o i)
def IxR (X : Cx) (r : R2) : Prop:=
  ∀ (value slice : Expr) (pins : List (Addr×Obj)) (s : Shared) (σ : St) (H : Hp) (x y : V) (v u : Value) (Q : VK),Inv X pins σ H s→RelV x v→RelV y u→r x y H Q→
    subscripted slice false v u=operate [v,u] (getItem v u)→wpAny (model X.prog X.w) X.A (subscriptTail value slice v u) (EP X pins σ Q) X.xe s
def MtR (X : Cx) (id : String) (r : V→List V→Hp→VK→Prop) : Prop:=
  ∀ (pins : List (Addr×Obj)) (s : Shared) (σ : St) (H : Hp) (x : V) (xs : List V) (v : Value) (us : List Value) (Q : VK),Inv X pins σ H s→RelV x v→Vals xs us→r x xs H Q→
    wpAny (model X.prog X.w) X.A (call (.builtin id) (v :: us)) (EP X pins σ Q) X.xe s
section
variable {X : Cx} {a b : Expr} {ta tb : TE} {pos : Pos}
theorem pe_ix {r : R2} (hr : IxR X r) (ha : PE X a ta) (hb : PE X b tb) (hs : PlainIx b) : PE X (.Subscript a b pos) (tOp r ta tb):=by
  intro pins s σ H Q I h
  exact Subscript_ (binT ha hb I h fun v u s2 x y H2 I2 rx ry q=>hr a b pins s2 σ H2 x y v u Q I2 rx ry q (hs _ _))
def rIxL (K : PySem.W.Frag) : R2:=fun x y H Q=>∃ p xs i v,x = .ref p∧y = .int i∧SqL K H p xs∧atI xs i=some v∧Q v H
def rIxT (K : PySem.W.Frag) : R2:=fun x y H Q=>∃ p xs i v,x = .ref p∧y = .int i∧SqT K H p xs∧atI xs i=some v∧Q v H
theorem ix_list : IxR X (rIxL X.K):=by
  intro value slice pins s σ H x y v u Q I rx ry h hs
  obtain ⟨p,xs,i,z,rfl,rfl,hq,he,q⟩:=h
  cases rx
  obtain ⟨t,rfl⟩:=ry
  obtain ⟨its,r,pl,hz⟩:=I.list hq
  obtain ⟨j,h1,h2,h3,h4,h5⟩:=atI_get he
  obtain ⟨w,ew,rw'⟩:=r.get h2
  have hl:=r.length
  have hn:=line63
  have fin : EP X pins σ Q w s:=⟨z,H,I,rw',q⟩
  by_cases h0 : 0≤i
  · have hj : i.toNat=j:=by
      rw [seqIndex_of h0 h5] at h1
      exact Option.some.inj h1
    exact item_listR pl.isList h0 (by omega) (by rw [hj]; simpa using ew) fin hs
  · have hj : (i + (its.toArray.size : Int)).toNat=j:=by
      rw [seqIndex_neg (by omega) h4] at h1
      rw [List.size_toArray,← hl]
      exact Option.some.inj h1
    exact subscriptTail_builtinR (x:=w) pl.isList.typeIs slot_list_getitem.lookup
      (wpAny_getItem_list_neg (Q:=fun r s'=>r=w∧EP X pins σ Q r s') pl.isList (by omega) (by rw [List.size_toArray] <;> omega) (by omega) (by rw [hj]; simpa using ew) ⟨rfl,fin⟩) hs
theorem ix_tup : IxR X (rIxT X.K):=by
  intro value slice pins s σ H x y v u Q I rx ry h hs
  obtain ⟨p,xs,i,z,rfl,rfl,hq,he,q⟩:=h
  cases rx
  obtain ⟨t,rfl⟩:=ry
  obtain ⟨its,r,pl,hz⟩:=I.tuple hq
  obtain ⟨j,h1,h2,h3,h4,h5⟩:=atI_get he
  obtain ⟨w,ew,rw'⟩:=r.get h2
  have hl:=r.length
  have hn:=line63
  have fin : EP X pins σ Q w s:=⟨z,H,I,rw',q⟩
  exact subscriptTail_builtinR (x:=w) pl.typeIs slot_tuple_getitem.lookup
    (getItem_tuple (j:=j) (Q:=fun r s'=>r=w∧EP X pins σ Q r s') pl (by omega) (by omega) (by rw [List.size_toArray,← hl]; exact h1) (by simpa using ew) ⟨rfl,fin⟩) hs
theorem mapSeq_set (its : List Value) (n j : Nat) (u : Value) : Obj.mapSeq (·.setIfInBounds j u) { cls:=.type "list",data:=.seq its.toArray n } = { cls:=.type "list",data:=.seq (its.set j u).toArray n }:=by
  simp [Obj.mapSeq]
theorem Inv.lst {pins : List (Addr×Obj)} {σ : St} {H : Hp} {s : Shared} {p : Addr} {xs : List V} (I : Inv X pins σ H s) (h : H p=some (.lst xs)) :
    ∃ (its : List Value) (n : Nat),Vals xs its∧s.heap.get? p=some { cls:=.type "list",data:=.seq its.toArray n }∧xs.length≤sizeLine:=by
  obtain ⟨z,its,n,r,e⟩:=I.hok p _ h
  exact ⟨its,n,r,e,z⟩
theorem Inv.lstUpd {pins : List (Addr×Obj)} {σ : St} {H : Hp} {s : Shared} {p : Addr} {xs ys : List V} {its its' : List Value} {n n' : Nat} {f : Obj→Obj} (I : Inv X pins σ H s) (h : H p=some (.lst xs))
    (ho : s.heap.get? p=some { cls:=.type "list",data:=.seq its.toArray n }) (hf : f { cls:=.type "list",data:=.seq its.toArray n } = { cls:=.type "list",data:=.seq its'.toArray n' }) (r : Vals ys its') (hz : ys.length≤sizeLine) (t : Nat) :
    Inv X pins σ (upd H p (.lst ys)) { s with heap:=s.heap.update p f,toks:=t }:=by
  have e : (s.heap.update p f).get? p=some { cls:=.type "list",data:=.seq its'.toArray n' }:=by
    rw [Heap.get?_update_self f ho (by rw [hf] <;> rfl),hf]
  refine I.write (x:=p) (e:=p) (by rw [h]; trivial) (.inl rfl) (fun b u hb q=>(Heap.get?_update_other _ _ (Ne.symm hb)).trans q) ⟨_,e⟩ ?_
  exact ⟨hz,its',n',r,e⟩
def rSetL : V→V→V→Hp→(Hp→Prop)→Prop:=fun o i v H Q=>∃ p xs k j,o = .ref p∧i = .int k∧H p=some (.lst xs)∧ixN xs.length k=some j∧Q (upd H p (.lst (xs.set j v)))
theorem set_list : PSet X rSetL:=by
  intro pins s σ H o i v ov iv u Q I ro ri rv h
  obtain ⟨p,xs,k,j,rfl,rfl,hp,hj,q⟩:=h
  cases ro
  obtain ⟨t,rfl⟩:=ri
  obtain ⟨its,n,r,ho,hz⟩:=I.lst hp
  obtain ⟨h1,h2,h3,h4⟩:=ixN_seq hj
  have hl:=r.length
  have hn:=line63
  have I' : Inv X pins σ (upd H p (.lst (xs.set j v))) { s with heap:=s.heap.update p (Obj.mapSeq (·.setIfInBounds j u)) }:=
    I.lstUpd hp ho (mapSeq_set its n j u) (r.set rv j) (by rw [List.length_set]; exact hz) s.toks
  by_cases h0 : 0≤k
  · have hk : k.toNat=j:=by
      rw [seqIndex_of h0 h4] at h1
      exact Option.some.inj h1
    exact PySem.W.ki_setAt ho h0 (by omega) (by rw [List.size_toArray,← hl]; exact h4) (by rw [hk]; exact ⟨_,I',q⟩)
  · have hk : (k + (its.toArray.size : Int)).toNat=j:=by
      rw [seqIndex_neg (by omega) h3] at h1
      rw [List.size_toArray,← hl]
      exact Option.some.inj h1
    exact PySem.W.ki_setBack ho (by omega) (by rw [List.size_toArray,← hl]; exact h3) (by omega) (by rw [hk]; exact ⟨_,I',q⟩)
theorem slice_bounds (lo hi : Option Int) (n : Nat) : (sliceBounds lo hi none n).1=((HT.sIx n 0 lo : Nat) : Int)∧(sliceBounds lo hi none n).2.1=((HT.sIx n n hi : Nat) : Int)∧(sliceBounds lo hi none n).2.2=1:=by
  refine ⟨?_,?_,rfl⟩
  · cases lo with
    | none=>simp [sliceBounds,HT.sIx]
    | some i=>
      simp only [sliceBounds,HT.sIx,Option.getD_none,show (1 : Int) > 0 by decide,if_true]
      by_cases h : i < 0
      · simp only [h,if_true] <;> omega
      · simp only [h,if_false] <;> omega
  · cases hi with
    | none=>simp [sliceBounds,HT.sIx]
    | some i=>
      simp only [sliceBounds,HT.sIx,Option.getD_none,show (1 : Int) > 0 by decide,if_true]
      by_cases h : i < 0
      · simp only [h,if_true] <;> omega
      · simp only [h,if_false] <;> omega
theorem slicePick_cut (its : List Value) (lo hi : Option Int) : slicePick its.toArray lo hi none=((its.drop (HT.sIx its.length 0 lo)).take (HT.sIx its.length its.length hi - HT.sIx its.length 0 lo)).toArray:=by
  obtain ⟨h1,h2,h3⟩:=slice_bounds lo hi its.toArray.size
  unfold slicePick
  rw [h1,h2,h3]
  simp only [sliceRange_one,pick_run,List.size_toArray] <;> rfl
def rSlL (K : PySem.W.Frag) : V→Option Int→Option Int→Hp→VK→Prop:=fun x lo hi H Q=>∃ a xs,x = .ref a∧SqL K H a xs∧∀ p,H p=none→Q (.ref p) (upd H p (.lst (cutV xs lo hi)))
theorem sl_list : SlR X (rSlL X.K):=by
  intro pins s σ H x v vl vu lo hi sl Q I rx hs pl pu h
  obtain ⟨a,xs,rfl,hx,q⟩:=h
  cases rx
  obtain ⟨its,r,ht,hz⟩:=I.list hx
  have hlen:=r.length
  refine ⟨"list",_,slot_list_getitem.lookup,ht.isList.typeIs,?_⟩
  refine wpAny_getItem_list_slice ht.isList hs pl pu .none (by simp) ?_ (by rw [List.size_toArray] <;> omega)
  rw [slicePick_cut,← hlen]
  refine ⟨.ref s.heap.objs.size,_,I.laid (t':=s.toks) (o:=.lst (cutV xs lo hi)) (fun b ob q=>Heap.get?_push_of_some _ q) (Nat.le_refl _) ?_,rfl,q _ (I.hok.fresh (Nat.le_refl _))⟩
  exact ⟨Nat.le_trans (cutV_length xs lo hi) hz,_,0,(r.drop (HT.sIx xs.length 0 lo)).take (HT.sIx xs.length xs.length hi - HT.sIx xs.length 0 lo),Heap.get?_push_size _ rfl⟩
theorem call_len_seq : CallR X (.builtin "len") (fun xs H Q=>∃ p ys,xs=[.ref p]∧(SqL X.K H p ys∨SqT X.K H p ys)∧Q (.int ys.length) H):=by
  intro pins s σ H xs us Q I r h
  obtain ⟨p,ys,rfl,hq,q⟩:=h
  obtain ⟨u,rfl,rx⟩:=vals1 r
  cases rx
  have hn:=line63
  rcases hq with hq | hq
  · obtain ⟨its,r',pl,hz⟩:=I.list hq
    have hlen:=r'.length
    exact Calls.call_len_list pl.isList (by simp only [List.size_toArray] <;> omega) ⟨.int ys.length,H,I.tok _,⟨s.toks + 1,by rw [List.size_toArray,hlen]⟩,q⟩
  · obtain ⟨its,r',pl,hz⟩:=I.tuple hq
    have hlen:=r'.length
    exact len_tuple pl (by simp only [List.size_toArray] <;> omega) ⟨.int ys.length,H,I.tok _,⟨s.toks + 1,by rw [List.size_toArray,hlen]⟩,q⟩
theorem call_list_of : CallR X (.type "list") (fun xs H Q=>∃ p ys,xs=[.ref p]∧(SqL X.K H p ys∨SqT X.K H p ys)∧∀ l,H l=none→Q (.ref l) (upd H l (.lst ys))):=by
  intro pins s σ H xs us Q I r h
  obtain ⟨p,ys,rfl,hq,q⟩:=h
  obtain ⟨u,rfl,rx⟩:=vals1 r
  cases rx
  have fin : ∀ (its : List Value),Vals ys its→ys.length≤sizeLine→∀ (h' : Heap) (c' : Nat),(∀ b o',s.heap.get? b=some o'→h'.get? b=some o')→
      h'.get? s.heap.objs.size=some { cls:=.type "list",dict:=none,data:=.seq its.toArray c',slots:=#[] }→EP X pins σ Q (.ref s.heap.objs.size) { s with heap:=h' }:=fun its r' hz h' c' kp e =>
    ⟨.ref s.heap.objs.size,_,I.laid (t':=s.toks) kp (Nat.le_refl _) (show ObjOk X.prog X.w _ h' _ (.lst ys) from ⟨hz,its,c',r',e⟩),rfl,q _ (I.hok.fresh (Nat.le_refl _))⟩
  rcases hq with hq | hq
  · obtain ⟨its,r',pl,hz⟩:=I.list hq
    have hlen:=r'.length
    obtain ⟨o,ho,hc,n,hd⟩:=pl.isList
    exact call_list_seq p (.inl rfl) ho hc hd (fun h' c' kp e=>fin its r' hz h' c' kp e) (by simp only [List.size_toArray] <;> omega)
  · obtain ⟨its,r',pl,hz⟩:=I.tuple hq
    have hlen:=r'.length
    obtain ⟨o,ho,hc,n,hd⟩:=pl
    exact call_list_seq p (.inr rfl) ho hc hd (fun h' c' kp e=>fin its r' hz h' c' kp e) (by simp only [List.size_toArray] <;> omega)
def tyV (K : PySem.W.Frag) (T : String) (x : V) (H : Hp) : Prop:=match x with
  | .str _=>T = "str"
  | .int _=>T = "int"
  | .ref p=>(T = "list" ∧ ∃ xs,SqL K H p xs)∨(T = "tuple" ∧ ∃ o,K.lookup p=some o∧o.cls = .type "tuple" ∧ o.dict=none) ∨
      (T = "dict" ∧ ((∃ kvs,H p=some (.dK kvs))∨∃ kvs,H p=some (.dT kvs)))∨(T = "set" ∧ ∃ S n,H p=some (.set S n))
  | _=>False
theorem tyV_is {pins : List (Addr×Obj)} {σ : St} {H : Hp} {s : Shared} {T : String} {x : V} {v : Value} (I : Inv X pins σ H s) (r : RelV x v) (ty : tyV X.K T x H) :
    s.TypeIs v T∧∀ a,v = .ref a→∃ ob,s.heap.get? a=some ob∧ob.dict=none:=by
  cases x with
  | str z=>
    obtain ⟨t,rfl⟩:=r
    cases (show T = "str" from ty)
    exact ⟨typeIs_str s z t,fun _ e=>nomatch e⟩
  | int i=>
    obtain ⟨t,rfl⟩:=r
    cases (show T = "int" from ty)
    exact ⟨typeIs_int s i t,fun _ e=>nomatch e⟩
  | ref p=>
    cases r
    rcases ty with ⟨rfl,xs,hq⟩ | ⟨rfl,o,hk,hc,hd⟩ | ⟨rfl,hk⟩ | ⟨rfl,S,n,hk⟩
    · obtain ⟨its,_,pl,_⟩:=I.list hq
      refine ⟨pl.isList.typeIs,fun a e=>?_⟩
      cases e
      obtain ⟨o,n,e,c,hd,_⟩:=pl
      exact ⟨o,e,hd⟩
    · refine ⟨⟨o,I.kIn p o hk,hc⟩,fun a e=>?_⟩
      cases e
      exact ⟨o,I.kIn _ o hk,hd⟩
    · have z : ∃ o,s.heap.get? p=some o∧o.ExactDict:=by
        rcases hk with ⟨kvs,hk⟩ | ⟨kvs,hk⟩
        · obtain ⟨_,_,_,_,o,_,_,e,ex,_⟩:=I.hok p _ hk
          exact ⟨o,e,ex⟩
        · obtain ⟨_,_,_,_,o,_,_,e,ex,_⟩:=I.hok p _ hk
          exact ⟨o,e,ex⟩
      obtain ⟨o,e,ex⟩:=z
      refine ⟨⟨o,e,ex.1⟩,fun a e2=>?_⟩
      cases e2
      exact ⟨o,e,ex.2.1⟩
    · obtain ⟨o,_,_,_,e,ex,_⟩:=I.hok p _ hk
      refine ⟨⟨o,e,ex.1⟩,fun a e2=>?_⟩
      cases e2
      exact ⟨o,e,ex.2.1⟩
  | _=>exact False.elim ty
def tBM (K : PySem.W.Frag) (T : String) (r : V→List V→Hp→VK→Prop) (to : TE) (t : TA) : TE:=fun σ H Q=>to σ H fun x H1=>tyV K T x H1∧t σ H1 fun xs H2=>r x xs H2 Q
variable {o e : Expr} {es : List Expr} {to : TE} {t : TA} {name : Str} {apos cpos : Pos} {T id : String} {r : V→List V→Hp→VK→Prop}
theorem pe_bm (pa : PlainAttrs T) (slot : Slot T name id) (hty : typeOf (.builtin id)=pure (.type "method_descriptor")) (hm : MtR X id r) (ho : PE X o to) (ha : PA X (e :: es) t)
    (hbase : attributeBase o name X.env (eval o X.env)=eval o X.env:=by rfl)
    (hfew : ((backTo cpos (starEach (e :: es) X.env)).all (fun x=>!x.1) && (backToKw cpos (keywordEach [] X.env)).all (fun x=>x.1.isSome)
      && decide ((e :: es).length + ([] : List Keyword).length + (if ([] : List Keyword).isEmpty then 0 else 1) < 30))=true:=by rfl)
    (hline : (apos.endLine == cpos.line)=true:=by rfl) (hs : starEach (e :: es) X.env=(false,eval e X.env) :: starEach es X.env:=by rfl) (hplain : (backTo cpos (starEach es X.env)).any (·.1)=false:=by rfl) :
    PE X (.Call (.Attribute o name apos) (e :: es) [] cpos) (tBM X.K T r to t):=by
  intro pins s σ H Q I h
  refine wpAny_Call_method_late hbase hfew hline rfl (thn (ho pins s σ H _ I h) fun v s1 ⟨x,H1,I1,r1,ty,q1⟩=>?_)
  obtain ⟨h1,h2⟩:=tyV_is I1 r1 ty
  refine ⟨T,id,pa,slot,hty,h1,h2,?_⟩
  have hA:=ha cpos pins s1 σ H1 _ I1 q1
  rw [hs] at hA ⊢
  refine Calls.callWith_builtin (by show (false || (backTo cpos (starEach es X.env)).any (·.1))=false; rw [hplain] <;> rfl) (Calls.evalArgs_plain ?_)
  exact thn hA fun us s2 ⟨vs,H2,I2,r2,q2⟩=>hm pins s2 σ H2 x vs v us Q I2 r1 r2 q2
end
end L2
namespace L2
open PySem PySem.Spec PyProof.Rows
def MtM (X : Cx) (id : String) (r : V→List V→Hp→VK→Prop) : Prop:=
  ∀ (pins : List (Addr×Obj)) (s : Shared) (σ : St) (H : Hp) (x : V) (xs : List V) (v : Value) (us : List Value) (Q : VK),Inv X pins σ H s→RelV x v→Vals xs us→r x xs H Q→
    wpAny (model X.prog X.w) X.A (call (.builtin id) (v :: us)) (EP X pins σ Q) X.xe s
theorem Vals.one : ∀ {x : V} {us : List Value},Vals [x] us→∃ u,us=[u]∧RelV x u
  | _,_,.cons r .nil=>⟨_,rfl,r⟩
theorem Vals.rep {xs : List V} {us : List Value} (h : Vals xs us) : ∀ k : Nat,Vals (List.replicate k xs).flatten (List.replicate k us).flatten
  | 0=>.nil
  | k + 1=>by
    rw [List.replicate_succ,List.replicate_succ,List.flatten_cons,List.flatten_cons]
    exact Vals.append h (Vals.rep h k)
theorem foldl_rep (its : List Value) : ∀ (k : Nat) (acc : List Value),
    List.foldl (fun x1 x2=>x1 ++ x2) acc.toArray (List.replicate k its.toArray)=(acc ++ (List.replicate k its).flatten).toArray
  | 0,acc=>by simp
  | k + 1,acc=>by
    have e : acc.toArray ++ its.toArray=(acc ++ its).toArray:=by simp
    have e2 : (acc ++ its) ++ (List.replicate k its).flatten=acc ++ (List.replicate (k + 1) its).flatten:=by
      rw [List.replicate_succ,List.flatten_cons,List.append_assoc]
    rw [← e2,← foldl_rep its k (acc ++ its),← e,List.replicate_succ,List.foldl_cons]
section
variable {X : Cx} {pins : List (Addr×Obj)} {σ : St} {H : Hp} {s : Shared} {l b : Addr} {xs ys zs : List V}
theorem Inv.lset {its its' : List Value} {n : Nat} {f : Array Value→Array Value} {t' : Nat} (I : Inv X pins σ H s) (hH : H l=some (.lst xs))
    (e : s.heap.get? l=some { cls:=.type "list",data:=.seq its.toArray n }) (hf : f its.toArray=its'.toArray) (hv : Vals ys its') (hz : ys.length≤sizeLine) :
    Inv X pins σ (upd H l (.lst ys)) { s with heap:=s.heap.update l (Obj.mapSeq f),toks:=t' }:=by
  have q:=PySem.IsL.update e f
  rw [hf] at q
  refine I.write (x:=l) (e:=l) (by rw [hH]; exact trivial) (.inl rfl) (fun b' u hb hu=>(Heap.get?_update_other s.heap (Obj.mapSeq f) (Ne.symm hb)).trans hu) ⟨_,q⟩ ?_
  exact ⟨hz,its',_,hv,q⟩
theorem Inv.lnew {its : List Value} {t' : Nat} (I : Inv X pins σ H s) (hv : Vals ys its) (hz : ys.length≤sizeLine) :
    Inv X pins σ (upd H s.heap.objs.size (.lst ys)) { s with heap:=s.heap.push { cls:=.type "list",data:=.seq its.toArray },toks:=t' } :=
  I.laid (fun _ _ q=>Heap.get?_push_of_some _ q) (Nat.le_refl _) ⟨hz,its,0,hv,Heap.get?_push_size _ rfl⟩
theorem Inv.fresh (I : Inv X pins σ H s) : H s.heap.objs.size=none:=I.hok.fresh (Nat.le_refl _)
theorem Inv.lstM (I : Inv X pins σ H s) (hH : H l=some (.lst xs)) : xs.length≤sizeLine∧∃ (its : List Value) (n : Nat),Vals xs its∧xs.length=its.length∧s.heap.get? l=some { cls:=.type "list",data:=.seq its.toArray n }:=by
  obtain ⟨z,its,n,r,e⟩:=I.hok l _ hH
  exact ⟨z,its,n,r,r.length,e⟩
theorem notLongL {n : Nat} (h : n≤sizeLine) : Builtin.List.listTooLong n=false:=by
  unfold Builtin.List.listTooLong
  exact decide_eq_false (by omega)
end
section
variable {X : Cx}
def rAppend : V→List V→Hp→VK→Prop:=fun x vs H Q=>∃ l xs y,x = .ref l∧vs=[y]∧H l=some (.lst xs)∧xs.length < sizeLine∧Q .non (upd H l (.lst (xs ++ [y])))
theorem mt_append : MtM X "list.append" rAppend:=by
  intro pins s σ H x vs v us Q I rx rv h
  obtain ⟨l,xs,y,rfl,rfl,hH,hz,q⟩:=h
  cases rx
  obtain ⟨u,rfl,ru⟩:=rv.one
  obtain ⟨z,its,n,r,hl,e⟩:=I.lstM hH
  refine call_meets F.slot_list_append ⟨_,e,rfl⟩ F.entry_list_append (F.args_list_append_2 _ _) (PySem.list_append l its.toArray n u (by rw [List.size_toArray]; omega)) ⟨e,?_⟩
  refine ⟨.non,_,I.lset (its':=its ++ [u]) hH e (by simp) (r.append (.cons ru .nil)) ?_,rfl,q⟩
  rw [List.length_append,List.length_singleton]
  omega
def rCat : R2:=fun x y H Q=>∃ l b xs zs,x = .ref l∧y = .ref b∧H l=some (.lst xs)∧H b=some (.lst zs)∧xs.length + zs.length≤sizeLine∧∀ p,H p=none→Q (.ref p) (upd H p (.lst (xs ++ zs)))
theorem op_cat : OpR X (binaryOp .Add) rCat:=by
  intro pins s σ H x y v u Q I rx ry h
  obtain ⟨l,b,xs,zs,rfl,rfl,hH,hB,hz,q⟩:=h
  cases rx
  cases ry
  obtain ⟨z,its,n,r,hl,e⟩:=I.lstM hH
  obtain ⟨z2,its2,n2,r2,hl2,e2⟩:=I.lstM hB
  refine PySem.P.add_list e e2 ?_ (by rw [List.size_toArray,List.size_toArray]; omega)
  have ea : its.toArray ++ its2.toArray=(its ++ its2).toArray:=by simp
  rw [ea]
  exact ⟨.ref _,_,I.lnew (t':=s.toks) (r.append r2) (by rw [List.length_append]; omega),rfl,q _ I.fresh⟩
def rRep : R2:=fun x y H Q=>∃ l k xs,x = .ref l∧y = .int k∧H l=some (.lst xs)∧-(2 ^ 63)≤k∧k < 2 ^ 63∧xs.length * k.toNat≤sizeLine∧
  ∀ p,H p=none→Q (.ref p) (upd H p (.lst (List.replicate k.toNat xs).flatten))
theorem len_rep {α : Type} (xs : List α) (k : Nat) : (List.replicate k xs).flatten.length=k * xs.length:=by
  induction k with
  | zero=>simp
  | succ k ih=>rw [List.replicate_succ,List.flatten_cons,List.length_append,ih,Nat.succ_mul,Nat.add_comm]
theorem op_rep : OpR X (binaryOp .Mult) rRep:=by
  intro pins s σ H x y v u Q I rx ry h
  obtain ⟨l,k,xs,rfl,rfl,hH,h1,h2,hz,q⟩:=h
  cases rx
  obtain ⟨t,rfl⟩:=ry
  obtain ⟨z,its,n,r,hl,e⟩:=I.lstM hH
  have hlen : its.toArray.size * k.toNat≤sizeLine:=by rw [List.size_toArray,← hl]; exact hz
  have hcap : ¬ its.toArray.size * k.toNat > (2 ^ 63 - 1) / 8:=by
    have : (sizeLine : Nat)≤(2 ^ 63 - 1) / 8:=by decide
    omega
  have hfit : ¬ (!Builtin.List.listFitsIndex k)=true:=by
    rw [fitsIndex_both h1 h2]
    exact Bool.false_ne_true
  have hlong : ¬ Builtin.List.listTooLong (its.toArray.size * k.toNat)=true:=by
    rw [notLongL hlen]
    exact Bool.false_ne_true
  have hnew : List.foldl (fun x1 x2=>x1 ++ x2) #[] (List.replicate (if its.toArray.isEmpty=true then 0 else k.toNat) its.toArray)=(List.replicate k.toNat its).flatten.toArray:=by
    have f0 : ∀ m : Nat,List.foldl (fun x1 x2=>x1 ++ x2) #[] (List.replicate m its.toArray)=(List.replicate m its).flatten.toArray:=fun m=>by
      have:=foldl_rep its m []
      rw [List.nil_append] at this
      exact this
    rw [f0]
    cases its with
    | nil=>simp
    | cons a r'=>rw [if_neg (by simp)]
  refine wpAny_binaryOp_repeat_ref (T := "list") (U := "int") (by decide) ⟨_,e,rfl⟩ (fun s'=>typeIs_int s' k t) noFill_list_mul F.fills_int_mul F.slot_int_rmul repeat_list F.slot_int_index.lookup
    (call_meets F.slot_int_rmul (typeIs_int s k t) F.entry_int_rmul (F.args_int_rmul_2 _ _) (int___rmul___int_list k t l its.toArray n)
      ⟨e,rfl,⟨_,e,rfl⟩,call_meets F.slot_list_mul ⟨_,e,rfl⟩ F.entry_list_mul (F.args_list_mul_2 _ _) (AutoListH.list___mul___list_int_3 l its.toArray n k t hfit hcap hlong) ⟨e,?_⟩⟩)
  rw [hnew]
  exact ⟨.ref _,_,I.lnew (t':=s.toks) (r.rep k.toNat) (by rw [len_rep,Nat.mul_comm]; exact hz),rfl,q _ I.fresh⟩
end
section
variable {prog : Program} {w : World} {A : Around} {E : Value→Shared→Prop} {s : Shared}
end
section
variable {X : Cx}
end
end L2
namespace Att
open PySem PySem.W PySem.Calls PyProof.Rows
theorem ints_of_wellAll {P : Params} {h : Heap} : ∀ (ns : List Int) (vs : List Value),WellAll P h vs (ns.map WData.int)→IntsAre vs ns:=by
  intro ns
  induction ns with
  | nil=>
    intro vs w
    rw [List.map_nil] at w
    cases w
    exact .nil
  | cons n ns ih=>
    intro vs w
    rw [List.map_cons] at w
    cases w with
    | cons a b=>
      cases a
      exact .cons _ _ (ih _ b)
theorem script_of {l : OpenLaw} {n : Nat} (hn : l.most=some n) {P : Params} {h : Heap} {args : List WData} {vals : List Value}
    (hpre : l.row.toRowW.claim.pre args=true) (hwl : WellAll P h vals args) :
    ∃ a vs ns,vals=[Value.ref a]∧args=[WData.list (ns.map WData.int)]∧h.get? a=some { cls:=.type "list",data:=.seq vs.toArray }∧IntsAre vs ns∧ns.length≤n:=by
  have hsh : WShape.hasAll [] args [.list .int]=true:=(pre_splitW hpre).1
  have hc : l.pre.holds [] { args:=args } = true:=(pre_splitW hpre).2
  obtain ⟨d,r,rfl,h1,h2⟩:=hasAllW_cons hsh
  obtain rfl:=hasAllW_nil h2
  obtain ⟨xs,rfl,h3⟩:=hasW_list h1
  obtain ⟨ns,rfl⟩:=items_int h3
  have hlen : ns.length≤n:=by
    unfold OpenLaw.pre at hc
    have h4 : (WTm.not (.lt (.lit (.int (n : Int))) (.len (.arg 0)))).holds [] { args:=[.list (ns.map .int)] } = true:=by
      have h4:=(holds_andW hc).1
      rw [hn] at h4
      exact h4
    have h5:=condW_of h4 (w_not (w_lt w_lit (w_len_list (w_arg rfl))))
    rw [List.length_map] at h5
    refine Nat.le_of_not_lt fun q=>?_
    have q' : (n : Int) < ((ns.length : Nat) : Int):=by omega
    first
      | (rw [decide_eq_true q'] at h5; exact absurd h5 (by decide))
      | (simp at h5; omega)
  cases hwl with
  | cons w1 w2=>
    cases w2
    cases w1 with
    | list ho hall=>exact ⟨_,_,ns,rfl,rfl,ho,ints_of_wellAll ns _ hall,hlen⟩
theorem post_true (l : OpenLaw) (args : List WData) : l.row.toRowW.claim.post args (.bool true) args=true:=
  postW_of (r:=l.row.toRowW) (X:=(true == true))
    (show WShape.has [] (.bool true) .bool=true by first | rfl | decide | simp [WShape.has,WShape.arms,WShape.armsAll])
    (show (WTm.eq .res (.lit (.bool true))).value [] { args:=args,res:=some (.bool true),after:=args } = some (.bool (true == true)) from w_eq_bool (w_res rfl) w_lit) rfl
theorem attach_call {l : OpenLaw} {n : Nat} {q : Program} {loose : List Str} {XP : (Str→Option Value)→Heap→Prop} {YP : World→Heap→Prop} {d : DefRec}
    (hn : l.most=some n) (hdf : d.params.defaults=[])
    (call : ∀ (w : World) (s₀ s₁ : Shared) (mg mb : Str→Option Value) (fa : Addr) (o : Obj) (pm cd doc : Value) (a : Addr) (vs : List Value) (ns : List Int),
      Ground q loose [] XP w s₀ mg mb s₁.heap→YP w s₁.heap→
      s₁.heap.get? fa=some o→o.data = .func (docDef d.name d.params d.body d.scope pm cd doc)→s₁.heap.CodeRec cd d.name→mg d.name=some (.ref fa)→
      s₁.heap.get? a=some { cls:=.type "list",data:=.seq vs.toArray }→IntsAre vs ns→ns.length≤n→s₁.gens = #[] →
      codeAny (model l.prog w) callerA (.call (.ref fa) ⟨[.ref a],[]⟩) (fun r s'=>r = .ok (.ret (.bool true))∧OldK s₁.heap s'.heap∧s'.os=s₁.os∧AllBare s'.gens) s₁) :
    WalkO q loose XP YP l.row.toRowW d [] (fun f vs=>PySem.call f vs):=by
  intro w s₀ s₁ mg mb G Y fa o pm cd doc dV kV ho hd hcd hD hmg hg args vals as hpre hlay hrd hwl hlo
  obtain rfl : dV = .none:=Dflts.none hD hdf
  obtain rfl : kV = .none:=Dflts.noKw hD
  obtain ⟨a,vs,ns,rfl,rfl,hobj,hints,hlen⟩:=script_of hn hpre hwl
  refine enter_call (codeAny_mono (call w s₀ s₁ mg mb fa o pm cd doc a vs ns G Y ho (fd_plain hd) hcd hmg hobj hints hlen hg) fun r s' hq=>?_)
  obtain ⟨rfl,h2,h3,h4⟩:=hq
  exact ⟨.inl ⟨.bool true,.bool true,[],rfl,fun _=>rfl,.bool true,post_true l _,fun _=>⟨List.Pairwise.nil,fun _ hm=>(nomatch hm)⟩⟩,h2,h3,h4⟩
section
variable {prog : Program} {w : World} {A : Around} {E : Value→Shared→Prop} {s : Shared} {K : Frag}
end
end Att
namespace L2
open PySem PySem.Spec PyProof.Rows
theorem vals_ints : ∀ {vs : List Value} {ns : List Int},IntsAre vs ns→Vals (ns.map V.int) vs
  | _,_,.nil=>.nil
  | _,_,.cons n t h=>.cons ⟨t,rfl⟩ (vals_ints h)
def Only (H : Hp) : Prop:=∀ b,H b=none∨∃ o xs,H b=some (.frz o (.lst xs))
theorem law_call {P : Program} {w : World} {K : PySem.W.Frag} {mg mb : Str→Option Value} {CX : CXT} {k : Nat} {fa a : Addr} {fd : FuncData} {x : Str} {sp : Sp} {s₁ : Shared} {vs : List Value} {ns : List Int}
    (KX : K.In s₁.heap) (hns : s₁.heap.Ns mainGlobals mg) (hb : s₁.heap.Ns builtinsNs mb) (hbb : ∀ x : Str,x ≠ "__name__" → mb x=bootBuiltins x) (hlim : s₁.heap.NoLimit) (hg : s₁.gens = #[])
    (ha : s₁.heap.get? a=some { cls:=.type "list",data:=.seq vs.toArray }) (hi : IntsAre vs ns) (hl : ns.length≤sizeLine) (hr : Room k callerA)
    (F : ∀ base : Heap,K.In base→base.Ns mainGlobals mg→FnOk P w K mg base CX k fa fd [x] sp) (hbind : ∀ (s : Shared) (u : Value),BindsTo s fd ⟨[u],[]⟩ [(x,u)])
    (hsp : ∀ H : Hp,Only H→SqL K H a (ns.map V.int)→sp [.ref a] H (fun v _=>v = .bl true) fun _ _ _=>False)
    (hCX : ∀ H e s',CX [] H s₁ (fun _ _ _=>False) e s'→False) :
    codeAny (model P w) callerA (.call (.ref fa) ⟨[.ref a],[]⟩) (fun r s'=>r = .ok (.ret (.bool true))∧OldK s₁.heap s'.heap∧s'.os=s₁.os∧AllBare s'.gens) s₁:=by
  have rv:=vals_ints hi
  have lenV:=hi.length
  have core : ∀ H : Hp,Only H→SqL K H a (ns.map V.int)→HOk P w H s₁.heap→(∀ b,H b≠none→b=a)→(H a≠none→K.lookup a=none)→
      codeAny (model P w) callerA (.call (.ref fa) ⟨[.ref a],[]⟩) (fun r s'=>r = .ok (.ret (.bool true))∧OldK s₁.heap s'.heap∧s'.os=s₁.os∧AllBare s'.gens) s₁:=by
    intro H hO hS hok hA hK
    have base_of : ∀ {b : Addr} {o : Obj},s₁.heap.get? b=some o→H b=none→(hidT s₁.heap H).get? b=some o:=fun e n=>hidT_get e n
    have noA : ∀ {b : Addr} {o : Obj} {es : Array DictEntry} {ep : Nat},s₁.heap.get? b=some o→o.data = .dict es ep→H b=none:=fun {b o es ep} e d=>by
      cases q : H b with
      | none=>rfl
      | some u=>
        have e' : b=a:=hA b (by rw [q]; simp)
        subst e'
        rw [ha] at e; cases e
        have d' : Data.seq vs.toArray _=Data.dict es ep:=d
        cases d'
    have nsK : ∀ {b : Addr} {m : Str→Option Value},s₁.heap.Ns b m→(hidT s₁.heap H).Ns b m:=fun {b m} ⟨o,es,ep,e,d,r⟩=>⟨o,es,ep,base_of e (noA e d),d,r⟩
    have hKb : K.In (hidT s₁.heap H):=fun b o e=>base_of (KX b o e) (by
      cases q : H b with
      | none=>rfl
      | some u=>
        have e' : b=a:=hA b (by rw [q]; simp)
        subst e'
        rw [hK (by rw [q]; simp)] at e; cases e)
    have hM : Mod K mg (hidT s₁.heap H):=⟨hKb,nsK hns,⟨mb,nsK hb,hbb⟩,let ⟨mc,h1,h2⟩:=hlim; ⟨mc,nsK h1,h2⟩⟩
    have e0 : Env0 P w K mg (hidT s₁.heap H) callerA [] s₁ H:=⟨rfl,hM,fun b o e=>of_hidT e,Nat.le_of_eq (hidT_size _ _),trivial,fun b hb=>absurd (show b∈([] : List Addr) from hb) (by simp),hok,.of_eq hg⟩
    refine codeAny_mono ((F _ hKb (nsK hns)).run callerA [] s₁ H ⟨[.ref a],[]⟩ [.ref a] [.ref a] _ _ hr e0 (hbind s₁ (.ref a)) (.cons rfl .nil) (hsp H hO hS)) fun r s' h=>?_
    cases r with
    | error e=>exact (hCX H e s' h).elim
    | ok fl=>
      cases fl with
      | next=>exact False.elim h
      | brk=>exact False.elim h
      | cont=>exact False.elim h
      | ret u=>
        obtain ⟨v,H',os,bare,un,hok',r',q⟩:=h
        have q' : v = .bl true:=q
        subst q'
        obtain rfl : u=Value.bool true:=r'
        refine ⟨rfl,OldK.of_keep fun b o e=>?_,os,bare⟩
        cases q : H b with
        | none=>exact un.keep b o e q (by intro z; exact absurd (show b∈([] : List Addr) from z) (by simp)) (by simp)
        | some u=>
          rcases hO b with z | ⟨ob,xs,z⟩
          · rw [q] at z; cases z
          · have z2:=un.frzs b ob _ z
            obtain ⟨e1,_⟩:=hok b _ z
            obtain ⟨e2,_⟩:=hok' b _ z2
            rw [e] at e1; cases e1
            exact e2
  cases hk : K.lookup a with
  | some o=>
    have e:=KX a o hk
    rw [ha] at e
    cases e
    refine core (fun _=>none) (fun _=>.inl rfl) (.inr ⟨_,vs.toArray,_,hk,rfl,rfl,rfl,by rw [List.size_toArray,lenV]; exact hl,by simpa using rv⟩) (fun b u z=>by have z' : (none : Option HO)=some u:=z; cases z') (fun b z=>absurd rfl z) fun z=>absurd rfl z
  | none=>
    refine core (fun b=>if b=a then some (.frz { cls:=.type "list",data:=.seq vs.toArray } (.lst (ns.map V.int))) else none) (fun b=>?_) (.inl (.inr ⟨{ cls:=.type "list",data:=.seq vs.toArray },if_pos rfl⟩)) (fun b u z=>?_) (fun b z=>?_) fun _=>hk
    · by_cases hb : b=a
      · exact .inr ⟨_,_,if_pos hb⟩
      · exact .inl (if_neg hb)
    · by_cases hb : b=a
      · have z':=(if_pos hb).symm.trans z
        cases z'
        subst hb
        exact ⟨ha,by rw [List.length_map]; exact hl,vs,_,rv,ha⟩
      · have z':=(if_neg hb).symm.trans z
        cases z'
    · by_cases hb : b=a
      · exact hb
      · exact absurd (if_neg hb) z
end L2
namespace L2
open PySem PySem.Spec PyProof.Rows
theorem walk_of {l : PySem.W.OpenLaw} {n k : Nat} {q : Program} {loose : List Str} {XP : (Str→Option Value)→Heap→Prop} {YP : World→Heap→Prop} {d : DefRec} {K : Params→PySem.W.Frag} {CX : World→CXT} {sp : World→Sp} {x : Str}
    (hn : l.most=some n) (hn2 : n≤sizeLine) (hdf : d.params.defaults=[]) (hr : Room k callerA)
    (hY : ∀ (w : World) (h : Heap),YP w h→(K w.params).In h)
    (F : ∀ (w : World) (mg : Str→Option Value) (fa : Addr) (h : Heap),(K w.params).In h→h.Ns mainGlobals mg→mg d.name=some (.ref fa)→
      ∃ fd : FuncData,(∀ (s : Shared) (u : Value),BindsTo s fd ⟨[u],[]⟩ [(x,u)])∧
        ∀ base : Heap,(K w.params).In base→base.Ns mainGlobals mg→FnOk l.prog w (K w.params) mg base (CX w) k fa fd [x] (sp w))
    (hsp : ∀ (w : World) (H : Hp) (a : Addr) (ns : List Int),ns.length≤n→Only H→SqL (K w.params) H a (ns.map V.int)→sp w [.ref a] H (fun v _=>v = .bl true) fun _ _ _=>False)
    (hCX : ∀ (w : World) (H : Hp) (s : Shared) (e : Value) (s' : Shared),CX w [] H s (fun _ _ _=>False) e s'→False) :
    PySem.W.WalkO q loose XP YP l.row.toRowW d [] (fun f vs=>PySem.call f vs):=by
  refine Att.attach_call hn hdf fun w s₀ s₁ mg mb fa o pm cd doc a vs ns G Y ho hd hcd hmg hobj hints hlen hg=>?_
  have KX:=hY w _ Y
  obtain ⟨fd,hb,hF⟩:=F w mg fa _ KX G.T.g hmg
  exact law_call KX G.T.g G.T.b G.T.builtins G.T.nolimit hg hobj hints (Nat.le_trans hlen hn2) hr hF hb (fun H hO hS=>hsp w H a ns hlen hO hS) fun H e s'=>hCX w H s₁ e s'
end L2
namespace L2
open PySem PySem.Spec PyProof.Rows
def defArgs (s : Stmt) : Arguments:=match s with
  | .FunctionDef _ a _ _ _ _ _ _ _ _=>a
  | _=>{ posonlyargs:=[],args:=[],vararg:=none,kwonlyargs:=[],kw_defaults:=[],kwarg:=none,defaults:=[] }
def defBody (s : Stmt) : List Stmt:=match s with
  | .FunctionDef _ _ b _ _ _ _ _ _ _=>b
  | _=>[]
def defScope (s : Stmt) : Scope:=match s with
  | .FunctionDef _ _ _ _ _ _ sc _ _ _=>sc
  | _=>{ kind:=.function,names:=[],isGenerator:=false,isCoroutine:=false }
abbrev CX0 : CXT:=fun _ _ _ _ _ _=>False
abbrev E0 : XK:=fun _ _ _=>False
theorem pass0 {X : Cx} : Passes CX0 X E0:=fun _ _ _ _ _ _ _ h=>h.elim
structure Fun (K : PySem.W.Frag) (x qual : Str) (st : Stmt) (f : Addr) (fd : FuncData) : Prop where
  ex : ∃ (oc : Value) (od : Option Addr) (kV doc pm : Value) (an : Option Addr) (cdv ct : Value) (osl : Array (Option Value)),
    fd=PySem.W.fnOf x qual (defArgs st) (defBody st) (defScope st) .none kV doc pm an cdv ct∧K.lookup f=some ⟨oc,od,.func fd,osl⟩∧PySem.W.codeIn K cdv qual=true
  kp : PySem.W.keepIn K (.ref f)=true
section
variable {P : Program} {w : World} {K : PySem.W.Frag} {mg : Str→Option Value} {base : Heap}
theorem Fun.ok {x qual : Str} {st : Stmt} {f : Addr} {fd : FuncData} {N ps : List Str} {k : Nat} {sp : Sp} (F : Fun K x qual st f fd) (S : FnScope N ps (defScope st)) (len : ∀ vs H Q E,sp vs H Q E→vs.length=ps.length)
    (hbody : ∀ (cdv : Value) (A : Around) (outer : List Env) (s : Shared) (H : Hp) (vs : List V) (Q : VK) (E : XK),Room k (A.deeper (envOfC qual (defScope st) s.heap.objs.size f cdv))→sp vs H Q E→
      ∃ t,PSs (cxOf CX0 P w K mg base N qual (defScope st) f cdv A outer s H E).nox (defBody st) t∧t { nx:=fun _ H'=>Q .non H',rt:=Q } (start N vs) H) : FnOk P w K mg base CX0 (k + 1) f fd ps sp:=by
  obtain ⟨oc,od,kV,doc,pm,an,cdv,ct,osl,rfl,lk,hcd⟩:=F.ex
  refine fn_of lk hcd S len fun A outer s H vs Q E hr hsp=>?_
  obtain ⟨t,h,q⟩:=hbody cdv A outer s H vs Q E hr hsp
  exact ⟨t,h.nox,q⟩
theorem Fun.binds {x qual : Str} {st : Stmt} {f : Addr} {fd : FuncData} {ps : List Str} (F : Fun K x qual st f fd)
    (h : ∀ (kV doc pm : Value) (an : Option Addr) (cdv ct : Value) (us : List Value),us.length=ps.length→bindArgs (PySem.W.fnOf x qual (defArgs st) (defBody st) (defScope st) .none kV doc pm an cdv ct) ⟨us,[]⟩=pure (ps.zip us)) : Binds K fd ps []:=by
  obtain ⟨oc,od,kV,doc,pm,an,cdv,ct,osl,rfl,lk,hcd⟩:=F.ex
  exact .all (h kV doc pm an cdv ct)
theorem fun_mk {x qual : Str} {st : Stmt} {f : Addr} {oc : Value} {od an : Option Addr} {osl : Array (Option Value)} {kV doc pm cdv ct : Value} (l : K.lookup f=some ⟨oc,od,.func (PySem.W.fnOf x qual (defArgs st) (defBody st) (defScope st) .none kV doc pm an cdv ct),osl⟩)
    (c : PySem.W.codeIn K cdv qual=true) (k : PySem.W.keepIn K (.ref f)=true) : Fun K x qual st f (PySem.W.fnOf x qual (defArgs st) (defBody st) (defScope st) .none kV doc pm an cdv ct):=⟨⟨oc,od,kV,doc,pm,an,cdv,ct,osl,rfl,l,c⟩,k⟩
end
theorem hu_of {A : Around} {k : Nat} (hr : Room k A) : A.units + 1 < cLine:=Nat.lt_of_le_of_lt (Nat.add_le_add_left (by decide : 1≤64) _) hr.units
theorem small1000 {n : Nat} (h : n≤1000) : n < sizeLine:=Nat.lt_of_le_of_lt h (by decide)
section
variable {X : Cx}
theorem pv (i : Nat) {x : Str} {pos : Pos} (hN : X.N[i]? = some x:=by rfl) (hv : Vis X.env.scope x:=by first | exact Or.inl rfl | exact Or.inr (Or.inl rfl) | exact Or.inr (Or.inr rfl)) (hd : (x == ("__debug__" : Str))=false:=by decide)
    (hcd : (x == ("__classdict__" : Str))=false:=by decide) : PE X (.Name x pos) (tVar i):=pe_var hN hv hd hcd
end
theorem iteF {A B : Prop} (h : B) : if false=true then A else B:=by
  rw [if_neg Bool.false_ne_true]
  exact h
theorem iteT {A B : Prop} (h : A) : if true=true then A else B:=by
  rw [if_pos rfl]
  exact h
theorem ite2 {c A B : Prop} [Decidable c] (h1 : c→A) (h2 : ¬ c→B) : if c then A else B:=by
  by_cases h : c
  · rw [if_pos h]
    exact h1 h
  · rw [if_neg h]
    exact h2 h
def Same (H H' : Hp) : Prop:=∀ b o,H b=some o→H' b=some o
theorem Same.refl (H : Hp) : Same H H:=fun _ _ h=>h
theorem Same.trans {H H1 H2 : Hp} (a : Same H H1) (b : Same H1 H2) : Same H H2:=fun c o h=>b c o (a c o h)
theorem Same.free {H H' : Hp} (e : Same H H') {l : Addr} (h : H' l=Option.none) : H l=Option.none:=by
  cases q : H l with
  | none=>rfl
  | some o=>
    rw [e l o q] at h
    cases h
end L2
set_option maxHeartbeats 4000000
namespace L2
open PySem PySem.Spec PyProof.Rows
theorem objThere {P : Program} {w : World} {H : Hp} {h : Heap} {a : Addr} {o : HO} (x : ObjOk P w H h a o) : ∃ ob,h.get? a=some ob:=by
  induction o with
  | lst xs=>obtain ⟨_,_,_,_,e⟩:=x; exact ⟨_,e⟩
  | tup xs=>obtain ⟨_,_,_,ob,e,_⟩:=x; exact ⟨_,e⟩
  | dK kvs=>obtain ⟨_,_,_,_,o,_,_,e,_⟩:=x; exact ⟨_,e⟩
  | dT kvs=>obtain ⟨_,_,_,_,o,_,_,e,_⟩:=x; exact ⟨_,e⟩
  | set S n=>obtain ⟨o,_,_,_,e,_⟩:=x; exact ⟨_,e⟩
  | ins C dx fs=>obtain ⟨_,_,_,e,_⟩:=x; exact ⟨_,e⟩
  | own y=>obtain ⟨_,e⟩:=x; exact ⟨_,e⟩
  | xd fs=>obtain ⟨_,⟨_,_,_,e,_⟩,_⟩:=x; exact ⟨_,e⟩
  | rng lo hi=>obtain ⟨_,_,_,e⟩:=x; exact ⟨_,e⟩
  | frz ob u _=>obtain ⟨e,_⟩:=x; exact ⟨_,e⟩
  | tbl ps=>exact ⟨_,(show h.get? a=some _ from x)⟩
  | met f y=>exact ⟨_,(show h.get? a=some _ from x)⟩
  | ext φ=>obtain ⟨_,e,_⟩:=x; exact e
  | cod q pos=>rcases x with e | ⟨_,e,_⟩ <;> exact ⟨_,e⟩
structure UnB (fs : List Addr) (H H' : Hp) (h B h' : Heap) : Prop where
  keep : ∀ b o,h.get? b=some o→H b=none→b ∉ fs→B.get? b=some o
  slot : ∀ b o,h.get? b=some o→H b=none→b∈fs→∃ sl,h'.get? b=some { o with slots:=sl }
  free : ∀ b o,h.get? b=some o→H b=none→H' b=none
  there : ∀ b o,h.get? b=some o→b∈fs∨∃ o',B.get? b=some o'
  tups : ∀ b xs,H b=some (.tup xs)→H' b=some (.tup xs)
  frzs : ∀ b o u,H b=some (.frz o u)→H' b=some (.frz o u)
  tbls : ∀ b ps,H b=some (.tbl ps)→∃ more,H' b=some (.tbl (ps ++ more))
def CXE (P : Program) (w : World) : CXT:=fun outer H s E e s'=>∃ (a : Addr) (cls a0 : Value) (H' : Hp) (B : Heap),e = .ref a∧s'.os=s.os∧AllBare s'.gens∧E cls none H'∧HOk P w H' B∧H' a=none∧s.heap.get? a=none∧
  Heap.FlyingW B outer a cls a0 s'.heap∧UnB (frs outer) H H' s.heap B s'.heap
section
variable {X : Cx} {pins : List (Addr×Obj)} {σ : St} {H : Hp} {s s' : Shared} {E : XK}
theorem raise_leaves {CX : CXT} {P : Program} {w : World} {K : PySem.W.Frag} {mg : Str→Option Value} {base : Heap} {N : List Str} {qual : Str} {scope : Scope} {f : Addr} {cd : Value} {A : Around} {outer : List Env} {s₀ : Shared} {H₀ : Hp}
    {pins : List (Addr×Obj)} {σ : St} {H : Hp} {s : Shared} {h' : Heap} {e : Addr} {cls : Value} {args : List Value}
    (I : Inv (cxOf (CXE P w) P w K mg base N qual scope f cd A outer s₀ H₀ E) pins σ H s) (hx : Heap.MadeExcOf s.heap h' e cls args) (hE : E cls none H) :
    (cxOf (CXE P w) P w K mg base N qual scope f cd A outer s₀ H₀ E).xe (.ref e) { s with heap:=h' }:=by
  have hst:=I.stack
  have hlt:=I.lt
  have hnoex : ∀ b : Addr,b ∉ ([] : List Addr):=fun b z=>nomatch z
  show wpAny (model P w) (A.deeper (envOfC qual scope s₀.heap.objs.size f cd)) (leaving (envOfC qual scope s₀.heap.objs.size f cd) (.ref e)) (fun _ s''=>CXE P w outer H₀ s₀ E (.ref e) s'') (fun e' s''=>CXE P w outer H₀ s₀ E e' s'') { s with heap:=h' }
  refine wpAny_leaves_madeW (base:=PySem.W.hideAll s.heap (frs (envOfC qual scope s₀.heap.objs.size f cd :: outer))) (h:=s.heap) (L:=s₀.heap.objs.size) I.ok.frames rfl (fun b o q=>PySem.W.of_hideAll _ q)
    (PySem.W.funFrames_hide hst fun env he b hb=>List.mem_filterMap.mpr ⟨env,he,hb⟩) hx fun h'' t fly _ _ upto=>?_
  have hsub : ∀ b,b∈frs outer→b∈frs (envOfC qual scope s₀.heap.objs.size f cd :: outer):=fun b hb=>by
    obtain ⟨env,he,hf⟩:=List.mem_filterMap.mp hb
    exact List.mem_filterMap.mpr ⟨env,.tail _ he,hf⟩
  have hnot : ∀ b o,s₀.heap.get? b=some o→b ∉ frs outer→b ∉ frs (envOfC qual scope s₀.heap.objs.size f cd :: outer):=fun b o q nb hb=>by
    rcases List.mem_cons.mp (I.stkSub b hb) with z | z
    · exact absurd (Heap.lt_size q) (by rw [z]; exact Nat.lt_irrefl _)
    · exact nb z
  have hfree : ∀ b∈frs (envOfC qual scope s₀.heap.objs.size f cd :: outer),H b=none:=I.stkFree
  have nohid : ∀ b u,H b=some u→b ∉ frs (envOfC qual scope s₀.heap.objs.size f cd :: outer):=fun b u q hb=>by rw [hfree b hb] at q; cases q
  refine ⟨e,cls,.ref t,H,_,rfl,I.os,I.bare,hE,fun b u q=>?_,?_,?_,fly,?_⟩
  · refine (I.hok b u q).stay (fun c v hc r=>PySem.W.hideAll_get _ r ?_) (fun _ r=>r) fun _ _ r=>r
    rcases hc with z | z
    · rw [z]; exact nohid b u q
    · exact nohid c _ z
  · cases q : H e with
    | none=>rfl
    | some u=>
      obtain ⟨ob,e1⟩:=objThere (I.hok e u q)
      rw [hx.new] at e1; cases e1
  · cases q : s₀.heap.get? e with
    | none=>rfl
    | some o=>
      obtain ⟨o',e1⟩:=I.base.there e o q (hnoex e)
      rw [hx.new] at e1; cases e1
  · refine ⟨fun b o q n nb=>PySem.W.hideAll_get _ (I.base.keep b o q n nb (hnoex b)) (hnot b o q nb),fun b o q n hb=>?_,fun b o q n=>I.base.free b o q n (hnoex b),fun b o q=>?_,I.base.tups,I.base.frzs,I.base.tbls⟩
    · obtain ⟨sl,e1⟩:=I.base.slot b o q n hb (hnoex b)
      obtain ⟨_,ob,e2,nf⟩:=hst.mem (hsub b hb)
      rw [e1] at e2; cases e2
      have e3:=hx.keeps b _ e1
      obtain ⟨sl',e4⟩:=upto b _ e3 nf
      exact ⟨sl',e4⟩
    · by_cases hb : b∈frs outer
      · exact .inl hb
      · obtain ⟨o',e1⟩:=I.base.there b o q (hnoex b)
        exact .inr ⟨o',PySem.W.hideAll_get _ e1 (hnot b o q hb)⟩
theorem passE {P : Program} {w : World} {K : PySem.W.Frag} {mg : Str→Option Value} {base : Heap} {N : List Str} {qual : Str} {scope : Scope} {f : Addr} {cd : Value} {A : Around} {outer : List Env} {s₀ : Shared} {H₀ : Hp} {E E' : XK}
    (hE : ∀ cls H,E' cls none H→E cls none H) : Passes (CXE P w) (cxOf (CXE P w) P w K mg base N qual scope f cd A outer s₀ H₀ E) E':=by
  intro pins σ H s e s' I h
  obtain ⟨a,cls,a0,H',B,rfl,hos,hb,hE',hok,hna,hfr,fly,u⟩:=h
  have hnoex : ∀ b : Addr,b ∉ ([] : List Addr):=fun b z=>nomatch z
  have hsub : ∀ b,b∈frs outer→b∈frs (envOfC qual scope s₀.heap.objs.size f cd :: outer):=fun b hb=>by
    obtain ⟨env,he,hf⟩:=List.mem_filterMap.mp hb
    exact List.mem_filterMap.mpr ⟨env,.tail _ he,hf⟩
  have hnot : ∀ b o,s₀.heap.get? b=some o→b ∉ frs outer→b ∉ frs (envOfC qual scope s₀.heap.objs.size f cd :: outer):=fun b o q nb hb=>by
    rcases List.mem_cons.mp (I.stkSub b hb) with z | z
    · exact absurd (Heap.lt_size q) (by rw [z]; exact Nat.lt_irrefl _)
    · exact nb z
  show wpAny (model P w) (A.deeper (envOfC qual scope s₀.heap.objs.size f cd)) (leaving (envOfC qual scope s₀.heap.objs.size f cd) (.ref a)) (fun _ s''=>CXE P w outer H₀ s₀ E (.ref a) s'') (fun e' s''=>CXE P w outer H₀ s₀ E e' s'') s'
  refine wpAny_leaves_onW (L:=s₀.heap.objs.size) I.ok.frames rfl fly fun h'' fly' upto=>?_
  refine ⟨a,cls,a0,H',B,rfl,hos.trans I.os,hb,hE cls H' hE',hok,hna,?_,fly',?_⟩
  · cases q : s₀.heap.get? a with
    | none=>rfl
    | some o=>
      obtain ⟨o',e1⟩:=I.base.there a o q (hnoex a)
      rw [hfr] at e1; cases e1
  · refine ⟨fun b o q n nb=>u.keep b o (I.base.keep b o q n nb (hnoex b)) (I.base.free b o q n (hnoex b)) (hnot b o q nb),fun b o q n hb=>?_,fun b o q n=>?_,fun b o q=>?_,fun b xs q=>u.tups b xs (I.base.tups b xs q),fun b o x q=>u.frzs b o x (I.base.frzs b o x q),fun b ps q=>?_⟩
    · obtain ⟨sl,e1⟩:=I.base.slot b o q n hb (hnoex b)
      obtain ⟨sl',e2⟩:=u.slot b _ e1 (I.base.free b o q n (hnoex b)) (hsub b hb)
      obtain ⟨_,ob,e3,nf⟩:=fly.2.2.1.mem (hsub b hb)
      rw [e2] at e3; cases e3
      obtain ⟨sl'',e4⟩:=upto b _ e2 nf
      exact ⟨sl'',e4⟩
    · obtain ⟨o',e1⟩:=I.base.there b o q (hnoex b)
      exact u.free b o' e1 (I.base.free b o q n (hnoex b))
    · by_cases hb : b∈frs outer
      · exact .inl hb
      · obtain ⟨o',e1⟩:=I.base.there b o q (hnoex b)
        rcases u.there b o' e1 with z | z
        · exact absurd z (hnot b o q hb)
        · exact .inr z
    · obtain ⟨m1,e1⟩:=I.base.tbls b ps q
      obtain ⟨m2,e2⟩:=u.tbls b _ e1
      exact ⟨m1 ++ m2,by rw [e2,Array.append_assoc]⟩
end
end L2
namespace L2
open PySem PySem.Spec PyProof.Rows PySem.Builtin.ObjectAttr PySem.Builtin.Getset_descriptor
section
variable {prog : Program} {w : World} {A : Around} {E : Value→Shared→Prop} {K : PySem.W.Frag} {x D : Addr} {s : Shared}
end
end L2
namespace L2
open PySem PySem.Spec PyProof.Rows
theorem exc_obj {K : PySem.W.Frag} {h : Heap} {C : Addr} {bmB : List Value} {newId : String} (X : K.In h) (q : PySem.W.excIn K C bmB newId=true) :
    ∃ bm N nm qn bs hd sn sub ab col dd k0 k1 k2 k3 k5 mN,h.get? C=some (excClassObj nm qn C N bs bm hd sn sub ab col dd k0 k1 k2 k3 k5 newId)∧h.Ns N mN∧mN "__init__" = none∧OwnTail h bmB bm:=by
  unfold PySem.W.excIn at q
  split at q
  · rename_i dd cd sl look
    split at q
    · rename_i C2 bm k0 k1 k2 k3 n k5 hmro hsl
      simp only [Bool.and_eq_true,beq_iff_eq,Bool.not_eq_true'] at q
      obtain ⟨⟨⟨⟨⟨rfl,rfl⟩,hde⟩,htl⟩,hns⟩,hin⟩:=q
      obtain ⟨nm,bs,mro,ns,qn,hd,sn,sub,ab,col,del⟩:=cd
      dsimp only at hmro hde hns hin
      subst hmro hde
      have es : sl = #[k0,k1,k2,k3,some (.builtin n),k5]:=by
        obtain ⟨ls⟩:=sl
        have e1 : ls=[k0,k1,k2,k3,some (.builtin n),k5]:=hsl
        rw [e1]
      subst es
      exact ⟨bm,ns,nm,qn,bs,hd,sn,sub,ab,col,dd,k0,k1,k2,k3,k5,_,X _ _ look,.of_isNs (PySem.W.isNs_of_in X hns),PySem.W.nsMap_none_of_in X hns hin,PySem.W.tail_of_in X htl⟩
    · cases q
  · cases q
section
variable {X : Cx}
def tRaise (C : Addr) (E : XK) (t : TA) : TS:=fun D σ H=>t σ H fun vs H1=>vs.length≤sizeLine∧E (.ref C) none H1
def Makes (X : Cx) (E : XK) : Prop:=∀ (pins : List (Addr×Obj)) (σ : St) (H : Hp) (s : Shared) (h' : Heap) (e : Addr) (cls : Value) (args : List Value),Inv X pins σ H s→Heap.MadeExcOf s.heap h' e cls args→E cls none H→X.xe (.ref e) { s with heap:=h' }
theorem makesE {P : Program} {w : World} {K : PySem.W.Frag} {mg : Str→Option Value} {base : Heap} {N : List Str} {qual : Str} {scope : Scope} {f : Addr} {cd : Value} {A : Around} {outer : List Env} {s₀ : Shared} {H₀ : Hp} {E : XK} :
    Makes (cxOf (CXE P w) P w K mg base N qual scope f cd A outer s₀ H₀ E) E:=fun _ _ _ _ _ _ _ _ I hx hE=>raise_leaves (CX:=CXE P w) I hx hE
theorem ps_raise {x : Str} {C : Addr} {B newId initId : String} {bmB : List Value} {e₀ : Expr} {rest : List Expr} {np cpos pos : Pos} {t : TA} {E : XK} (hg : Gl X x) (hm : X.mg x=some (.ref C)) (hq : PySem.W.excIn X.K C bmB newId=true)
    (FB : ExcBaseFacts B newId initId bmB) (hcalm : X.calm=true) (hxe : Makes X E) (ha : PA X (e₀ :: rest) t) (hd : (x == ("__debug__" : Str))=false:=by decide)
    (he : starEach (e₀ :: rest) X.env=(false,eval e₀ X.env) :: starEach rest X.env:=by rfl) (hpl : (backTo cpos (starEach rest X.env)).any (·.1)=false:=by rfl) :
    PS X (.Raise (some (.Call (.Name x np) (e₀ :: rest) [] cpos)) none pos) (tRaise C E t):=by
  intro pins s σ H D I h
  obtain ⟨bm,N,nm,qn,bs,hdd,sn,sub,ab,col,dd,k0,k1,k2,k3,k5,mN,hC,hN,hni,T⟩:=exc_obj (bmB:=bmB) I.mod.kin hq
  refine wpAny_Raise_call_subT (C:=C) (N:=N) (bm:=bm) (nm:=nm) (q:=qn) (bs:=bs) (hdct:=hdd) (sn:=sn) (sub:=sub) (ab:=ab) (col:=col) (dd:=dd) (k0:=k0) (k1:=k1) (k2:=k2) (k3:=k3) (k5:=k5) FB (mN:=mN) (T.hasType FB.hasBase) (I.ok.hd hcalm)
    (by rw [he]; show (false || (backTo cpos (starEach rest X.env)).any (·.1))=false; rw [hpl]; rfl) hni (ld_glob I hg hm ⟨rfl,?_⟩ hd)
  have h1:=ha cpos pins s σ H _ I h
  rw [he] at h1 ⊢
  refine Calls.evalArgs_plain (thn h1 fun us s1 ⟨vs,H1,I1,r1,q1⟩=>?_)
  exact ⟨rfl,(by rw [← r1.length]; exact q1.1),I1.bk _ _ hC,hN.keeps I1.bk,T.keeps I1.bk,fun h' e hx=>hxe pins σ H1 s1 h' e _ _ I1 hx q1.2⟩
theorem Inv.track {pins : List (Addr×Obj)} {σ : St} {H : Hp} {s : Shared} {a : Addr} {o : HO} (I : Inv X pins σ H s) (hs : X.s₀.heap.get? a=none) (hn : H a=none) (hL : a≠X.env.locals) (hc : ∀ x c,X.env.cells.lookup x=some c→c≠a)
    (hp : ∀ p∈X.pn ++ pins,p.1≠a) (new : ObjOk X.prog X.w (upd H a o) s.heap a o) : Inv X pins σ (upd H a o) s:=by
  have ne : ∀ b ob,X.s₀.heap.get? b=some ob→b≠a:=fun b ob e z=>by rw [z,hs] at e; cases e
  have nt : ∀ b u,H b=some u→b≠a:=fun b u e z=>by rw [z,hn] at e; cases e
  refine ⟨I.ok,I.os,I.bare,⟨I.base.keep,I.base.slot,fun b ob e n hx=>by rw [upd_ne (ne b ob e)]; exact I.base.free b ob e n hx,I.base.there,fun b xs e=>?_,fun b ob xs e=>?_,fun b ps e=>?_⟩,I.loc,I.cell,by rw [upd_ne hL.symm]; exact I.free,fun x c e=>by rw [upd_ne (hc x c e)]; exact I.freeC x c e,fun p hp'=>?_,fun b u e=>?_,I.len⟩
  · have e1:=I.base.tups b xs e
    rw [upd_ne (nt b _ e1)]; exact e1
  · have e1:=I.base.frzs b ob xs e
    rw [upd_ne (nt b _ e1)]; exact e1
  · obtain ⟨more,e1⟩:=I.base.tbls b ps e
    exact ⟨more,by rw [upd_ne (nt b _ e1)]; exact e1⟩
  · obtain ⟨e,n,r⟩:=I.pin p hp'
    exact ⟨e,by rw [upd_ne (hp p hp')]; exact n,r⟩
  · by_cases z : b=a
    · subst z
      rw [upd_same] at e
      cases e
      exact new
    · rw [upd_ne z] at e
      exact (I.hok b u e).stay (fun _ _ _ q=>q) (fun c q=>by rw [upd_ne (nt c _ q)]; exact q) fun c xs q=>by rw [upd_ne (nt c _ q)]; exact q
end
end L2
namespace L2
open PySem PySem.Spec PyProof.Rows
def clOf (env : Env) : List (Str×NameKind)→List (Str×Addr)→List (Str×Addr)
  | [],cs=>cs
  | (n,k) :: r,cs=>clOf env r (if k == .free then (n,(env.cells.lookup n).getD 0) :: cs else cs)
theorem closureFor_cl {scope : Scope} {env : Env} (h : ∀ y∈scope.names,y.2 = .free→∃ c,env.cells.lookup y.1=some c) : closureFor scope env=pure (clOf env scope.names []):=by
  have all : ∀ (l : List (Str×NameKind)) (cs : List (Str×Addr)),(∀ y∈l,y.2 = .free→∃ c,env.cells.lookup y.1=some c)→
      (forIn l cs fun (x : Str×NameKind) r=>(if (x.2 == NameKind.free)=true then do let a ← cellOf env x.1; pure (ForInStep.yield ((x.1,a) :: r)) else pure (ForInStep.yield r) : Sem (ForInStep (List (Str×Addr)))))=pure (clOf env l cs):=by
    intro l
    induction l with
    | nil=>intro cs _; rfl
    | cons x r ih=>
      intro cs hl
      obtain ⟨n,k⟩:=x
      rw [List.forIn_cons]
      by_cases hk : (k == NameKind.free)=true
      · obtain ⟨c,hc⟩:=hl (n,k) (.head _) (by simpa using hk)
        have e : cellOf env n=pure c:=by unfold cellOf; rw [show env.cells.lookup n=some c from hc]
        simp only [hk,if_true,e,pure_bind]
        rw [ih _ fun y hy=>hl y (.tail _ hy)]
        show _=pure (clOf env r (if k == .free then _ else _))
        rw [if_pos hk,show env.cells.lookup n=some c from hc]
        rfl
      · simp only [hk,Bool.false_eq_true,if_false,pure_bind]
        rw [ih _ fun y hy=>hl y (.tail _ hy)]
        show _=pure (clOf env r (if k == .free then _ else _))
        rw [if_neg hk]
  unfold closureFor
  have:=all scope.names [] h
  simp only [bind_pure] at this ⊢
  exact this
theorem mem_clOf {env : Env} : ∀ (l : List (Str×NameKind)) (cs : List (Str×Addr)) {p : Str×Addr},p∈clOf env l cs→p∈cs∨((p.1,NameKind.free)∈l∧p.2=(env.cells.lookup p.1).getD 0)
  | [],cs,p,h=>.inl h
  | (n,k) :: r,cs,p,h=>by
    unfold clOf at h
    rcases mem_clOf r _ h with z | ⟨z1,z2⟩
    · split at z
      · rename_i hk
        have hk' : k = .free:=by simpa using hk
        rcases List.mem_cons.mp z with rfl | z
        · exact .inr ⟨by rw [hk']; exact .head _,rfl⟩
        · exact .inl z
      · exact .inl z
    · exact .inr ⟨.tail _ z1,z2⟩
theorem clOf_grows {env : Env} : ∀ (l : List (Str×NameKind)) (cs : List (Str×Addr)) {p : Str×Addr},p∈cs→p∈clOf env l cs
  | [],cs,p,h=>h
  | (n,k) :: r,cs,p,h=>by
    unfold clOf
    refine clOf_grows r _ ?_
    split
    · exact .tail _ h
    · exact h
theorem clOf_has {env : Env} : ∀ (l : List (Str×NameKind)) (cs : List (Str×Addr)) {x : Str},(x,NameKind.free)∈l→(x,(env.cells.lookup x).getD 0)∈clOf env l cs
  | (n,k) :: r,cs,x,h=>by
    unfold clOf
    rcases List.mem_cons.mp h with e | h
    · cases e
      refine clOf_grows r _ ?_
      rw [if_pos (by decide)]
      exact .head _
    · exact clOf_has r _ h
theorem lookup_of_mem {α : Type} : ∀ {l : List (Str×α)} {x : Str} {v : α},(x,v)∈l→∃ u,l.lookup x=some u
  | (n,k) :: r,x,v,h=>by
    by_cases e : x=n
    · exact ⟨k,by rw [List.lookup_cons,e]; simp⟩
    · rcases List.mem_cons.mp h with z | z
      · cases z; exact absurd rfl e
      · obtain ⟨u,hu⟩:=lookup_of_mem z
        exact ⟨u,by rw [List.lookup_cons]; rw [show (x == n)=false from by simpa using e]; exact hu⟩
def cxComp (X : Cx) (N' : List Str) (scope : Scope) (C : Addr) (s : Shared) (H : Hp) (fp : List Addr) : Cx where
  prog:=X.prog
  w:=X.w
  K:=X.K
  mg:=X.mg
  base:=X.base
  A:=X.A
  N:=N'
  s₀:=s
  H₀:=H
  env:=compEnvC scope (clOf X.env scope.names []) C X.env
  outer:=X.stack
  stack:=X.stack
  ex:=fp
  fn:=fun _=>false
  calm:=true
  pn:=[]
  xe:=fun _ _=>False
structure CompScope (X : Cx) (N' : List Str) (ix : List (Option Nat)) (scope : Scope) : Prop where
  kind : scope.kind = .function
  nocell : ∀ y∈scope.names,y.2≠.cell
  loc : ∀ y∈scope.names,y.2 = .local→scope.names.lookup y.1=some .local
  nd : N'.Nodup
  len : ix.length=N'.length
  free : ∀ y∈scope.names,y.2 = .free→X.env.kindOf y.1=some .cell
  out : ∀ (k j : Nat) (x : Str),N'[k]? = some x→ix[k]? = some (some j)→X.N[j]? = some x∧(x,NameKind.free)∈scope.names∧(relabel scope X.env).names.lookup x=some .cell
def compSt (ix : List (Option Nat)) (σ : St) : St:=ix.map fun o=>o.bind fun j=>(σ[j]?).join
theorem relabel_back {scope : Scope} {env : Env} {x : Str} {k : NameKind} (hc : ∀ y∈scope.names,y.2≠.cell) (h : (relabel scope env).names.lookup x=some k) (hk : k = .cell∨k = .free) : (x,NameKind.free)∈scope.names:=by
  have m:=PySem.mem_of_lookup h
  unfold relabel at m
  obtain ⟨⟨n,k0⟩,h1,h2⟩:=List.mem_map.mp m
  dsimp only at h2
  split at h2
  · rename_i q
    cases h2
    have : k0 = .free:=by
      simp only [Bool.and_eq_true,beq_iff_eq] at q
      exact q.1.1
    rw [this] at h1
    exact h1
  · cases h2
    rcases hk with rfl | rfl
    · exact absurd rfl (hc _ h1)
    · exact h1
section
variable {X : Cx} {N' : List Str} {ix : List (Option Nat)} {scope : Scope}
theorem cl_cells {pins : List (Addr×Obj)} {σ : St} {H : Hp} {s : Shared} (I : Inv X pins σ H s) (S : CompScope X N' ix scope) {x : Str} {c : Addr} (h : (clOf X.env scope.names []).lookup x=some c) : X.env.cells.lookup x=some c:=by
  rcases mem_clOf _ _ (PySem.mem_of_lookup h) with z | ⟨z1,z2⟩
  · cases z
  · obtain ⟨c',hc⟩:=I.ok.has x (.inl (S.free _ z1 rfl))
    dsimp only at z2
    rw [hc] at z2
    rw [hc,z2]
    rfl
theorem inv_comp {pins : List (Addr×Obj)} {σ : St} {H : Hp} {s : Shared} {h' : Heap} {tk : Nat} {fp : List Addr} (I : Inv X pins σ H s) (hcalm : X.calm=true) (S : CompScope X N' ix scope) (hf : ∀ b∈fp,FpOk X pins H b) (hlt : ∀ b∈fp,b < s.heap.objs.size)
    (hns : h'.Ns s.heap.objs.size (fun _=>none)) (hk : ∀ b o,s.heap.get? b=some o→h'.get? b=some o) : Inv (cxComp X N' scope s.heap.objs.size s H fp) [] (compSt ix σ) H { s with heap:=h',toks:=tk }:=by
  have noL : H s.heap.objs.size=none:=I.hok.fresh (Nat.le_refl _)
  refine ⟨⟨I.ok.mod,S.kind,I.ok.glob,I.ok.blt,Nat.le_refl _,fun x y c h1 h2=>I.ok.inj x y c (cl_cells I S h1) (cl_cells I S h2),fun x hx=>?_,(fun x c z=>nomatch z),fun _=>I.ok.hd hcalm,I.ok.frames,.inl rfl,fun b hb=>⟨Nat.ne_of_lt (hlt b hb),fun x c h=>?_⟩,I.bs,Nat.le_trans I.ok.bsz I.sz,fun b o q hb=>?_,fun b hb=>?_,I.stack,I.stkFree⟩,
    rfl,I.bare,Un.kept hk,⟨_,hns,fun k x v h1 h2 h3=>?_⟩,fun x c h=>?_,noL,fun x c h=>I.freeC x c (cl_cells I S h),(fun p hp=>absurd (show p∈([] : List (Addr×Obj)) from hp) (by simp)),I.hok.kept hk,?_⟩
  · have hx' : (relabel scope X.env).names.lookup x=some .cell∨(relabel scope X.env).names.lookup x=some .free:=hx
    have m : (x,NameKind.free)∈scope.names:=by
      rcases hx' with z | z
      · exact relabel_back S.nocell z (.inl rfl)
      · exact relabel_back S.nocell z (.inr rfl)
    exact lookup_of_mem (clOf_has (env:=X.env) scope.names [] m)
  · exact (hf b hb).2.2.2.2.1 x c (cl_cells I S h)
  · rcases (hf b hb).2.2.2.1 with z | z
    · exact I.ok.noex b o q z
    · exact absurd (Nat.lt_of_lt_of_le (Heap.lt_size (I.ok.bs b o q).1) z) (Nat.lt_irrefl _)
  · intro z
    rcases List.mem_cons.mp (I.stkSub b z) with e | e
    · exact (hf b hb).2.1 e
    · exact (hf b hb).2.2.1 e
  · have e2 : (compSt ix σ)[k]? = some (some v):=h2
    unfold compSt at e2
    rw [List.getElem?_map] at e2
    cases e3 : ix[k]? with
    | none=>rw [e3] at e2; cases e2
    | some o=>
      rw [e3] at e2
      cases o with
      | none=>cases e2
      | some j=>
        obtain ⟨n1,n2,n3⟩:=S.out k j x h1 e3
        have e4 : σ[j]? = some (some v):=by
          have : (σ[j]?).join=some v:=Option.some.inj e2
          cases e5 : σ[j]? with
          | none=>rw [e5] at this; cases this
          | some w=>rw [e5] at this; exact congrArg some this
        have kc:=S.free _ n2 rfl
        obtain ⟨m,hn,hl⟩:=I.loc
        obtain ⟨u,r,l⟩:=hl j x v n1 e4 (.inr (.inl kc))
        refine ⟨u,r,?_⟩
        rcases l with ⟨z,_⟩ | ⟨_,c,hc,hcell⟩
        · dsimp only at kc
          rw [kc] at z; cases z
        · obtain ⟨c',hc'⟩:=lookup_of_mem (clOf_has (env:=X.env) scope.names [] n2)
          have ec:=cl_cells I S hc'
          rw [hc] at ec
          cases ec
          exact .inr ⟨.inl n3,c,hc',hcell.keeps hk⟩
  · obtain ⟨v,q⟩:=I.cell x c (cl_cells I S h)
    exact ⟨v,q.keeps hk⟩
  · unfold compSt
    rw [List.length_map]
    exact S.len
end
end L2
namespace L2
open PySem PySem.Spec PyProof.Rows
def PIfs (X : Cx) (ifs : List Expr) (t : TT) : Prop:=
  ∀ (pins : List (Addr×Obj)) (s : Shared) (σ : St) (H : Hp) (Q : Bool→Hp→Prop),Inv X pins σ H s→t σ H Q→
    wpAny (model X.prog X.w) X.A (forIn ifs true fun c r=>if r=true then do let ok ← isTrue c X.env (eval c X.env); pure (ForInStep.yield ok) else pure (ForInStep.yield r)) (TP X pins σ Q) X.xe s
def tIf0 : TT:=fun _ H Q=>Q true H
theorem pifs_nil {X : Cx} : PIfs X [] tIf0:=fun pins s σ H Q I h=>wpAny_pure ⟨H,I,h⟩
theorem pifs_one {X : Cx} {c : Expr} {t : TT} (h : PT X c t) : PIfs X [c] t:=fun pins s σ H Q I q=>wpAny_tests_one (h pins s σ H Q I q)
def tComp (ix : List (Option Nat)) (wi : TI) (g : TG) (ti : TT) (te : TE) : TE:=fun σ H Q=>wi σ H fun J H1=>∀ D,H1 D=none→∃ W : Nat→Nat→Hp→Prop,(∃ m,W 0 m (upd H1 D (.lst [])))∧∀ i m H,W i m H→
  (J.stop i H∧Q (.ref D) H)∨(J.go i H∧∀ x H',J.yld i H x H'→g x (compSt ix σ) H' fun σ2 H2=>(∀ (k : Nat) v,(compSt ix σ)[k]? = some (some v)→σ2[k]? = some (some v))∧ti σ2 H2 fun b H3=>
    if b=true then te σ2 H3 fun y H4=>∃ zs,H4 D=some (.lst zs)∧zs.length < sizeLine∧∃ m',m' < m∧W (i + 1) m' (upd H4 D (.lst (zs ++ [y]))) else ∃ m',m' < m∧W (i + 1) m' H3)
section
variable {X : Cx} {N' : List Str} {ix : List (Option Nat)} {scope : Scope} {elt tg iter : Expr} {ifs : List Expr} {pos : Pos} {wi : TI} {g : TG} {ti : TT} {te : TE}
def CompEnd (X : Cx) (pins : List (Addr×Obj)) (σ : St) (Q : VK) (acc : Value) (C : Addr) (r : Result) (s' : Shared) : Prop:=
  ∃ D H',acc = .ref D∧(∃ f,r = .ok f)∧Inv X pins σ H' s'∧FpOk X pins H' C∧(∃ m,s'.heap.Ns C m)∧Q (.ref D) H'
theorem comp_loop {X' : Cx} {σ₀ : St} {H : Hp} {s : Shared} {Q : VK} {it D : Addr} {fp : List Addr} {tn : Nat→Heap→Prop} {J : It} {W : Nat→Nat→Hp→Prop} {m0 : Nat} (I : Inv X' [] σ₀ H s) (hcalm : X'.calm=true) (hxe : X'.xe=fun _ _=>False)
    (T : Turn X'.prog X'.w X'.K tg J fp it tn) (st : tn 0 s.heap) (hf : ∀ b∈fp,FpOk X' [] H b) (hg : PG X' tg g) (hi : PIfs X' ifs ti) (he : PE X' elt te) (w0 : W 0 m0 H)
    (turn : ∀ i m H,W i m H→(J.stop i H∧Q (.ref D) H)∨(J.go i H∧∀ x H',J.yld i H x H'→g x σ₀ H' fun σ2 H2=>(∀ (k : Nat) v,σ₀[k]? = some (some v)→σ2[k]? = some (some v))∧ti σ2 H2 fun b H3=>
        if b=true then te σ2 H3 fun y H4=>∃ zs,H4 D=some (.lst zs)∧zs.length < sizeLine∧∃ m',m' < m∧W (i + 1) m' (upd H4 D (.lst (zs ++ [y]))) else ∃ m',m' < m∧W (i + 1) m' H3)) :
    codeAny (model X'.prog X'.w) X'.A (.compStart (.ListComp elt [⟨tg,iter,ifs,0⟩] scope pos) 0 (.ref it) (.ref D) X'.env) (fun r s'=>(∃ f,r = .ok f)∧∃ H',Inv X' [] σ₀ H' s'∧Q (.ref D) H') s:=by
  have stat : ∀ {H' : Hp},(∀ b∈fp,H' b=none)→∀ b∈fp,FpOk X' [] H' b:=fun hn b hb=>⟨hn b hb,(hf b hb).2⟩
  have loop : codeAny (model X'.prog X'.w) X'.A (.compLoop (.ListComp elt [⟨tg,iter,ifs,0⟩] scope pos) 0 (.ref it) (.ref D) X'.env) (fun r s'=>(∃ f,r = .ok f)∧∃ H',Inv X' [] σ₀ H' s'∧Q (.ref D) H') s:=by
    refine codeAny_loop rfl (fun n s'=>∃ i H',Inv X' [] σ₀ H' s'∧tn i s'.heap∧(∀ b∈fp,H' b=none)∧W i n H') ?_ m0 ⟨0,H,I,st,fun b hb=>(hf b hb).1,w0⟩
    rintro n s1 ⟨i,H1,I1,st1,fr1,w1⟩
    show wpAny _ X'.A ((compTurn (.ListComp elt [⟨tg,iter,ifs,0⟩] scope pos) 0 (.ref it) (.ref D) X'.env).onRaise (fun x=>do noteFrame x X'.env; theTreesLotGoes x)) _ _ s1
    refine wpAny_noted ?_
    have noE : ∀ {α : Type} {t : Sem α} {P : α→Shared→Prop} {F : Value→Shared→Prop} {s : Shared},wpAny (model X'.prog X'.w) X'.A t P X'.xe s→wpAny (model X'.prog X'.w) X'.A t P F s:=fun h=>wpAny_mono h (fun _ _ x=>x) fun e s' x=>by rw [hxe] at x; exact x.elim
    rw [compTurn_list]
    refine wpAny_bind (wpAny_standAt (wpAny_bind ?_))
    rcases turn i n H1 w1 with ⟨stop,qn⟩ | ⟨go,step⟩
    · refine thn (T.done X' rfl rfl rfl hcalm i [] s1 σ₀ H1 _ I1 (stat fr1) st1 stop) fun r s2 ⟨hr,I2⟩=>?_
      subst hr
      exact wpAny_pure ⟨⟨_,rfl⟩,H1,I2,qn⟩
    · refine thn (T.item X' rfl rfl rfl hcalm i [] s1 σ₀ H1 _ I1 (stat fr1) st1 go) fun r s2 ⟨u,hr,h2⟩=>?_
      subst hr
      refine wpAny_bind (thn h2 fun _ s3 ⟨x,H3,I3,r3,y3,st3,fr3⟩=>?_)
      have I3':=I3.pinned (stat fr3) (T.obj _ _ st3)
      refine wpAny_bind (noE (thn (hg _ s3 σ₀ H3 x u _ I3' r3 (step x H3 y3)) fun _ s4 ⟨σ4,H4,I4,hk4,q4⟩=>?_))
      refine wpAny_bind (noE (thn (hi _ s4 σ4 H4 _ I4 q4) fun ok s5 ⟨H5,I5,q5⟩=>?_))
      have again' : ∀ {s7 : Shared} {H7 : Hp} {m' : Nat},Inv X' ([] ++ pinsAt fp s3.heap) σ4 H7 s7→m' < n→W (i + 1) m' H7→∃ m,m < n∧∃ i H',Inv X' [] σ₀ H' s7∧tn i s7.heap∧(∀ b∈fp,H' b=none)∧W i m H':=fun {s7 H7 m'} I7 hm w7=>by
        refine ⟨m',hm,i + 1,H7,I7.unpinned.weak (by rw [I3.len,I7.len]) hk4,T.keep _ _ _ st3 fun b hb o e=>(I7.pin (b,o) (List.mem_append_right _ (List.mem_append_right _ (mem_pinsAt hb e)))).1,fun b hb=>?_,w7⟩
        obtain ⟨o,e,d⟩:=T.obj _ _ st3 b hb
        exact (I7.pin (b,o) (List.mem_append_right _ (List.mem_append_right _ (mem_pinsAt hb e)))).2.1
      cases ok with
      | false=>
        obtain ⟨m',hm,w7⟩:=q5
        exact wpAny_pure ⟨rfl,again' I5 hm w7⟩
      | true=>
        refine wpAny_bind (wpAny_bind (noE (thn (he _ s5 σ4 H5 _ I5 q5) fun y s6 ⟨yv,H6,I6,r6,zs,hD,hz,m',hm,w7⟩=>?_)))
        refine wpAny_bind (noE (thn (mt_append (X:=X') _ s6 σ4 H6 (.ref D) [yv] (.ref D) [y] (fun v H7=>H7=upd H6 D (.lst (zs ++ [yv]))) I6 rfl (.cons r6 .nil) ⟨D,zs,yv,rfl,rfl,hD,hz,rfl⟩) fun v s7 ⟨vv,H7,I7,_,e7⟩=>?_))
        subst e7
        exact wpAny_pure (wpAny_pure ⟨rfl,again' I7 hm w7⟩)
  refine codeAny_compStart_list loop (T.self _ 0 s _ _ st loop)
theorem comp_block {pins : List (Addr×Obj)} {σ : St} {H : Hp} {s : Shared} {Q : VK} {it : Addr} {fp : List Addr} {tn : Nat→Heap→Prop} {J : It} {E : Value→Shared→Prop} (I : Inv X pins σ H s) (hcalm : X.calm=true) (S : CompScope X N' ix scope)
    (T : Turn X.prog X.w X.K tg J fp it tn) (st : tn 0 s.heap) (hf : ∀ b∈fp,FpOk X pins H b)
    (hg : ∀ C s H fp,PG (cxComp X N' scope C s H fp) tg g) (hi : ∀ C s H fp,PIfs (cxComp X N' scope C s H fp) ifs ti) (he : ∀ C s H fp,PE (cxComp X N' scope C s H fp) elt te)
    (h : ∀ D,H D=none→∃ W : Nat→Nat→Hp→Prop,(∃ m,W 0 m (upd H D (.lst [])))∧∀ i m H,W i m H→
      (J.stop i H∧Q (.ref D) H)∨(J.go i H∧∀ x H',J.yld i H x H'→g x (compSt ix σ) H' fun σ2 H2=>(∀ (k : Nat) v,(compSt ix σ)[k]? = some (some v)→σ2[k]? = some (some v))∧ti σ2 H2 fun b H3=>
        if b=true then te σ2 H3 fun y H4=>∃ zs,H4 D=some (.lst zs)∧zs.length < sizeLine∧∃ m',m' < m∧W (i + 1) m' (upd H4 D (.lst (zs ++ [y]))) else ∃ m',m' < m∧W (i + 1) m' H3)) :
    wpAny (model X.prog X.w) X.A (newList []) (fun acc s3=>wpAny (model X.prog X.w) X.A (newFunctionEnv scope X.env.globals (clOf X.env scope.names []) [] X.env.qual none .none (some X.env)) (fun cenv s4=>
      codeAny (model X.prog X.w) X.A (.compStart (.ListComp elt [⟨tg,iter,ifs,0⟩] scope pos) 0 (.ref it) acc { cenv with scope:=relabel scope X.env }) (CompEnd X pins σ Q acc cenv.locals) s4) E s3) E s:=by
  refine wpAny_newList ?_
  have fresh0 : H s.heap.objs.size=none:=I.hok.fresh (Nat.le_refl _)
  have I3 : Inv X pins σ (upd H s.heap.objs.size (.lst [])) { s with heap:=s.heap.push { cls:=.type "list",data:=.seq ([] : List Value).toArray } } :=
    I.laid (t':=s.toks) (fun b u e=>Heap.get?_push_of_some _ e) (Nat.le_refl _) ⟨by show 0≤sizeLine; exact Nat.zero_le _,[],0,.nil,Heap.get?_push_size _ rfl⟩
  obtain ⟨W,⟨m0,w0⟩,turn⟩:=h s.heap.objs.size fresh0
  generalize hD : s.heap.objs.size=D at *
  have lt0 : ∀ b∈fp,b < s.heap.objs.size:=fun b hb=>by obtain ⟨o,e,_⟩:=T.obj 0 _ st b hb; exact Heap.lt_size e
  have hf3 : ∀ b∈fp,FpOk X pins (upd H D (.lst [])) b:=fun b hb=>by
    have nb : b≠D:=by rw [← hD]; exact Nat.ne_of_lt (lt0 b hb)
    obtain ⟨f0,fr⟩:=hf b hb
    exact ⟨by rw [upd_ne nb]; exact f0,fr⟩
  have st3 : tn 0 (s.heap.push { cls:=.type "list",data:=.seq ([] : List Value).toArray }):=T.keep _ _ _ st fun b hb o e=>Heap.get?_push_of_some _ e
  revert I3 st3
  generalize (s.heap.push { cls:=.type "list",data:=.seq ([] : List Value).toArray })=h3
  intro I3 st3
  have lt3 : ∀ b∈fp,b < h3.objs.size:=fun b hb=>by obtain ⟨o,e,_⟩:=T.obj 0 _ st3 b hb; exact Heap.lt_size e
  refine wpAny_newFunctionEnv S.nocell (fun x hx=>nomatch hx) (fun h4 hns hsb=>?_) S.kind
  have k4 : ∀ b o,h3.get? b=some o→h4.get? b=some o:=fun b o e=>(hsb.2 b (Nat.ne_of_lt (Heap.lt_size e))).trans (Heap.get?_push_of_some _ e)
  have J4 : Inv (cxComp X N' scope h3.objs.size { s with heap:=h3 } (upd H D (.lst [])) fp) [] (compSt ix σ) (upd H D (.lst [])) { s with heap:=h4,toks:=s.toks + ([] : List (Str×Value)).length }:=
    inv_comp (s:={ s with heap:=h3 }) (tk:=s.toks + ([] : List (Str×Value)).length) I3 hcalm S hf3 lt3 hns k4
  have st4 : tn 0 ({ s with heap:=h4,toks:=s.toks + ([] : List (Str×Value)).length } : Shared).heap:=T.keep _ _ _ st3 fun b hb o e=>k4 b o e
  have fr4 : ∀ b∈fp,upd H D (.lst []) b=none:=fun b hb=>(hf3 b hb).1
  revert J4 st4
  generalize ({ s with heap:=h4,toks:=s.toks + ([] : List (Str×Value)).length } : Shared)=s4
  intro J4 st4
  have hf4 : ∀ b∈fp,FpOk (cxComp X N' scope h3.objs.size { s with heap:=h3 } (upd H D (.lst [])) fp) [] (upd H D (.lst [])) b:=fun b hb=>
    ⟨fr4 b hb,Nat.ne_of_lt (lt3 b hb),J4.ok.exfs b hb,.inl hb,fun x c e=>(J4.ok.exf b hb).2 x c e,fun p hp=>nomatch hp⟩
  refine codeAny_mono (comp_loop (X':=cxComp X N' scope h3.objs.size { s with heap:=h3 } (upd H D (.lst [])) fp) (Q:=Q) (D:=D) J4 rfl rfl T st4 hf4 (hg _ _ _ _) (hi _ _ _ _) (he _ _ _ _) w0 turn) fun r s' ⟨hr,H',J',q'⟩=>?_
  refine ⟨D,H',rfl,hr,I3.call' J'.os J'.base J'.hok J'.bare fun b hb=>?_,?_,?_,q'⟩
  · obtain ⟨_,f1,_,f3,f4,f5⟩:=hf3 b hb
    exact ⟨f3,f1,f4,f5⟩
  · exact I3.fpOk (H':=H') (Nat.le_refl _) J'.free
  · obtain ⟨m,hn,_⟩:=J'.loc
    exact ⟨m,hn⟩
end
end L2
namespace L2
open PySem PySem.Spec PyProof.Rows
section
variable {X : Cx} {N' : List Str} {ix : List (Option Nat)} {scope : Scope} {elt tg iter : Expr} {ifs : List Expr} {pos : Pos} {wi : TI} {g : TG} {ti : TT} {te : TE}
theorem comp_closure {pins : List (Addr×Obj)} {σ : St} {H : Hp} {s : Shared} (I : Inv X pins σ H s) (S : CompScope X N' ix scope) : closureFor scope X.env=pure (clOf X.env scope.names []):=
  closureFor_cl fun y hy e=>I.ok.has y.1 (.inl (S.free y hy e))
theorem pe_comp (hcalm : X.calm=true) (S : CompScope X N' ix scope) (hit : PI X tg iter wi)
    (hg : ∀ C s H fp,PG (cxComp X N' scope C s H fp) tg g) (hi : ∀ C s H fp,PIfs (cxComp X N' scope C s H fp) ifs ti) (he : ∀ C s H fp,PE (cxComp X N' scope C s H fp) elt te)
    (hs : ∀ x,foldedSetIterable iter X.env x=pure x:=by intro _; rfl) : PE X (.ListComp elt [⟨tg,iter,ifs,0⟩] scope pos) (tComp ix wi g ti te):=by
  intro pins s σ H Q I h
  rw [eval_ListComp]
  refine wpAny_comprehension_free (use:=none) rfl hs (comp_closure I S) S.kind S.loc (thn (hit pins s σ H _ I h) fun v s1 h1=>thn h1 fun itv s2 h2=>?_)
  obtain ⟨it,fp,tn,J,H2,rfl,I2,T,st2,f2,q2⟩:=h2
  refine thn (comp_block (E:=X.xe) (elt:=elt) (iter:=iter) (pos:=pos) I2 hcalm S T st2 f2 hg hi he q2) fun acc s3 h3=>thn h3 fun cenv s4 h4=>codeAny_mono h4 fun r s' hr=>?_
  obtain ⟨D,H',rfl,⟨f,rfl⟩,I',⟨g0,g1,_,g3,g4,g5⟩,⟨m,hm⟩,q'⟩:=hr
  exact ⟨m,hm,fun h' hsb=>⟨.ref D,H',I'.turned (t':=s'.toks) (fun b o hb e=>(hsb.2 b hb).trans e) g0 g1 g3 g4 g5,rfl,q'⟩⟩
theorem ps_setComp {i : Nat} {y : Str} {py spos : Pos} (hN : X.N.Nodup) (hy : X.N[i]? = some y) (hly : Loc X.env.scope y) (hcalm : X.calm=true) (S : CompScope X N' ix scope) (hit : PI X tg iter wi)
    (hg : ∀ C s H fp,PG (cxComp X N' scope C s H fp) tg g) (hi : ∀ C s H fp,PIfs (cxComp X N' scope C s H fp) ifs ti) (he : ∀ C s H fp,PE (cxComp X N' scope C s H fp) elt te)
    (hsw : swapsWith (.ListComp elt [⟨tg,iter,ifs,0⟩] scope pos) (some (.Name y py)) spos.line X.env=pure true:=by rfl) (hs : ∀ x,foldedSetIterable iter X.env x=pure x:=by intro _; rfl)
    (hf : X.fn y=true∨X.env.scope.names.lookup y=some .local:=by first | exact .inl rfl | exact .inr rfl | assumption) :
    PS X (.Assign [.Name y py] (.ListComp elt [⟨tg,iter,ifs,0⟩] scope pos) spos) (tAsg (tComp ix wi g ti te) (gName i)):=by
  intro pins s σ H D I h
  rw [exec_Assign_Name_used _ _ _ _ hsw]
  refine wpAny_bind (wpAny_standAt (wpAny_bind ?_))
  show wpAny _ X.A (do let _ ← comprehension (.ListComp elt [⟨tg,iter,ifs,0⟩] scope pos) scope X.env _ (newList []) false (eval iter X.env) (some (assign (.Name y py) X.env))) _ _ s
  refine wpAny_bind (thn (wpAny_comprehension_free (use:=some (assign (.Name y py) X.env)) (Q:=fun _ s'=>SP X pins D .next s') rfl hs (comp_closure I S) S.kind S.loc (thn (hit pins s σ H _ I h) fun v s1 h1=>thn h1 fun itv s2 h2=>?_)) fun _ s' hq=>wpAny_pure (wpAny_pure hq))
  obtain ⟨it,fp,tn,J,H2,rfl,I2,T,st2,f2,q2⟩:=h2
  refine thn (comp_block (E:=X.xe) (Q:=fun x H1=>gName i x σ H1 D.nx) (elt:=elt) (iter:=iter) (pos:=pos) I2 hcalm S T st2 f2 hg hi he q2) fun acc s3 h3=>thn h3 fun cenv s4 h4=>codeAny_mono h4 fun r s' hr=>?_
  obtain ⟨A,H',rfl,⟨f,rfl⟩,I',⟨g0,g1,g2,g3,g4,g5⟩,⟨m,hm⟩,q'⟩:=hr
  show wpAny _ X.A (assign (.Name y py) X.env (.ref A)) _ _ _
  refine wpAny_assign_Name (store_ok2 I' hN hy hly (v:=.ref A) rfl (fun s5 I5 ⟨a,hsb,ha⟩=>?_) hf)
  have na : cenv.locals≠a:=by
    rcases ha with z | z
    · rw [z]; exact g1
    · exact (g4 y a z).symm
  exact ⟨m,hm.sameBut hsb na,fun h' hsb'=>⟨_,H',I5.turned (t':=s5.toks) (fun b o hb e=>(hsb'.2 b hb).trans e) g0 g1 g3 g4 g5,q'⟩⟩
end
end L2
namespace L2
open PySem PySem.Spec PyProof.Rows PySem.Builtin.SmallTypes
section
variable {prog : Program} {w : World} {A : Around} {E : Value→Shared→Prop} {s : Shared}
variable {z TI TO i1 i2 l1 l2 : Addr} {b1 b2 : Bool} {k1 k2 : Nat} {xs ys : Array Value} {x y a b : Value}
end
end L2
namespace L2
open PySem PySem.Spec PyProof.Rows PySem.Builtin.SmallTypes
section
variable {prog : Program} {w : World} {A : Around} {E : Value→Shared→Prop} {s : Shared}
variable {z TI TO i1 i2 l1 l2 : Addr} {b1 b2 : Bool} {k1 k2 : Nat} {xs ys : Array Value} {x y a b : Value}
end
end L2
namespace L2
open PySem PySem.Spec PyProof.Rows
section
variable {X : Cx} {pins : List (Addr×Obj)} {σ : St} {H : Hp} {s : Shared}
theorem Inv.turnedL {h' : Heap} {t' : Nat} {ch : List Addr} (I : Inv X pins σ H s) (hf : ∀ b∈ch,FpOk X pins H b) (k : ∀ b o,b ∉ ch→s.heap.get? b=some o→h'.get? b=some o) : Inv X pins σ H { s with heap:=h',toks:=t' }:=by
  have nt : ∀ b u,H b=some u→b ∉ ch:=fun b u e z=>by rw [(hf b z).1] at e; cases e
  have hL : X.env.locals ∉ ch:=fun z=>(hf _ z).2.1 rfl
  refine I.step (g':=s.gens) (d':=s.drawn) (ch:=ch) (fun b hb=>⟨(hf b hb).2.2.2.1,(hf b hb).2.1,(hf b hb).2.2.2.2.1,(hf b hb).2.2.2.2.2⟩) (fun b o _ _ hc e _=>k b o hc e) (fun b o _ _ hc e _=>⟨o.slots,k b o hc e⟩) (fun _ _ _ _ n=>n)
    (fun b o hc e=>⟨o,k b o hc e⟩) (fun _ _ e=>e) (fun _ _ _ e=>e) (fun b ps e=>⟨#[],by rw [e]; simp⟩) (fun m hm=>?_) (fun b u e=>?_) I.bare
  · obtain ⟨o,es,ep,ho,r⟩:=hm
    exact ⟨o,es,ep,k _ o hL ho,r⟩
  · refine (I.hok b u e).stay (fun c v hc q=>k c v ?_ q) (fun _ q=>q) fun _ _ q=>q
    rcases hc with z | z
    · rw [z]; exact nt b u e
    · exact nt c _ z
theorem Inv.trackNew {h' : Heap} {t' : Nat} {a : Addr} {o : HO} (I0 : Inv X pins σ H s) (I : Inv X pins σ H { s with heap:=h',toks:=t' }) (ha : s.heap.objs.size≤a) (new : ObjOk X.prog X.w (upd H a o) h' a o) : Inv X pins σ (upd H a o) { s with heap:=h',toks:=t' }:=by
  refine I.track (Heap.get?_none_of_le (Nat.le_trans I0.sz ha)) (I0.hok.fresh ha) (Nat.ne_of_gt (Nat.lt_of_lt_of_le I0.lt ha)) (fun x c e z=>?_) (fun p hp z=>?_) new
  · obtain ⟨v,q⟩:=I0.cell x c e
    exact absurd (Nat.lt_of_lt_of_le q.lt (by rw [z]; exact ha)) (Nat.lt_irrefl _)
  · exact absurd (Nat.lt_of_lt_of_le (Heap.lt_size (I0.pin p hp).1) (by rw [z]; exact ha)) (Nat.lt_irrefl _)
end
section
variable {X : Cx} {es : List Expr} {x1 : Nat} {tp : Pos}
end
end L2
namespace L2
open PySem PySem.Spec PyProof.Rows
section
variable {X : Cx}
def CDivL (i j : Int) : Prop:=0 < j∧j < 18446744073709551616
theorem op_fdivL : OpR X (binaryOp .FloorDiv) (rI CDivL fun i j=>.int (i / j)):=opI fun i j _ _ _ _ _ hc q=>by
  have hj : j.natAbs.log2 < 9000:=by
    have h0 : j.natAbs≠0:=by have:=hc.1; omega
    have h1 : j.natAbs < 2 ^ 64:=by
      have h2:=hc.1
      have h3 : j < 2 ^ 64:=hc.2
      omega
    have:=(Nat.log2_lt h0).mpr h1
    omega
  have e : i / j=i.fdiv j:=(Int.fdiv_eq_ediv_of_nonneg i (Int.le_of_lt hc.1)).symm
  rw [e] at q
  exact floordiv_int (by have:=hc.1; omega) q (.inl (PyProof.noPylong_of_log2 hj))
end
end L2
namespace L2
open PySem PySem.Spec PyProof.Rows
section
variable {X : Cx} {pins : List (Addr×Obj)} {σ : St} {H : Hp} {s : Shared}
end
theorem same_new {H : Hp} {p : Addr} (h : H p=none) (o : HO) : Same H (upd H p o):=fun b u q=>by rw [upd_ne (ne_of_none q h)]; exact q
def plainE : Expr→Bool
  | .Starred ..=>false
  | _=>true
theorem star_plain {e : Expr} {es : List Expr} {env : Env} (h : plainE e=true) : starEach (e :: es) env=(false,eval e env) :: starEach es env:=by
  cases e <;> first | rfl | cases h
theorem pa_c {X : Cx} {e : Expr} {es : List Expr} {te : TE} {t : TA} (ha : PE X e te) (hr : PA X es t) (hn : plainE e=true:=by rfl) : PA X (e :: es) (tCons te t):=pa_cons ha hr (star_plain hn)
end L2
namespace L2
open PySem PySem.Spec PyProof.Rows
section
variable {X : Cx} {pins : List (Addr×Obj)} {σ : St} {H : Hp} {s : Shared}
end
structure Cal (P : Program) (w : World) (K : PySem.W.Frag) (mg : Str→Option Value) (base : Heap) (CX : CXT) (k : Nat) (x : Str) (ps : List Str) (sp : Sp) : Prop where
  ex : ∃ (f : Addr) (fd : FuncData),FnOk P w K mg base CX k f fd ps sp∧Binds K fd ps []∧PySem.W.keepIn K (.ref f)=true∧mg x=some (.ref f)
theorem pe_cal {X : Cx} {CX : CXT} {k j : Nat} {ps : List Str} {sp : Sp} {E : XK} {x : Str} {p pos : Pos} {e : Expr} {es : List Expr} {t : TA} (F : Cal X.prog X.w X.K X.mg X.base CX k x ps sp) (hr : Room j X.A) (hg : Gl X x) (hx : Passes CX X E) (ha : PA X (e :: es) t)
    (hk : k≤j:=by decide) (hdb : (x == ("__debug__" : Str))=false:=by decide) (he : starEach (e :: es) X.env=(false,eval e X.env) :: starEach es X.env:=by rfl) (hpl : (backTo pos (starEach es X.env)).any (·.1)=false:=by rfl) :
    PE X (.Call (.Name x p) (e :: es) [] pos) (tCall sp [] E t):=by
  obtain ⟨f,fd,h1,h2,h3,h4⟩:=F.ex
  exact pe_call (h1.mono hk) hr hg h4 h3 h2 .nil hx ha hdb he hpl
end L2
namespace L2
open PySem PySem.Spec PyProof.Rows
def Ite (K : PySem.W.Frag) (l : Addr) : It:=
  ⟨fun i H=>∃ xs x,SqL K H l xs∧xs[i]? = some x,
   fun i H v H'=>∃ p x,v = .ref p∧H p=none∧H' = upd H p (.tup [.int i,x])∧∀ xs,SqL K H l xs→xs[i]? = some x,
   fun i H=>∃ xs,SqL K H l xs∧xs.length≤i⟩
def enmTn (e it l : Addr) (i : Nat) (h : Heap) : Prop:=(∃ old,IsEnum h e it i old)∧h.IsListIter it l i
theorem turn_enum {P : Program} {w : World} {K : PySem.W.Frag} {es : List Expr} {x1 : Nat} {tp : Pos} {e it l : Addr} (ne : e≠it) : Turn P w K (.Tuple es x1 tp) (Ite K l) [e,it] e (enmTn e it l) where
  mem:=by simp
  obj:=fun i h ⟨⟨old,t1⟩,t2⟩ c hc=>by
    simp only [List.mem_cons,List.not_mem_nil,or_false] at hc
    rcases hc with rfl | rfl
    · exact ⟨_,t1,fun v q=>by cases q⟩
    · obtain ⟨o,h1,_,h3⟩:=t2; exact ⟨o,h1,fun v q=>by rw [h3] at q; cases q⟩
  keep:=fun i h h' ⟨⟨old,t1⟩,t2⟩ k=>⟨⟨old,k e (by simp) _ t1⟩,Heap.IsListIter.at (h:=h) t2 fun o q=>k it (by simp) o q⟩
  item:=by
    intro X hP hw hK hc i pins s σ H E I hf st hg
    subst hP hw hK
    obtain ⟨⟨old,t1⟩,t2⟩:=st
    obtain ⟨xs,x,q1,e1⟩:=hg
    obtain ⟨us,r1,p1,_⟩:=I.list q1
    obtain ⟨u,eu,ru⟩:=r1.get e1
    refine wpAny_pyNext_enum_item t1 t2 p1.isList (x:=u) (by simpa using eu) ne fun h' a1 a2 a3 a4 a5=>?_
    refine ⟨_,rfl,wpAny_letOwnedTupleGo_enum a1 fun h'' c1 c2=>?_⟩
    have nz : s.heap.objs.size≠e:=Nat.ne_of_gt (Heap.lt_size t1)
    have I1 : Inv X pins σ H { s with heap:=h'',toks:=s.toks + 1 }:=I.turnedL hf fun c o hc q=>by
      simp only [List.mem_cons,List.not_mem_nil,or_false,not_or] at hc
      exact c2.extBut c o hc.1 (a5 c o hc.1 hc.2 q)
    have I2:=I.trackNew (t':=s.toks + 1) (o:=.tup [.int i,x]) I1 (Nat.le_refl _) ⟨by show 2≤sizeLine; decide,[.int i s.toks,u],.cons ⟨_,rfl⟩ (.cons ru .nil),⟨_,c2.extBut _ _ nz a3,rfl,_,rfl⟩⟩
    have fr : H s.heap.objs.size=none:=I.hok.fresh (Nat.le_refl _)
    refine ⟨.ref s.heap.objs.size,_,I2,rfl,⟨s.heap.objs.size,x,rfl,fr,rfl,fun xs' q1'=>by rw [I.list_inj q1' q1]; exact e1⟩,⟨⟨_,c1⟩,Heap.IsListIter.at (h:=h') a2 fun o q=>c2.extBut it o (Ne.symm ne) q⟩,fun c hc=>?_⟩
    obtain ⟨o,eo⟩ : ∃ o,s.heap.get? c=some o:=by
      simp only [List.mem_cons,List.not_mem_nil,or_false] at hc
      rcases hc with rfl | rfl
      · exact ⟨_,t1⟩
      · obtain ⟨o,h1,_⟩:=t2; exact ⟨o,h1⟩
    rw [upd_ne (Nat.ne_of_lt (Heap.lt_size eo))]
    exact (hf c hc).1
  done:=by
    intro X hP hw hK hc i pins s σ H E I hf st hg
    subst hP hw hK
    obtain ⟨⟨old,t1⟩,t2⟩:=st
    obtain ⟨xs,q1,hl⟩:=hg
    obtain ⟨us,r1,p1,_⟩:=I.list q1
    have n1:=r1.length
    refine wpAny_pyNext_enum_end (I.ok.hd hc) t1 t2 p1.isList (by simp; omega) fun h' kk=>⟨rfl,I.turnedL (t':=s.toks) hf fun c o hc q=>?_⟩
    simp only [List.mem_cons,List.not_mem_nil,or_false,not_or] at hc
    exact kk c o hc.2 q
  self:=fun _ _ _ _ _ st h=>by
    obtain ⟨⟨old,t1⟩,_⟩:=st
    exact wpAny_pyIter_enum t1 h
section
variable {X : Cx} {es : List Expr} {x1 : Nat} {tp : Pos}
def iEnm (K : PySem.W.Frag) (ta : TA) : TI:=fun σ H R=>ta σ H fun vs H1=>∃ l xs,vs=[.ref l]∧SqL K H1 l xs∧R (Ite K l) H1
theorem pi_enum {a : Expr} {ta : TA} {p pos : Pos} (hg : Gl X "enumerate") (hm : X.mg "enumerate" = none) (ha : PA X [a] ta) (hs : starEach [a] X.env=[(false,eval a X.env)]:=by rfl) :
    PI X (.Tuple es x1 tp) (.Call (.Name "enumerate" p) [a] [] pos) (iEnm X.K ta):=by
  intro pins s σ H R I h
  refine Call_ (ld_blt I hg hm boot_enumerate (PyProof.Rows.callWith_type1 (thn (ha pos pins s σ H _ I h) fun us s1 ⟨vs,H1,I1,r1,q1⟩=>?_) hs rfl))
  obtain ⟨l,xs,rfl,q1,q⟩:=q1
  cases r1 with
  | cons r rr=>
    cases rr
    cases r
    obtain ⟨us1,_,p1,_⟩:=I1.list q1
    refine call_enumerate_list p1.isList fun h' a1 a2 _ kk=>?_
    refine wpAny_pyIter_enum a1 ?_
    have I2 : Inv X pins σ H1 { s1 with heap:=h',toks:=s1.toks }:=I1.kept kk
    refine ⟨_,[s1.heap.objs.size + 1,s1.heap.objs.size],_,_,H1,rfl,I2,turn_enum (Nat.succ_ne_self _),⟨⟨_,a1⟩,a2⟩,fun c hc=>?_,q⟩
    have hge : s1.heap.objs.size≤c:=by
      simp only [List.mem_cons,List.not_mem_nil,or_false] at hc
      rcases hc with rfl | rfl <;> omega
    exact I1.fpOk (H':=H1) hge (I1.hok.fresh hge)
end
end L2
namespace L2
open PySem PySem.Spec PyProof.Rows
def relabelD (scope D : Scope) : List (Str×NameKind):=scope.names.map fun (n,k)=>if (k == .free && D.kind == .function && D.names.lookup n == some .cell) then (n,.cell) else (n,k)
def compOk (N N' : List Str) (ix : List (Option Nat)) (scope D : Scope) : Bool:=
  (scope.kind == .function) && (scope.names.all fun y=>(y.2 == .local && scope.names.lookup y.1 == some .local) || (y.2 == .free && D.names.lookup y.1 == some .cell) || (y.2 != .local && y.2 != .free && y.2 != .cell)) && decide N'.Nodup && (ix.length == N'.length) &&
  ((List.range N'.length).all fun k=>match ix[k]?,N'[k]? with
    | some (some j),some x=>N[j]? == some x && scope.names.contains (x,.free) && (relabelD scope D).lookup x == some .cell
    | _,_=>true)
theorem comp_scope {X : Cx} {N' : List Str} {ix : List (Option Nat)} {scope : Scope} {N : List Str} {D : Scope} (h : compOk N N' ix scope D=true) (hN : X.N=N:=by rfl) (hD : X.env.scope=D:=by rfl) : CompScope X N' ix scope:=by
  unfold compOk at h
  simp only [Bool.and_eq_true,decide_eq_true_eq] at h
  obtain ⟨⟨⟨⟨h1,h2⟩,h3⟩,h4⟩,h5⟩:=h
  have hall:=List.all_eq_true.mp h2
  refine ⟨by simpa using h1,fun y hy=>?_,fun y hy e=>?_,h3,by simpa using h4,fun y hy e=>?_,fun k j x e1 e2=>?_⟩
  · have:=hall y hy
    intro z
    rw [z] at this
    simp at this
  · have:=hall y hy
    rw [e] at this
    simpa using this
  · have:=hall y hy
    rw [e] at this
    have q : D.names.lookup y.1=some .cell:=by simpa using this
    show X.env.scope.names.lookup y.1=some .cell
    rw [hD]; exact q
  · have hk : k < N'.length:=(List.getElem?_eq_some_iff.mp e1).1
    have:=List.all_eq_true.mp h5 k (List.mem_range.mpr hk)
    rw [e1,e2] at this
    simp only [Bool.and_eq_true,beq_iff_eq] at this
    obtain ⟨⟨a1,a2⟩,a3⟩:=this
    refine ⟨by rw [hN]; exact a1,by simpa using a2,?_⟩
    show (relabelD scope X.env.scope).lookup x=some .cell
    rw [hD]; exact a3
end L2
namespace L2
open PySem PySem.Spec PyProof.Rows
section
variable {X : Cx}
end
end L2
namespace L2
open PySem PySem.Spec PyProof.Rows
section
variable {K : PySem.W.Frag} {c d : Addr} {b : Bool} {v : Value}
end
end L2
namespace L2
open PySem PySem.Spec PyProof.Rows
theorem Fun.okE {P : Program} {w : World} {K : PySem.W.Frag} {mg : Str→Option Value} {base : Heap} {x qual : Str} {st : Stmt} {f : Addr} {fd : FuncData} {N ps : List Str} {k : Nat} {sp : Sp} (F : Fun K x qual st f fd) (S : FnScope N ps (defScope st))
    (len : ∀ vs H Q E,sp vs H Q E→vs.length=ps.length)
    (hbody : ∀ (cdv : Value) (A : Around) (outer : List Env) (s : Shared) (H : Hp) (vs : List V) (Q : VK) (E : XK),Room k (A.deeper (envOfC qual (defScope st) s.heap.objs.size f cdv))→sp vs H Q E→
      ∃ t,PSs (cxOf (CXE P w) P w K mg base N qual (defScope st) f cdv A outer s H E) (defBody st) t∧t { nx:=fun _ H'=>Q .non H',rt:=Q } (start N vs) H) : FnOk P w K mg base (CXE P w) (k + 1) f fd ps sp:=by
  obtain ⟨oc,od,kV,doc,pm,an,cdv,ct,osl,rfl,lk,hcd⟩:=F.ex
  exact fn_of lk hcd S len fun A outer s H vs Q E hr hsp=>hbody cdv A outer s H vs Q E hr hsp
structure Bn (mg : Str→Option Value) : Prop where
  len : mg "len" = none
  list : mg "list" = none
  isi : mg "isinstance" = none
  bool : mg "bool" = none
  int : mg "int" = none
  str : mg "str" = none
  tuple : mg "tuple" = none
  all : mg "all" = none
  any : mg "any" = none
  zip : mg "zip" = none
  range : mg "range" = none
  max : mg "max" = none
  min : mg "min" = none
  enumerate : mg "enumerate" = none
  sum : mg "sum" = none
  sorted : mg "sorted" = none
  verr : mg "ValueError" = none
def KeepBut (a : Addr) (H H' : Hp) : Prop:=∀ b o,b≠a→H b=some o→H' b=some o
theorem KeepBut.refl {a : Addr} {H : Hp} : KeepBut a H H:=fun _ _ _ h=>h
theorem KeepBut.trans {a : Addr} {H H1 H2 : Hp} (x : KeepBut a H H1) (y : KeepBut a H1 H2) : KeepBut a H H2:=fun b o n h=>y b o n (x b o n h)
theorem KeepBut.upd {a : Addr} {H H1 : Hp} {o : HO} (x : KeepBut a H H1) : KeepBut a H (L2.upd H1 a o):=fun b u n h=>by rw [upd_ne n]; exact x b u n h
theorem KeepBut.new {a p : Addr} {H H1 : Hp} {o : HO} (x : KeepBut a H H1) (hp : H1 p=none) : KeepBut a H (L2.upd H1 p o):=fun b u n h=>by
  have:=x b u n h
  rw [upd_ne (ne_of_none this hp)]; exact this
theorem KeepBut.young {a p : Addr} {H H1 : Hp} {o : HO} (x : KeepBut a H H1) (hp : H p=none) : KeepBut a H (L2.upd H1 p o):=fun b u n h=>by
  rw [upd_ne (ne_of_none h hp)]; exact x b u n h
theorem KeepBut.none {a p : Addr} {H H' : Hp} (k : KeepBut a H H') (n : p≠a) (h : H' p=Option.none) : H p=Option.none:=by
  cases q : H p with
  | none=>rfl
  | some o=>rw [k p o n q] at h; cases h
theorem Same.young {p : Addr} {H H1 : Hp} {o : HO} (x : Same H H1) (hp : H p=none) : Same H (L2.upd H1 p o):=fun b u h=>by
  rw [upd_ne (ne_of_none h hp)]; exact x b u h
def Draw (H : Hp) (a c : Addr) (ns : List Int) (i x y z : Int) : Prop:=H a=some (.lst [.ref c,.int i,.int x,.int y,.int z])∧H c=some (.lst (ns.map V.int))∧c≠a∧0≤i∧0≤y∧y < 1000000007
def DrawAt (H : Hp) (a c : Addr) : Prop:=∃ ns i x y z,Draw H a c ns i x y z
theorem DrawAt.new {H : Hp} {a c p : Addr} {o : HO} (d : DrawAt H a c) (hp : H p=none) : DrawAt (L2.upd H p o) a c:=by
  obtain ⟨ns,i,x,y,z,h1,h2,r⟩:=d
  exact ⟨ns,i,x,y,z,by rw [upd_ne (ne_of_none h1 hp)]; exact h1,by rw [upd_ne (ne_of_none h2 hp)]; exact h2,r⟩
theorem DrawAt.upd {H : Hp} {a c p : Addr} {o : HO} (d : DrawAt H a c) (na : p≠a) (nc : p≠c) : DrawAt (L2.upd H p o) a c:=by
  obtain ⟨ns,i,x,y,z,h1,h2,r⟩:=d
  exact ⟨ns,i,x,y,z,by rw [upd_ne na.symm]; exact h1,by rw [upd_ne nc.symm]; exact h2,r⟩
theorem DrawAt.there {H : Hp} {a c : Addr} (d : DrawAt H a c) : ∃ o,H a=some o:=by
  obtain ⟨ns,i,x,y,z,h1,_⟩:=d
  exact ⟨_,h1⟩
theorem DrawAt.ne {H : Hp} {a c p : Addr} (d : DrawAt H a c) (hp : H p=none) : p≠a:=by
  obtain ⟨o,e⟩:=d.there
  exact (ne_of_none e hp).symm
theorem DrawAt.nc {H : Hp} {a c p : Addr} (d : DrawAt H a c) (hp : H p=none) : p≠c:=by
  obtain ⟨ns,i,x,y,z,_,h2,_⟩:=d
  exact (ne_of_none h2 hp).symm
theorem DrawAt.neT {H : Hp} {a c p : Addr} {xs : List V} (d : DrawAt H a c) (hp : H p=some (.tup xs)) : p≠a:=by
  obtain ⟨_,_,_,_,_,h,_⟩:=d
  exact ne_of hp h (by intro z; cases z)
def spBegin (K : PySem.W.Frag) : Sp:=fun vs H Q _=>∃ (a : Addr) (ns : List Int),vs=[.ref a]∧SqL K H a (ns.map V.int)∧ns.length≤63∧∀ l c H',H l=none→H c=none→Same H H'→DrawAt H' l c→Q (.ref l) H'
def spPick : Sp:=fun vs H Q _=>∃ (a c : Addr) (m : Int),vs=[.ref a,.int m]∧DrawAt H a c∧0 < m∧m < 18446744073709551616∧∀ r H',0≤r→r < m→DrawAt H' a c→KeepBut a H H'→Q (.int r) H'
theorem cut_ints (ns : List Int) (lo hi : Option Int) : ∃ ms : List Int,cutV (ns.map V.int) lo hi=ms.map V.int∧ms.length≤ns.length:=by
  unfold cutV
  rw [← List.map_drop,← List.map_take]
  exact ⟨_,rfl,by rw [List.length_take,List.length_drop]; omega⟩
theorem atI_some {xs : List V} {r : Int} {v : V} (h0 : 0≤r) (h : xs[r.toNat]? = some v) : atI xs r=some v:=by
  have:=atI_nat (xs:=xs) (j:=r.toNat) (v:=v) h
  rw [show ((r.toNat : Nat) : Int)=r by omega] at this
  exact this
def Rows (H : Hp) (a : Addr) (rs : List (List Int)) : Prop:=∃ ps : List Addr,H a=some (.lst (ps.map V.ref))∧ps.length=rs.length∧∀ (i : Nat) p r,ps[i]? = some p→rs[i]? = some r→H p=some (.tup (r.map V.int))
theorem Rows.same {H H' : Hp} {a : Addr} {rs : List (List Int)} (h : Rows H a rs) (s : Same H H') : Rows H' a rs:=by
  obtain ⟨ps,h1,h2,h3⟩:=h
  exact ⟨ps,s _ _ h1,h2,fun i p r e1 e2=>s _ _ (h3 i p r e1 e2)⟩
theorem Rows.keep {H H' : Hp} {a l c : Addr} {rs : List (List Int)} (h : Rows H a rs) (n : a≠l) (d : DrawAt H l c) (k : KeepBut l H H') : Rows H' a rs:=by
  obtain ⟨ps,h1,h2,h3⟩:=h
  exact ⟨ps,k _ _ n h1,h2,fun i p r e1 e2=>k _ _ (d.neT (h3 i p r e1 e2)) (h3 i p r e1 e2)⟩
theorem Rows.there {H : Hp} {a : Addr} {rs : List (List Int)} (h : Rows H a rs) : ∃ o,H a=some o:=by
  obtain ⟨ps,h1,_⟩:=h
  exact ⟨_,h1⟩
theorem Rows.get {H : Hp} {a : Addr} {rs : List (List Int)} (h : Rows H a rs) : ∃ xs : List V,H a=some (.lst xs)∧xs.length=rs.length∧∀ (i : Nat) x,xs[i]? = some x→∃ p r,x = .ref p∧rs[i]? = some r∧H p=some (.tup (r.map V.int)):=by
  obtain ⟨ps,h1,h2,h3⟩:=h
  refine ⟨_,h1,by rw [List.length_map,h2],fun i x e=>?_⟩
  rw [List.getElem?_map] at e
  cases q : ps[i]? with
  | none=>rw [q] at e; cases e
  | some p=>
    rw [q] at e
    have hi:=(List.getElem?_eq_some_iff.mp q).1
    have hr : rs[i]? = some (rs[i]'(by omega)):=List.getElem?_eq_getElem (by omega)
    exact ⟨p,_,(Option.some.inj e).symm,hr,h3 i p _ q hr⟩
theorem Rows.push {H : Hp} {a p : Addr} {rs : List (List Int)} {xs : List V} {r : List Int} (h : Rows H a rs) (hx : H a=some (.lst xs)) (hp : H p=none) : Rows (L2.upd (L2.upd H p (.tup (r.map V.int))) a (.lst (xs ++ [.ref p]))) a (rs ++ [r]):=by
  obtain ⟨ps,h1,h2,h3⟩:=h
  rw [hx] at h1
  cases h1
  refine ⟨ps ++ [p],by rw [upd_same,List.map_append]; rfl,by rw [List.length_append,List.length_append,h2]; rfl,fun i q r' e1 e2=>?_⟩
  by_cases hi : i < ps.length
  · rw [List.getElem?_append_left hi] at e1
    rw [List.getElem?_append_left (by omega)] at e2
    have:=h3 i q r' e1 e2
    rw [upd_ne (ne_of this hx (by intro z; cases z)),upd_ne (ne_of_none this hp)]
    exact this
  · have hi' : i=ps.length:=by
      have:=(List.getElem?_eq_some_iff.mp e1).1
      rw [List.length_append,List.length_singleton] at this
      omega
    subst hi'
    rw [List.getElem?_append_right (Nat.le_refl _),Nat.sub_self] at e1
    rw [h2,List.getElem?_append_right (Nat.le_refl _),Nat.sub_self] at e2
    cases e1
    cases e2
    rw [upd_ne (ne_of_none hx hp).symm,upd_same]
theorem Rows.nil {H : Hp} {a : Addr} (h : H a=some (.lst [])) : Rows H a []:=⟨[],h,rfl,fun i p r e=>by cases e⟩
def LotIn (lo n sc : Int) (r : List Int) : Prop:=∃ d c u : Int,r=[d,c,u]∧lo≤d∧d < lo + n∧1≤c∧c≤sc∧1≤u∧u≤1000000
def OutIn (lo n sc : Int) (r : List Int) : Prop:=∃ d c : Int,r=[d,c]∧lo≤d∧d < lo + n∧1≤c∧c≤sc
def spLots : Sp:=fun vs H Q _=>∃ (a c p : Addr) (m lo n sc : Int),vs=[.ref a,.int m,.ref p,.int sc]∧DrawAt H a c∧0≤m∧m≤900∧H p=some (.tup [.int lo,.int n])∧1≤n∧n≤999∧1≤sc∧sc≤10000000000∧
  ∀ l rs H',H l=none→(∀ r∈rs,LotIn lo n sc r)→(rs.length : Int)≤m→DrawAt H' a c→KeepBut a H H'→Rows H' l rs→Q (.ref l) H'
def spOuts : Sp:=fun vs H Q _=>∃ (a c p : Addr) (m lo n sc : Int),vs=[.ref a,.int m,.ref p,.int sc]∧DrawAt H a c∧0≤m∧m≤900∧H p=some (.tup [.int lo,.int n])∧1≤n∧n≤999∧1≤sc∧sc≤10000000000∧
  ∀ l rs H',H l=none→(∀ r∈rs,OutIn lo n sc r)→(rs.length : Int)≤m→DrawAt H' a c→KeepBut a H H'→Rows H' l rs→Q (.ref l) H'
end L2
namespace K11
open PySem L2
def top (i : Nat) : Stmt:=PySem.Challenge.pw_drawback_k11_whole_most_units_at_each_du.main.body.getD i (.Pass ⟨0,0,0,0⟩)
abbrev s_begin : Stmt:=top 36
abbrev n_begin : List Str:=["_law_script"]
abbrev p_begin : List Str:=["_law_script"]
theorem sc_begin : FnScope n_begin p_begin (defScope s_begin):=⟨rfl,rfl,rfl,by decide +kernel,rfl,by decide +kernel,by decide +kernel⟩
abbrev s_pick : Stmt:=top 37
abbrev n_pick : List Str:=["_law_draw","_law_many","_law_cell","_law_got"]
abbrev p_pick : List Str:=["_law_draw","_law_many"]
theorem sc_pick : FnScope n_pick p_pick (defScope s_pick):=⟨rfl,rfl,rfl,by decide +kernel,rfl,by decide +kernel,by decide +kernel⟩
abbrev s_some_lots : Stmt:=top 38
abbrev n_some_lots : List Str:=["_law_draw","_law_most","_law_days","_law_scale","_law_dear","_law_found","_law_k","_law_day","_law_count"]
abbrev p_some_lots : List Str:=["_law_draw","_law_most","_law_days","_law_scale"]
theorem sc_some_lots : FnScope n_some_lots p_some_lots (defScope s_some_lots):=⟨rfl,rfl,rfl,by decide +kernel,rfl,by decide +kernel,by decide +kernel⟩
abbrev s_some_outs : Stmt:=top 39
abbrev n_some_outs : List Str:=["_law_draw","_law_most","_law_days","_law_scale","_law_found","_law_k","_law_day"]
abbrev p_some_outs : List Str:=["_law_draw","_law_most","_law_days","_law_scale"]
theorem sc_some_outs : FnScope n_some_outs p_some_outs (defScope s_some_outs):=⟨rfl,rfl,rfl,by decide +kernel,rfl,by decide +kernel,by decide +kernel⟩
section
variable {P : Program} {w : World} {K : PySem.W.Frag} {mg : Str→Option Value} {base : Heap} {f : Addr} {fd : FuncData}
theorem ok_begin (F : Fun K "_law_begin" "_law_begin" s_begin f fd) (B : Bn mg) : FnOk P w K mg base CX0 1 f fd p_begin (spBegin K):=by
  refine F.ok sc_begin (fun vs H Q E h=>?_) (fun cdv A outer s H vs Q E hr h=>?_)
  · obtain ⟨a,ns,rfl,_⟩:=h; rfl
  obtain ⟨a,ns,rfl,hS,hl,q⟩:=h
  refine ⟨_,(pss_one (ps_ret (pe_lst (pa_c (pe_callTy call_list_of rfl B.list PyProof.Rows.boot_list (pa_c (pe_slice sl_list (pv 0) po_none (po_some pe_int)) pa_nil)) (pa_c pe_int (pa_c pe_int (pa_c pe_int (pa_c pe_int pa_nil)))))))),?_⟩
  refine ⟨_,rfl,_,rfl,a,_,rfl,hS,fun p hp=>?_⟩
  obtain ⟨ms,em,hm⟩:=cut_ints ns none (some 63)
  refine ⟨p,_,rfl,.inl (SqL.of upd_same),fun c hc=>?_⟩
  refine ⟨by show 5≤sizeLine; decide,fun l hl'=>?_⟩
  have s1 : Same H (L2.upd H p (.lst (cutV (ns.map V.int) none (some 63)))):=same_new hp _
  have s2:=s1.trans (same_new hc (.lst (cutV (ns.map V.int) none (some 63))))
  have s3:=s2.trans (same_new hl' (.lst [.ref c,.int 0,.int 0,.int 1,.int 0]))
  have ncl : c≠l:=ne_of_none (upd_same (H:=L2.upd H p _) (o:=.lst (cutV (ns.map V.int) none (some 63)))) hl'
  refine q l c _ (s2.free hl') (s1.free hc) s3 ⟨ms,0,0,1,0,upd_same,?_,ncl,by decide,by decide,by decide⟩
  rw [upd_ne ncl,upd_same,em]
theorem ok_pick (F : Fun K "_law_pick" "_law_pick" s_pick f fd) (B : Bn mg) : FnOk P w K mg base CX0 1 f fd p_pick spPick:=by
  refine F.ok sc_pick (fun vs H Q E h=>?_) (fun cdv A outer s H vs Q E hr h=>?_)
  · obtain ⟨a,c,m,rfl,_⟩:=h; rfl
  obtain ⟨a,c,m,rfl,⟨ns,i,x,y,z,d1,d2,nca,hi,hy,hy2⟩,hm,hm2,q⟩:=h
  refine ⟨_,(pss_cons (ps_if (PW.pt (pw_and (pt_cmpR op_lt (pe_ix ix_list (pv 0) pe_int (fun _ _=>rfl)) (pv 1) (nomark _)) (pw_and1 (pt_cmpR op_lt (pe_ix ix_list (pv 0) pe_int (fun _ _=>rfl)) (pe_callB call_len_seq rfl B.len PySem.boot_len (pa_c (pe_ix ix_list (pv 0) pe_int (fun _ _=>rfl)) pa_nil)) (nomark _))))) (pss_cons (ps_set (i:=2) sc_pick.nd rfl (Or.inl rfl) (pe_ix ix_list (pe_ix ix_list (pv 0) pe_int (fun _ _=>rfl)) (pe_ix ix_list (pv 0) pe_int (fun _ _=>rfl)) (fun _ _=>rfl)))
      (pss_cons (ps_asg (pe_op op_add (pe_ix ix_list (pv 0) pe_int (fun _ _=>rfl)) pe_int) (pg_sub (pv 0) pe_int set_list))
      (pss_cons (ps_asg pe_int (pg_sub (pv 0) pe_int set_list))
      (pss_one (ps_if (pt_cmpR op_ge (pv 2) (pe_op op_pow pe_int pe_int) (nomark _)) (pss_one (ps_asg (pv 2) (pg_sub (pv 0) pe_int set_list))) (pss_one (ps_asg (pe_op op_mod (pe_op op_add (pe_ix ix_list (pv 0) pe_int (fun _ _=>rfl)) (pv 2)) pe_int) (pg_sub (pv 0) pe_int set_list)))))))) pss_nil)
    (pss_cons (ps_if (pt_cmpR op_ge (pe_ix ix_list (pv 0) pe_int (fun _ _=>rfl)) (pv 1) (nomark _)) (pss_cons (ps_set (i:=3) sc_pick.nd rfl (Or.inl rfl) (pe_op op_mod (pe_ix ix_list (pv 0) pe_int (fun _ _=>rfl)) (pv 1)))
      (pss_cons (ps_asg (pe_op op_fdivL (pe_ix ix_list (pv 0) pe_int (fun _ _=>rfl)) (pv 1)) (pg_sub (pv 0) pe_int set_list))
      (pss_one (ps_ret (pv 3))))) pss_nil)
    (pss_cons (ps_asg (pe_op op_add (pe_ix ix_list (pv 0) pe_int (fun _ _=>rfl)) pe_int) (pg_sub (pv 0) pe_int set_list))
    (pss_cons (ps_asg (pe_op op_mod (pe_op op_add (pe_op op_add (pe_op op_pow (pe_ix ix_list (pv 0) pe_int (fun _ _=>rfl)) pe_int) (pe_op op_mul pe_int (pe_ix ix_list (pv 0) pe_int (fun _ _=>rfl)))) pe_int) pe_int) (pg_sub (pv 0) pe_int set_list))
    (pss_one (ps_ret (pe_op op_mod (pe_op op_fdivL (pe_ix ix_list (pv 0) pe_int (fun _ _=>rfl)) pe_int) (pv 1)))))))),?_⟩
  refine (show ∀ (u : TS),(∀ (cv : Option V) (H1 : Hp) (i x y z : Int),Draw H1 a c ns i x y z→KeepBut a H H1→u { nx:=fun _ H'=>Q .non H',rt:=Q } [some (.ref a),some (.int m),cv,none] H1)→tSeq _ u _ _ _ from fun u hu=>?_) _ ?_
  · -- if draw[2] < many and draw[1] < len(draw[0])
    refine ⟨_,rfl,a,_,_,.int x,rfl,rfl,SqL.of d1,rfl,_,rfl,_,_,rfl,rfl,_,rfl,?_⟩
    by_cases c1 : x < m
    · rw [decide_eq_true c1]
      refine iteT ⟨_,rfl,a,_,_,.int i,rfl,rfl,SqL.of d1,rfl,_,rfl,a,_,_,.ref c,rfl,rfl,SqL.of d1,rfl,c,_,rfl,.inl (SqL.of d2),_,_,rfl,rfl,_,rfl,?_⟩
      rw [List.length_map]
      by_cases c2 : i < (ns.length : Int)
      · rw [decide_eq_true c2]
        have hk : i.toNat < ns.length:=by omega
        have ei : ((i.toNat : Nat) : Int)=i:=by omega
        have eat : atI (ns.map V.int) i=some (.int ns[i.toNat]):=by
          have:=atI_nat (xs:=ns.map V.int) (j:=i.toNat) (v:=.int ns[i.toNat]) (by rw [List.getElem?_map,List.getElem?_eq_getElem hk]; rfl)
          rw [ei] at this; exact this
        refine iteT ⟨_,rfl,a,_,_,.ref c,rfl,rfl,SqL.of d1,rfl,_,rfl,a,_,_,.int i,rfl,rfl,SqL.of d1,rfl,c,_,_,.int ns[i.toNat],rfl,rfl,SqL.of d2,eat,?_⟩
        generalize ns[i.toNat]=v
        refine ⟨_,rfl,a,_,_,.int i,rfl,rfl,SqL.of d1,rfl,_,_,rfl,rfl,_,rfl,a,_,_,1,rfl,rfl,d1,rfl,?_⟩
        refine ⟨_,rfl,a,_,_,2,rfl,rfl,upd_same,rfl,?_⟩
        rw [upd_upd]
        have e2 : L2.upd H a (.lst [.ref c,.int (i + 1),.int 0,.int y,.int z]) c=some (.lst (ns.map V.int)):=by rw [upd_ne nca]; exact d2
        refine ⟨_,rfl,_,_,rfl,rfl,⟨by decide,by decide,by decide⟩,_,_,rfl,rfl,_,rfl,?_⟩
        refine ite2 (fun _=>?_) (fun _=>?_)
        · refine ⟨_,rfl,_,rfl,a,_,_,2,rfl,rfl,upd_same,rfl,?_⟩
          rw [upd_upd]
          exact hu _ _ (i + 1) v y z ⟨upd_same,by rw [upd_ne nca]; exact d2,nca,by omega,hy,hy2⟩ KeepBut.refl.upd
        · refine ⟨_,rfl,a,_,_,.int y,rfl,rfl,SqL.of upd_same,rfl,_,rfl,_,_,rfl,rfl,_,_,rfl,rfl,(by show (0 : Int) < 1000000007; decide),_,rfl,a,_,_,3,rfl,rfl,upd_same,rfl,?_⟩
          rw [upd_upd]
          exact hu _ _ (i + 1) 0 ((y + v) % 1000000007) z ⟨upd_same,by rw [upd_ne nca]; exact d2,nca,by omega,by omega,by omega⟩ KeepBut.refl.upd
      · rw [decide_eq_false c2]
        exact iteF (hu _ H i x y z ⟨d1,d2,nca,hi,hy,hy2⟩ KeepBut.refl)
    · rw [decide_eq_false c1]
      exact iteF (iteF (hu _ H i x y z ⟨d1,d2,nca,hi,hy,hy2⟩ KeepBut.refl))
  · -- the rest
    clear d1 d2 hi hy hy2 i x y z
    rintro cv H1 i x y z ⟨d1,d2,_,hi,hy,hy2⟩ kb
    refine ⟨_,rfl,a,_,_,.int x,rfl,rfl,SqL.of d1,rfl,_,rfl,_,_,rfl,rfl,_,rfl,?_⟩
    by_cases c1 : m≤x
    · rw [decide_eq_true c1]
      refine iteT ⟨_,rfl,a,_,_,.int x,rfl,rfl,SqL.of d1,rfl,_,rfl,_,_,rfl,rfl,hm,?_⟩
      refine ⟨_,rfl,a,_,_,.int x,rfl,rfl,SqL.of d1,rfl,_,rfl,_,_,rfl,rfl,⟨hm,hm2⟩,_,rfl,a,_,_,2,rfl,rfl,d1,rfl,?_⟩
      refine ⟨_,rfl,?_⟩
      exact q _ _ (Int.emod_nonneg _ (by omega)) (Int.emod_lt_of_pos _ hm) ⟨ns,i,x / m,y,z,upd_same,by rw [upd_ne nca]; exact d2,nca,hi,hy,hy2⟩ kb.upd
    · rw [decide_eq_false c1]
      refine iteF ?_
      refine ⟨_,rfl,a,_,_,.int z,rfl,rfl,SqL.of d1,rfl,_,_,rfl,rfl,_,rfl,a,_,_,4,rfl,rfl,d1,rfl,?_⟩
      refine ⟨_,rfl,a,_,_,.int y,rfl,rfl,SqL.of upd_same,rfl,_,_,rfl,rfl,⟨by decide,by decide,by omega⟩,_,rfl,a,_,_,.int (z + 1),rfl,rfl,SqL.of upd_same,rfl,_,_,rfl,rfl,.inl ⟨by decide,by decide⟩,_,_,rfl,rfl,_,_,rfl,rfl,_,_,rfl,rfl,(by show (0 : Int) < 1000000007; decide),_,rfl,a,_,_,3,rfl,rfl,upd_same,rfl,?_⟩
      rw [upd_upd]
      have hy4 : 0≤(y ^ (3 : Int).toNat + 40503 * (z + 1) + 17) % 1000000007∧(y ^ (3 : Int).toNat + 40503 * (z + 1) + 17) % 1000000007 < 1000000007:=⟨Int.emod_nonneg _ (by decide),Int.emod_lt_of_pos _ (by decide)⟩
      refine ⟨_,rfl,a,_,_,.int ((y ^ (3 : Int).toNat + 40503 * (z + 1) + 17) % 1000000007),rfl,rfl,SqL.of upd_same,rfl,_,_,rfl,rfl,⟨by decide,by decide⟩,_,rfl,_,_,rfl,rfl,hm,?_⟩
      exact q _ _ (Int.emod_nonneg _ (by omega)) (Int.emod_lt_of_pos _ hm) ⟨ns,i,x,(y ^ (3 : Int).toNat + 40503 * (z + 1) + 17) % 1000000007,z + 1,upd_same,by rw [upd_ne nca]; exact d2,nca,hi,hy4.1,hy4.2⟩ kb.upd
variable (B : Bn mg) (G_pick : Cal P w K mg base CX0 1 "_law_pick" p_pick spPick)
include B G_pick
theorem ok_some_lots (F : Fun K "_law_some_lots" "_law_some_lots" s_some_lots f fd) : FnOk P w K mg base CX0 2 f fd p_some_lots spLots:=by
  refine F.ok sc_some_lots (fun vs H Q E h=>?_) (fun cdv A outer s H vs Q E hr h=>?_)
  · obtain ⟨a,c,p,m,lo,n,sc,rfl,_⟩:=h; rfl
  obtain ⟨a,c,p,m,lo,n,sc,rfl,d,m0,m1,hp,n0,n1,s0,s1,q⟩:=h
  refine ⟨_,(pss_cons (ps_set (i:=4) sc_some_lots.nd rfl (Or.inl rfl) (pe_ix ix_tup (pe_tup (pa_c pe_int (pa_c pe_int (pa_c pe_int (pa_c (pe_op op_pow pe_int pe_int) pa_nil))))) (pe_cal G_pick hr rfl pass0 (pa_c (pv 0) (pa_c pe_int pa_nil))) (fun _ _=>rfl)))
    (pss_cons (ps_set (i:=5) sc_some_lots.nd rfl (Or.inl rfl) (pe_lst pa_nil))
    (pss_cons (ps_for PassesOwn.never rfl (pi_range1 rfl B.range (pa_c (pe_cal G_pick hr rfl pass0 (pa_c (pv 0) (pa_c (pe_op op_add (pv 1) pe_int) pa_nil))) pa_nil)) (pg_name (i:=6) sc_some_lots.nd rfl (Or.inl rfl)) (pss_cons (ps_set (i:=7) sc_some_lots.nd rfl (Or.inl rfl) (pe_op op_add (pe_ix ix_tup (pv 2) pe_int (fun _ _=>rfl)) (pe_cal G_pick hr rfl pass0 (pa_c (pv 0) (pa_c (pe_ix ix_tup (pv 2) pe_int (fun _ _=>rfl)) pa_nil)))))
      (pss_cons (ps_set (i:=8) sc_some_lots.nd rfl (Or.inl rfl) (pe_op op_add pe_int (pe_cal G_pick hr rfl pass0 (pa_c (pv 0) (pa_c (pv 3) pa_nil)))))
      (pss_one (ps_expr (pe_bm PySem.F.plainAttrs_list PySem.F.slot_list_append PySem.F.type_list_append mt_append (pv 5) (pa_c (pe_tup (pa_c (pv 7) (pa_c (pv 8) (pa_c (pe_op op_add pe_int (pe_cal G_pick hr rfl pass0 (pa_c (pv 0) (pa_c (pv 4) pa_nil)))) pa_nil)))) pa_nil)))))))
    (pss_one (ps_ret (pv 5)))))),?_⟩
  refine ⟨_,_,rfl,rfl,⟨by decide,by decide,by decide⟩,by show 4≤sizeLine; decide,fun p0 hp0=>?_⟩
  refine ⟨_,rfl,a,c,4,rfl,d.new hp0,by decide,by decide,fun r1 H1 a1 c1 d1 kb1=>?_⟩
  have ht:=kb1 p0 _ (d.ne hp0) upd_same
  have hv : ∃ v,atI [V.int 2,.int 5,.int 40,.int (10 ^ (6 : Int).toNat)] r1=some (.int v)∧1≤v∧v≤1000000:=by
    have : r1=0∨r1=1∨r1=2∨r1=3:=by omega
    rcases this with rfl | rfl | rfl | rfl
    · exact ⟨2,rfl,by omega,by omega⟩
    · exact ⟨5,rfl,by omega,by omega⟩
    · exact ⟨40,rfl,by omega,by omega⟩
    · exact ⟨1000000,rfl,by omega,by omega⟩
  obtain ⟨dear,ev,v0,v1⟩:=hv
  refine ⟨p0,_,_,.int dear,rfl,rfl,SqT.of ht,ev,?_⟩
  refine ⟨by show 0≤sizeLine; decide,fun l hl=>?_⟩
  have k1 : KeepBut a H H1:=(KeepBut.refl.new hp0).trans kb1
  have fl : H l=none:=k1.none (d1.ne hl) hl
  have dl:=d1.new (o:=.lst []) hl
  have pa : p≠a:=d.neT hp
  refine ⟨_,rfl,_,rfl,_,_,rfl,rfl,a,c,m + 1,rfl,dl,by omega,by omega,fun r2 H2 a2 c2 d2 kb2=>?_⟩
  have k2 : KeepBut a H H2:=(k1.new hl).trans kb2
  have hl2:=kb2 l _ (d1.ne hl) upd_same
  refine ⟨r2,rfl,by omega,by omega,for_range (n:=r2.toNat) (fun i σ H3=>∃ o6 o7 o8 rs,σ=[some (.ref a),some (.int m),some (.ref p),some (.int sc),some (.int dear),some (.ref l),o6,o7,o8]∧DrawAt H3 a c∧KeepBut a H H3∧Rows H3 l rs∧rs.length=i∧∀ r∈rs,LotIn lo n sc r) ⟨_,_,_,[],rfl,d2,k2,Rows.nil hl2,rfl,fun r hr=>by cases hr⟩ ?_ ?_⟩
  · rintro i σ H3 hi ⟨o6,o7,o8,rs,rfl,d3,k3,hR,hlen,hall⟩
    refine ⟨_,rfl,p,_,_,.int lo,rfl,rfl,SqT.of (k3 p _ pa hp),rfl,?_⟩
    refine ⟨_,rfl,_,rfl,p,_,_,.int n,rfl,rfl,SqT.of (k3 p _ pa hp),rfl,a,c,n,rfl,d3,by omega,by omega,fun x1 H4 a4 c4 d4 kb4=>⟨_,_,rfl,rfl,?_⟩⟩
    refine ⟨_,rfl,_,rfl,a,c,sc,rfl,d4,by omega,by omega,fun x2 H5 a5 c5 d5 kb5=>⟨_,_,rfl,rfl,?_⟩⟩
    have nla : l≠a:=d1.ne hl
    have R5:=(hR.keep nla d3 kb4).keep nla d4 kb5
    refine ⟨_,rfl,.inl ⟨rfl,?_⟩,?_⟩
    · obtain ⟨xs,e,_⟩:=R5.get
      exact ⟨_,SqL.of e⟩
    refine ⟨_,rfl,_,rfl,_,rfl,_,rfl,a,c,dear,rfl,d5,by omega,by omega,fun x3 H6 a6 c6 d6 kb6=>⟨_,_,rfl,rfl,by show 3≤sizeLine; decide,fun t ht=>?_⟩⟩
    have R6:=R5.keep nla d5 kb6
    obtain ⟨xs,ex,exl,_⟩:=R6.get
    refine ⟨l,xs,.ref t,rfl,rfl,by rw [upd_ne (ne_of_none ex ht)]; exact ex,small1000 (by omega),?_⟩
    have k6 : KeepBut a H H6:=((k3.trans kb4).trans kb5).trans kb6
    have dn:=(d6.new (o:=.tup [.int (lo + x1),.int (1 + x2),.int (1 + x3)]) ht).upd (o:=.lst (xs ++ [.ref t])) nla (d1.nc hl)
    refine ⟨_,_,_,rs ++ [[lo + x1,1 + x2,1 + x3]],rfl,dn,(k6.new ht).young fl,R6.push (r:=[lo + x1,1 + x2,1 + x3]) ex ht,by rw [List.length_append,hlen]; rfl,fun r hr=>?_⟩
    rcases List.mem_append.mp hr with z | z
    · exact hall r z
    · rw [List.mem_singleton.mp z]
      exact ⟨_,_,_,rfl,by omega,by omega,by omega,by omega,by omega,by omega⟩
  · rintro σ H3 ⟨o6,o7,o8,rs,rfl,d3,k3,hR,hlen,hall⟩
    exact ⟨_,rfl,q l rs H3 fl hall (by omega) d3 k3 hR⟩
theorem ok_some_outs (F : Fun K "_law_some_outs" "_law_some_outs" s_some_outs f fd) : FnOk P w K mg base CX0 2 f fd p_some_outs spOuts:=by
  refine F.ok sc_some_outs (fun vs H Q E h=>?_) (fun cdv A outer s H vs Q E hr h=>?_)
  · obtain ⟨a,c,p,m,lo,n,sc,rfl,_⟩:=h; rfl
  obtain ⟨a,c,p,m,lo,n,sc,rfl,d,m0,m1,hp,n0,n1,s0,s1,q⟩:=h
  refine ⟨_,(pss_cons (ps_set (i:=4) sc_some_outs.nd rfl (Or.inl rfl) (pe_lst pa_nil))
    (pss_cons (ps_for PassesOwn.never rfl (pi_range1 rfl B.range (pa_c (pe_cal G_pick hr rfl pass0 (pa_c (pv 0) (pa_c (pe_op op_add (pv 1) pe_int) pa_nil))) pa_nil)) (pg_name (i:=5) sc_some_outs.nd rfl (Or.inl rfl)) (pss_cons (ps_set (i:=6) sc_some_outs.nd rfl (Or.inl rfl) (pe_op op_add (pe_ix ix_tup (pv 2) pe_int (fun _ _=>rfl)) (pe_cal G_pick hr rfl pass0 (pa_c (pv 0) (pa_c (pe_ix ix_tup (pv 2) pe_int (fun _ _=>rfl)) pa_nil)))))
      (pss_one (ps_expr (pe_bm PySem.F.plainAttrs_list PySem.F.slot_list_append PySem.F.type_list_append mt_append (pv 4) (pa_c (pe_tup (pa_c (pv 6) (pa_c (pe_op op_add pe_int (pe_cal G_pick hr rfl pass0 (pa_c (pv 0) (pa_c (pv 3) pa_nil)))) pa_nil))) pa_nil))))))
    (pss_one (ps_ret (pv 4))))),?_⟩
  refine ⟨by show 0≤sizeLine; decide,fun l hl=>?_⟩
  have nla : l≠a:=d.ne hl
  have pa : p≠a:=d.neT hp
  refine ⟨_,rfl,_,rfl,_,_,rfl,rfl,a,c,m + 1,rfl,d.new hl,by omega,by omega,fun r2 H2 a2 c2 d2 kb2=>?_⟩
  have k2 : KeepBut a H H2:=(KeepBut.refl.new hl).trans kb2
  have hl2:=kb2 l _ nla upd_same
  refine ⟨r2,rfl,by omega,by omega,for_range (n:=r2.toNat) (fun i σ H3=>∃ o6 o7 rs,σ=[some (.ref a),some (.int m),some (.ref p),some (.int sc),some (.ref l),o6,o7]∧DrawAt H3 a c∧KeepBut a H H3∧Rows H3 l rs∧rs.length=i∧∀ r∈rs,OutIn lo n sc r) ⟨_,_,[],rfl,d2,k2,Rows.nil hl2,rfl,fun r hr=>by cases hr⟩ ?_ ?_⟩
  · rintro i σ H3 hi ⟨o6,o7,rs,rfl,d3,k3,hR,hlen,hall⟩
    refine ⟨_,rfl,p,_,_,.int lo,rfl,rfl,SqT.of (k3 p _ pa hp),rfl,?_⟩
    refine ⟨_,rfl,_,rfl,p,_,_,.int n,rfl,rfl,SqT.of (k3 p _ pa hp),rfl,a,c,n,rfl,d3,by omega,by omega,fun x1 H4 a4 c4 d4 kb4=>⟨_,_,rfl,rfl,?_⟩⟩
    have R5:=hR.keep nla d3 kb4
    refine ⟨_,rfl,.inl ⟨rfl,?_⟩,?_⟩
    · obtain ⟨xs,e,_⟩:=R5.get
      exact ⟨_,SqL.of e⟩
    refine ⟨_,rfl,_,rfl,_,rfl,a,c,sc,rfl,d4,by omega,by omega,fun x3 H6 a6 c6 d6 kb6=>⟨_,_,rfl,rfl,by show 2≤sizeLine; decide,fun t ht=>?_⟩⟩
    have R6:=R5.keep nla d4 kb6
    obtain ⟨xs,ex,exl,_⟩:=R6.get
    refine ⟨l,xs,.ref t,rfl,rfl,by rw [upd_ne (ne_of_none ex ht)]; exact ex,small1000 (by omega),?_⟩
    have k6 : KeepBut a H H6:=(k3.trans kb4).trans kb6
    have dn:=(d6.new (o:=.tup [.int (lo + x1),.int (1 + x3)]) ht).upd (o:=.lst (xs ++ [.ref t])) nla (d.nc hl)
    refine ⟨_,_,rs ++ [[lo + x1,1 + x3]],rfl,dn,(k6.new ht).young hl,R6.push (r:=[lo + x1,1 + x3]) ex ht,by rw [List.length_append,hlen]; rfl,fun r hr=>?_⟩
    rcases List.mem_append.mp hr with z | z
    · exact hall r z
    · rw [List.mem_singleton.mp z]
      exact ⟨_,_,rfl,by omega,by omega,by omega,by omega⟩
  · rintro σ H3 ⟨o6,o7,rs,rfl,d3,k3,hR,hlen,hall⟩
    exact ⟨_,rfl,q l rs H3 hl hall (by omega) d3 k3 hR⟩
end
end K11
namespace L2
open PySem PySem.W PyProof.Rows
def okW {α : Type} (n : Nat) (lt : Nat→Nat→Bool) (Q : α→Prop) : KasT α→Prop
  | .ret a=>Q a
  | .ask i j k=>i < n∧j < n∧okW n lt Q (k (lt i j))
theorem okW_mono {α : Type} {n : Nat} {lt : Nat→Nat→Bool} {Q Q' : α→Prop} (h : ∀ a,Q a→Q' a) : ∀ {t : KasT α},okW n lt Q t→okW n lt Q' t
  | .ret a,q=>h a q
  | .ask _ _ _,⟨a,b,q⟩=>⟨a,b,okW_mono h q⟩
theorem okW_bind {α β : Type} {n : Nat} {lt : Nat→Nat→Bool} {Q : β→Prop} {f : α→KasT β} : ∀ {t : KasT α},okW n lt (fun a=>okW n lt Q (f a)) t→okW n lt Q (t.bind f)
  | .ret a,q=>q
  | .ask _ _ _,⟨a,b,q⟩=>⟨a,b,okW_bind q⟩
theorem okW_wp {α : Type} {n : Nat} {lt : Nat→Nat→Bool} {cmp : Nat→Nat→(Bool→Shared→Prop)→Shared→Prop} {s : Shared} (hc : ∀ i j C,i < n→j < n→C (lt i j) s→cmp i j C s) {Q : α→Shared→Prop} : ∀ {t : KasT α},okW n lt (fun a=>Q a s) t→t.kasWp cmp Q s
  | .ret _,q=>q
  | .ask i j _,⟨a,b,q⟩=>hc i j _ a b (okW_wp hc q)
structure Ordr (lt : Nat→Nat→Bool) : Prop where
  irr : ∀ i,lt i i=false
  tr : ∀ i j k,lt j i=false→lt k j=false→lt k i=false
  asy : ∀ i j,lt i j=true→lt j i=false
section
variable {n : Nat} {lt : Nat→Nat→Bool}
abbrev gA (p : Array Nat) (i : Nat) : Nat:=p.getD i 0
abbrev leA (lt : Nat→Nat→Bool) (i j : Nat) : Prop:=lt j i=false
def PermN (n : Nat) (p : Array Nat) : Prop:=p.toList.Perm (List.range n)
def Up (lt : Nat→Nat→Bool) (p : Array Nat) (m : Nat) : Prop:=∀ i j,i≤j→j < m→leA lt (gA p i) (gA p j)
def Down (lt : Nat→Nat→Bool) (p : Array Nat) (m : Nat) : Prop:=∀ i j,i≤j→j < m→leA lt (gA p j) (gA p i)
theorem gA_eq (p : Array Nat) (i : Nat) : gA p i=(p[i]?).getD 0:=by simp [gA]
theorem PermN.size {p : Array Nat} (h : PermN n p) : p.size=n:=by
  have:=List.Perm.length_eq h
  simpa using this
theorem PermN.below {p : Array Nat} (h : PermN n p) (h0 : 0 < n) (i : Nat) : gA p i < n:=by
  rw [gA_eq]
  cases e : p[i]? with
  | none=>exact h0
  | some v=>
    have hm : v∈p.toList:=by
      obtain ⟨hi,rfl⟩:=Array.getElem?_eq_some_iff.mp e
      simp
    exact List.mem_range.mp ((List.Perm.mem_iff h).mp hm)
theorem PermN.rev {p : Array Nat} (h : PermN n p) (i j : Nat) : PermN n (kas_rev p i j):=((mirror_perm p i j _).toList).trans h
theorem PermN.bub {p : Array Nat} (h : PermN n p) (k d : Nat) : PermN n (bubble p k d):=((bubble_perm p k d).toList).trans h
theorem gA_rev {p : Array Nat} {i j : Nat} (hj : j≤p.size) (k : Nat) : gA (kas_rev p i j) k=if i≤k∧k < j then gA p (i + j - 1 - k) else gA p k:=by
  rw [gA_eq,gA_eq,gA_eq]
  unfold kas_rev
  rw [getElem?_mirror_all hj]
  split <;> rfl
theorem gA_bub {p : Array Nat} {src d : Nat} (hs : src < p.size) (hd : d≤src) (k : Nat) : gA (bubble p src d) k=if k=src - d then gA p src else if src - d < k∧k≤src then gA p (k - 1) else gA p k:=by
  rw [gA_eq,gA_eq,gA_eq,gA_eq,getElem?_bubble hs d hd]
  split
  · rfl
  · split <;> rfl
variable (O : Ordr lt)
include O
theorem up_succ {p : Array Nat} {m : Nat} (h : Up lt p m) (h1 : 1≤m) (c : leA lt (gA p (m - 1)) (gA p m)) : Up lt p (m + 1):=by
  intro i j hij hj
  by_cases e : j < m
  · exact h i j hij e
  · have : j=m:=by omega
    subst this
    by_cases e2 : i=j
    · subst e2; exact O.irr _
    · exact O.tr _ _ _ (h i (j - 1) (by omega) (by omega)) c
theorem down_succ {p : Array Nat} {m : Nat} (h : Down lt p m) (h1 : 1≤m) (c : leA lt (gA p m) (gA p (m - 1))) : Down lt p (m + 1):=by
  intro i j hij hj
  by_cases e : j < m
  · exact h i j hij e
  · have : j=m:=by omega
    subst this
    by_cases e2 : i=j
    · subst e2; exact O.irr _
    · exact O.tr _ _ _ c (h i (j - 1) (by omega) (by omega))
theorem ok_asc {p : Array Nat} (hp : PermN n p) (h0 : 0 < n) : ∀ (f m : Nat),1≤m→m + f≤n→Up lt p m→
    okW n lt (fun r=>m≤r∧r≤m + f∧Up lt p r∧(r=m + f∨lt (gA p r) (gA p (r - 1))=true)) (kas_asc p f m)
  | 0,m,h1,hf,hu=>⟨Nat.le_refl _,Nat.le_refl _,hu,.inl rfl⟩
  | f + 1,m,h1,hf,hu=>by
    refine ⟨hp.below h0 m,hp.below h0 (m - 1),?_⟩
    by_cases c : lt (gA p m) (gA p (m - 1))=true
    · show okW n lt _ (if lt (gA p m) (gA p (m - 1))=true then KasT.ret m else kas_asc p f (m + 1))
      rw [if_pos c]
      exact ⟨Nat.le_refl _,by omega,hu,.inr c⟩
    · show okW n lt _ (if lt (gA p m) (gA p (m - 1))=true then KasT.ret m else kas_asc p f (m + 1))
      rw [if_neg c]
      have c' : lt (gA p m) (gA p (m - 1))=false:=by simpa using c
      refine okW_mono (fun r ⟨a,b,u,d⟩=>⟨by omega,by omega,u,?_⟩) (ok_asc hp h0 f (m + 1) (by omega) (by omega) (up_succ O hu h1 c'))
      rcases d with d | d
      · exact .inl (by omega)
      · exact .inr d
def Alike (lt : Nat→Nat→Bool) (p : Array Nat) (m q : Nat) : Prop:=∀ i,m - (q + 1)≤i→i < m→leA lt (gA p i) (gA p (m - 1))∧leA lt (gA p (m - 1)) (gA p i)
theorem rev_alike {p : Array Nat} {m q : Nat} (hs : m≤p.size) (hq : q + 1≤m) (h : Alike lt p m q) (k : Nat) : leA lt (gA (kas_rev p (m - (q + 1)) m) k) (gA p k)∧leA lt (gA p k) (gA (kas_rev p (m - (q + 1)) m) k):=by
  rw [gA_rev hs]
  by_cases c : m - (q + 1)≤k∧k < m
  · rw [if_pos c]
    have a:=h (m - (q + 1) + m - 1 - k) (by omega) (by omega)
    have b:=h k c.1 c.2
    exact ⟨O.tr _ _ _ a.1 b.2,O.tr _ _ _ b.1 a.2⟩
  · rw [if_neg c]
    exact ⟨O.irr _,O.irr _⟩
theorem down_rev {p : Array Nat} {m q : Nat} (hs : m≤p.size) (hq : q + 1≤m) (h : Alike lt p m q) (d : Down lt p m) : Down lt (kas_rev p (m - (q + 1)) m) m:=fun i j hij hj=>
  O.tr _ _ _ (rev_alike O hs hq h j).1 (O.tr _ _ _ (d i j hij hj) (rev_alike O hs hq h i).2)
theorem ok_desc (h0 : 0 < n) : ∀ (f : Nat) (p : Array Nat) (m q : Nat),PermN n p→1≤m→m + f≤n→q + 1≤m→Down lt p m→Alike lt p m q→
    okW n lt (fun r=>PermN n r.1∧1≤r.2.1∧r.2.1≤n∧m≤r.2.1∧r.2.1≤m + f∧r.2.2 + 1≤r.2.1∧Down lt r.1 r.2.1∧Alike lt r.1 r.2.1 r.2.2) (kas_desc f p m q)
  | 0,p,m,q,hp,h1,hf,hq,d,al=>⟨hp,h1,by show m≤n; omega,Nat.le_refl _,Nat.le_refl _,hq,d,al⟩
  | f + 1,p,m,q,hp,h1,hf,hq,d,al=>by
    have hs : m≤p.size:=by rw [hp.size]; omega
    have one : ∀ p' : Array Nat,Alike lt p' (m + 1) 0:=fun p' i a b=>by
      have : i=m:=by omega
      subst this
      exact ⟨O.irr _,O.irr _⟩
    refine ⟨hp.below h0 m,hp.below h0 (m - 1),?_⟩
    show okW n lt _ (if lt (gA p m) (gA p (m - 1))=true then (if q > 0 then kas_desc f (kas_rev p (m - (q + 1)) m) (m + 1) 0 else kas_desc f p (m + 1) 0) else KasT.ask (p.getD (m - 1) 0) (p.getD m 0) fun d=>if d=true then KasT.ret (p,m,q) else kas_desc f p (m + 1) (q + 1))
    by_cases c : lt (gA p m) (gA p (m - 1))=true
    · rw [if_pos c]
      by_cases cq : q > 0
      · rw [if_pos cq]
        have d1:=down_rev O hs hq al d
        have e : leA lt (gA (kas_rev p (m - (q + 1)) m) m) (gA (kas_rev p (m - (q + 1)) m) (m - 1)):=by
          have a1:=(rev_alike O hs hq al m).1
          have a2:=(rev_alike O hs hq al (m - 1)).2
          exact O.tr _ _ _ a1 (O.tr _ _ _ (O.asy _ _ c) a2)
        refine okW_mono (fun r ⟨a,b,c,x,y,z⟩=>⟨a,b,c,by omega,by omega,z⟩) (ok_desc h0 f _ (m + 1) 0 (hp.rev _ _) (by omega) (by omega) (by omega) (down_succ O d1 h1 e) (one _))
      · rw [if_neg cq]
        refine okW_mono (fun r ⟨a,b,c,x,y,z⟩=>⟨a,b,c,by omega,by omega,z⟩) (ok_desc h0 f p (m + 1) 0 hp (by omega) (by omega) (by omega) (down_succ O d h1 (O.asy _ _ c)) (one _))
    · rw [if_neg c]
      have c' : lt (gA p m) (gA p (m - 1))=false:=by simpa using c
      refine ⟨hp.below h0 (m - 1),hp.below h0 m,?_⟩
      by_cases c2 : lt (gA p (m - 1)) (gA p m)=true
      · show okW n lt _ (if lt (gA p (m - 1)) (gA p m)=true then KasT.ret (p,m,q) else kas_desc f p (m + 1) (q + 1))
        rw [if_pos c2]
        exact ⟨hp,h1,by show m≤n; omega,Nat.le_refl _,by show m≤m + (f + 1); omega,hq,d,al⟩
      · show okW n lt _ (if lt (gA p (m - 1)) (gA p m)=true then KasT.ret (p,m,q) else kas_desc f p (m + 1) (q + 1))
        rw [if_neg c2]
        have c2' : lt (gA p (m - 1)) (gA p m)=false:=by simpa using c2
        refine okW_mono (fun r ⟨a,b,c,x,y,z⟩=>⟨a,b,c,by omega,by omega,z⟩) (ok_desc h0 f p (m + 1) (q + 1) hp (by omega) (by omega) (by omega) (down_succ O d h1 c2') ?_)
        intro i a b
        by_cases e : i=m
        · subst e; exact ⟨O.irr _,O.irr _⟩
        · have:=al i (by omega) (by omega)
          exact ⟨O.tr _ _ _ this.1 c',O.tr _ _ _ c2' this.2⟩
theorem up_rev {p : Array Nat} {m : Nat} (hs : m≤p.size) (d : Down lt p m) : Up lt (kas_rev p 0 m) m:=by
  intro i j hij hj
  rw [gA_rev hs,gA_rev hs,if_pos ⟨Nat.zero_le _,by omega⟩,if_pos ⟨Nat.zero_le _,hj⟩]
  exact d _ _ (by omega) (by omega)
abbrev RunOk (n : Nat) (lt : Nat→Nat→Bool) (N : Nat) (r : Nat×Array Nat) : Prop:=PermN n r.2∧1≤r.1∧r.1≤N∧Up lt r.2 r.1
theorem ok_tail3 (h0 : 0 < n) {p : Array Nat} {m : Nat} (hp : PermN n p) (h1 : 1≤m) (hm : m≤n) (d : Down lt p m) : okW n lt (RunOk n lt n) (kas_tail3 m n p):=by
  unfold kas_tail3
  have hs : m≤p.size:=by rw [hp.size]; omega
  refine okW_bind (okW_mono (fun r ⟨a,b,u,_⟩=>?_) (ok_asc O (hp.rev 0 m) h0 (n - m) m h1 (by omega) (up_rev O hs d)))
  exact ⟨hp.rev 0 m,by show 1≤r; omega,by show r≤n; omega,u⟩
theorem ok_descPart (h0 : 0 < n) {p : Array Nat} {m : Nat} (hp : PermN n p) (hm : m + 1≤n) (d : Down lt p (m + 1)) : okW n lt (RunOk n lt n) (kas_descPart m n p):=by
  unfold kas_descPart
  refine okW_bind (okW_mono (fun r ⟨a,b,c,x,y,z,dd,al⟩=>?_) (ok_desc O h0 (n - (m + 1)) p (m + 1) 0 hp (by omega) (by omega) (by omega) d ?_))
  · intro i a b
    have : i=m:=by omega
    subst this
    exact ⟨O.irr _,O.irr _⟩
  · by_cases cq : r.2.2 > 0
    · rw [if_pos cq]
      exact ok_tail3 O h0 (a.rev _ _) b c (down_rev O (by rw [a.size]; exact c) z al dd)
    · rw [if_neg cq]
      exact ok_tail3 O h0 a b c dd
theorem ok_count (h2 : 2≤n) {p : Array Nat} (hp : PermN n p) : okW n lt (RunOk n lt n) (kas_count n p):=by
  unfold kas_count
  have h0 : 0 < n:=by omega
  refine okW_bind (okW_mono (fun r ⟨a,b,u,e⟩=>?_) (ok_asc O hp h0 (n - 1) 1 (by omega) (by omega) ?_))
  · intro i j hij hj
    have : i=j:=by omega
    subst this
    exact O.irr _
  · by_cases c1 : (r == n)=true
    · rw [if_pos c1]
      have : r=n:=by simpa using c1
      exact ⟨hp,a,by show r≤n; omega,u⟩
    · rw [if_neg c1]
      have rn : r≠n:=by simpa using c1
      have lst : lt (gA p r) (gA p (r - 1))=true:=by
        rcases e with e | e
        · exact absurd (by omega) rn
        · exact e
      have hs : r≤p.size:=by rw [hp.size]; omega
      by_cases c2 : r > 1
      · rw [if_pos c2]
        refine ⟨hp.below h0 0,hp.below h0 (r - 1),?_⟩
        by_cases c3 : lt (gA p 0) (gA p (r - 1))=true
        · show okW n lt _ (if lt (gA p 0) (gA p (r - 1))=true then KasT.ret (r,p) else kas_descPart r n (kas_rev p 0 r))
          rw [if_pos c3]
          exact ⟨hp,a,by show r≤n; omega,u⟩
        · show okW n lt _ (if lt (gA p 0) (gA p (r - 1))=true then KasT.ret (r,p) else kas_descPart r n (kas_rev p 0 r))
          rw [if_neg c3]
          have c3' : lt (gA p 0) (gA p (r - 1))=false:=by simpa using c3
          refine ok_descPart O h0 (hp.rev 0 r) (by omega) (down_succ O ?_ a ?_)
          · intro i j hij hj
            rw [gA_rev hs,gA_rev hs,if_pos ⟨Nat.zero_le _,hj⟩,if_pos ⟨Nat.zero_le _,by omega⟩]
            exact u _ _ (by omega) (by omega)
          · rw [gA_rev hs,gA_rev hs,if_neg (by omega),if_pos ⟨Nat.zero_le _,by omega⟩]
            have e0 : 0 + r - 1 - (r - 1)=0:=by omega
            rw [e0]
            exact O.tr _ _ _ (O.asy _ _ lst) c3'
      · rw [if_neg c2]
        have r1 : r=1:=by omega
        subst r1
        refine ok_descPart O h0 hp (by omega) (down_succ O ?_ (Nat.le_refl _) (O.asy _ _ lst))
        intro i j hij hj
        have : i=j:=by omega
        subst this
        exact O.irr _
theorem ok_place (h0 : 0 < n) {p : Array Nat} {k : Nat} (hp : PermN n p) (u : Up lt p k) : ∀ (f l r : Nat),l≤r→r≤k→r - l≤f→(∀ i,i < l→leA lt (gA p i) (gA p k))→(∀ i,r≤i→i < k→leA lt (gA p k) (gA p i))→
    okW n lt (fun x=>x≤k∧(∀ i,i < x→leA lt (gA p i) (gA p k))∧∀ i,x≤i→i < k→leA lt (gA p k) (gA p i)) (kas_place p k f l r)
  | 0,l,r,h1,h2,hf,a,b=>⟨by omega,a,fun i x y=>b i (by omega) y⟩
  | f + 1,l,r,h1,h2,hf,a,b=>by
    show okW n lt _ (if l ≥ r then KasT.ret l else _)
    by_cases c : l ≥ r
    · rw [if_pos c]
      exact ⟨by omega,a,fun i x y=>b i (by omega) y⟩
    · rw [if_neg c]
      refine ⟨hp.below h0 k,hp.below h0 _,?_⟩
      show okW n lt _ (if lt (gA p k) (gA p ((l + r) / 2))=true then kas_place p k f l ((l + r) / 2) else kas_place p k f ((l + r) / 2 + 1) r)
      by_cases d : lt (gA p k) (gA p ((l + r) / 2))=true
      · rw [if_pos d]
        refine ok_place h0 hp u f l _ (by omega) (by omega) (by omega) a fun i x y=>?_
        exact O.tr _ _ _ (O.asy _ _ d) (u _ i x y)
      · rw [if_neg d]
        have d' : lt (gA p k) (gA p ((l + r) / 2))=false:=by simpa using d
        refine ok_place h0 hp u f _ r (by omega) h2 (by omega) (fun i x=>?_) b
        exact O.tr _ _ _ (u i ((l + r) / 2) (by omega) (by omega)) d'
theorem ok_bin (h0 : 0 < n) : ∀ (f : Nat) (p : Array Nat) (k : Nat),PermN n p→f + k=n→Up lt p k→okW n lt (fun r=>PermN n r∧Up lt r n) (kas_bin f p k)
  | 0, p, k, hp, hk, u => ⟨hp, by have : k = n := by omega
                                  subst this; exact u⟩
  | f + 1,p,k,hp,hk,u=>by
    show okW n lt _ ((kas_place p k k 0 k).bind fun l=>kas_bin f (bubble p k (k - l)) (k + 1))
    refine okW_bind (okW_mono (fun l ⟨hl,a,b⟩=>?_) (ok_place O h0 hp u k 0 k (Nat.zero_le _) (Nat.le_refl _) (by omega) (fun i x=>by omega) fun i x y=>by omega))
    refine ok_bin h0 f _ (k + 1) (hp.bub _ _) (by omega) ?_
    have hs : k < p.size:=by rw [hp.size]; omega
    have g:=gA_bub (p:=p) (src:=k) (d:=k - l) hs (by omega)
    have e : k - (k - l)=l:=by omega
    rw [e] at g
    intro i j hij hj
    rw [g i,g j]
    by_cases ci : i=l
    · rw [if_pos ci]
      by_cases cj : j=l
      · rw [if_pos cj]; exact O.irr _
      · rw [if_neg cj,if_pos ⟨by omega,by omega⟩]
        exact b _ (by omega) (by omega)
    · rw [if_neg ci]
      by_cases cj : j=l
      · rw [if_pos cj,if_neg (by omega)]
        exact a i (by omega)
      · rw [if_neg cj]
        by_cases di : l < i∧i≤k
        · rw [if_pos di,if_pos ⟨by omega,by omega⟩]
          exact u _ _ (by omega) (by omega)
        · rw [if_neg di]
          by_cases dj : l < j∧j≤k
          · rw [if_pos dj]
            exact u _ _ (by omega) (by omega)
          · rw [if_neg dj]
            exact u _ _ hij (by omega)
theorem ok_sort (h2 : 2≤n) : okW n lt (fun p=>PermN n p∧Up lt p n) (kas_sort n):=by
  unfold kas_sort
  have h0 : 0 < n:=by omega
  refine okW_bind (okW_mono (fun r ⟨a,b,c,u⟩=>?_) (ok_count O h2 (p:=List.toArray (List.range n)) (by unfold PermN; simp)))
  have e : max r.1 1=r.1:=by omega
  rw [e]
  by_cases d : r.1 < n
  · rw [if_pos d]
    exact ok_bin O h0 (n - r.1) r.2 r.1 a (by omega) u
  · rw [if_neg d]
    have : r.1=n:=by omega
    rw [this] at u
    exact ⟨a,u⟩
end
end L2
namespace L2
open PySem PySem.Spec PyProof.Rows
section
variable {X : Cx} {a b e : Expr} {es : List Expr} {pos : Pos}
end
end L2
namespace L2
open PySem PySem.Spec PyProof.Rows
theorem pe_glI {X : Cx} {x : Str} {v : Int} {pos : Pos} (hg : Gl X x) (hm : ∃ t,X.mg x=some (.int v t)) (hd : (x == ("__debug__" : Str))=false:=by decide) : PE X (.Name x pos) (tC (.int v)):=by
  obtain ⟨t,h⟩:=hm
  exact pe_glob hg h ⟨_,rfl⟩ hd
abbrev inB (v hi : Int) : Prop:=1≤v∧v≤hi
def rowBad : List Int→Option Nat
  | [d,c]=>if inB d 999 then if inB c 10000000000 then none else some 1 else some 0
  | [d,c,u]=>if inB d 999 then if inB c 10000000000 then if inB u 1000000 then none else some 2 else some 1 else some 0
  | _=>none
def rowsBad (rs : List (List Int)) : Option Nat:=rs.findSome? rowBad
theorem rowsBad_take {rs : List (List Int)} {i : Nat} {r : List Int} (h : rowsBad (rs.take i)=none) (e : rs[i]? = some r) (b : rowBad r=none) : rowsBad (rs.take (i + 1))=none:=by
  obtain ⟨hi,e'⟩:=List.getElem?_eq_some_iff.mp e
  unfold rowsBad at *
  rw [List.take_succ_eq_append_getElem hi,List.findSome?_append,h,e']
  simp [b]
theorem rowsBad_hit {rs : List (List Int)} {i j : Nat} {r : List Int} (h : rowsBad (rs.take i)=none) (e : rs[i]? = some r) (b : rowBad r=some j) : rowsBad rs=some j:=by
  obtain ⟨hi,e'⟩:=List.getElem?_eq_some_iff.mp e
  unfold rowsBad at *
  have : rs=rs.take i ++ r :: rs.drop (i + 1):=by rw [← e',← List.drop_eq_getElem_cons hi,List.take_append_drop]
  rw [this,List.findSome?_append,h]
  simp [b]
theorem take_next {rs : List (List Int)} {i : Nat} {r : List Int} (e : rs[i]? = some r) : rs.take i ++ [r]=rs.take (i + 1):=by
  obtain ⟨hi,e'⟩:=List.getElem?_eq_some_iff.mp e
  rw [List.take_succ_eq_append_getElem hi,e']
def spIn (c : Addr) (hi : Int) : Sp:=fun vs H Q E=>∃ v : Int,vs=[.int v]∧(inB v hi→Q .non H)∧(¬ inB v hi→E (.ref c) none H)
def spIsDay : Sp:=fun vs H Q _=>∃ d : Int,vs=[.int d]∧Q (.bl (decide (inB d 999))) H
def spMany (cR : Addr) : Sp:=fun vs H Q E=>∃ a xs,vs=[.ref a]∧H a=some (.lst xs)∧(xs.length≤30→Q .non H)∧(30 < xs.length→E (.ref cR) none H)
def spChk (cR : Addr) (cls : Nat→Addr) (w : Nat) : Sp:=fun vs H Q E=>∃ a rs,vs=[.ref a]∧Rows H a rs∧(∀ r∈rs,r.length=w)∧(30 < rs.length→E (.ref cR) none H)∧
  (rs.length≤30→∀ j,rowsBad rs=some j→∀ H',Same H H'→E (.ref (cls j)) none H')∧(rs.length≤30→rowsBad rs=none→∀ l H',H l=none→Same H H'→Rows H' l rs→Q (.ref l) H')
theorem len2 {r : List Int} (h : r.length=2) : ∃ d c,r=[d,c]:=match r,h with | [d,c],_=>⟨d,c,rfl⟩
theorem len3 {r : List Int} (h : r.length=3) : ∃ d c u,r=[d,c,u]:=match r,h with | [d,c,u],_=>⟨d,c,u,rfl⟩
theorem chain_in {v hi : Int} {R : Bool→Prop} (h : R (decide (inB v hi))) : ∃ i j : Int,V.int 1 = .int i∧V.int v = .int j∧∃ b,V.bl (decide (i≤j)) = .bl b∧if b=true then ∃ i' j' : Int,V.int v = .int i'∧V.int hi = .int j'∧∃ b',V.bl (decide (i'≤j')) = .bl b'∧R b' else ∃ b',V.bl false = .bl b'∧R b':=by
  refine ⟨_,_,rfl,rfl,_,rfl,?_⟩
  refine ite2 (fun c=>?_) (fun c=>?_)
  · have c1 : (1 : Int)≤v:=of_decide_eq_true c
    refine ⟨_,_,rfl,rfl,_,rfl,?_⟩
    have e : decide (v≤hi)=decide (inB v hi):=by by_cases z : v≤hi <;> simp [z,c1,inB]
    rw [e]; exact h
  · have c1 : ¬ (1 : Int)≤v:=of_decide_eq_false (Bool.eq_false_iff.mpr c)
    have e : false=decide (inB v hi):=by simp [inB,c1]
    exact ⟨_,rfl,by rw [e]; exact h⟩
end L2
namespace L2
open PySem PySem.Spec PyProof.Rows
end L2
namespace L2
open PySem PySem.Spec PySem.W PyProof.Rows
theorem ints_of : ∀ {ns : List Int} {us : List Value},Vals (ns.map V.int) us→IntsAre us ns
  | [],_,.nil=>.nil
  | n :: r,_,.cons x t=>by
    obtain ⟨k,rfl⟩:=x
    exact .cons n k (ints_of t)
theorem ints_to : ∀ {ns : List Int} {us : List Value},IntsAre us ns→Vals (ns.map V.int) us
  | _,_,.nil=>.nil
  | _,_,.cons n t r=>.cons ⟨t,rfl⟩ (ints_to r)
def lexB : List Int→List Int→Bool
  | a :: as,b :: bs=>if a=b then lexB as bs else decide (a < b)
  | [],_ :: _=>true
  | _,[]=>false
theorem lex_irr : ∀ a : List Int,lexB a a=false
  | []=>rfl
  | a :: as=>by show (if a=a then lexB as as else _)=false; rw [if_pos rfl]; exact lex_irr as
theorem lex_asy : ∀ {a b : List Int},lexB a b=true→lexB b a=false
  | [],[],h=>by cases h
  | [],b :: bs,_=>rfl
  | a :: as,[],h=>by cases h
  | a :: as,b :: bs,h=>by
    show (if b=a then lexB bs as else decide (b < a))=false
    have h' : (if a=b then lexB as bs else decide (a < b))=true:=h
    by_cases e : a=b
    · rw [if_pos e] at h'
      rw [if_pos e.symm]
      exact lex_asy h'
    · rw [if_neg e] at h'
      rw [if_neg (Ne.symm e)]
      have:=of_decide_eq_true h'
      exact decide_eq_false (by omega)
theorem lex_tr : ∀ {a b c : List Int},lexB b a=false→lexB c b=false→lexB c a=false
  | [],[],[],_,_=>rfl
  | [],[],_ :: _,_,_=>rfl
  | [],_ :: _,[],_,h=>by cases h
  | [],_ :: _,_ :: _,_,_=>rfl
  | _ :: _,[],_,h,_=>by cases h
  | _ :: _,_ :: _,[],_,h=>by cases h
  | a :: as,b :: bs,c :: cs,h,g=>by
    have h' : (if b=a then lexB bs as else decide (b < a))=false:=h
    have g' : (if c=b then lexB cs bs else decide (c < b))=false:=g
    show (if c=a then lexB cs as else decide (c < a))=false
    by_cases e1 : b=a
    · rw [if_pos e1] at h'
      subst e1
      by_cases e2 : c=b
      · rw [if_pos e2] at g'
        rw [if_pos e2]
        exact lex_tr h' g'
      · rw [if_neg e2] at g' ⊢
        exact g'
    · rw [if_neg e1] at h'
      have h1:=of_decide_eq_false h'
      by_cases e2 : c=b
      · subst e2
        rw [if_neg e1]
        exact h'
      · rw [if_neg e2] at g'
        have g1:=of_decide_eq_false g'
        rw [if_neg (by omega)]
        exact decide_eq_false (by omega)
def ltOf (rs : List (List Int)) (i j : Nat) : Bool:=lexB (rs.getD i []) (rs.getD j [])
theorem ordr_of (rs : List (List Int)) : Ordr (ltOf rs):=⟨fun _=>lex_irr _,fun _ _ _ a b=>lex_tr a b,fun _ _ a=>lex_asy a⟩
section
variable {prog : Program} {w : World} {A : Around} {E : Value→Shared→Prop} {s : Shared}
theorem katLex_ints {Q : Bool→Shared→Prop} : ∀ {xs ys : List Value} {as bs : List Int} (i : Nat),IntsAre xs as→IntsAre ys bs→as.length=bs.length→Q (lexB as bs) s→KatLex prog w A true false Q (xs.zip ys) i s
  | _,_,_,_,i,.nil,.nil,_,q=>q
  | _,_,_,_,i,.cons n t r,.cons m u r',hl,q=>by
    show KatLex prog w A true false Q ((Value.int n t,Value.int m u) :: _) i s
    refine kat_cons (wpAny_eqBool_int ?_)
    by_cases e : n=m
    · rw [show (n == m)=true by simpa using e]
      refine kat_yes (katLex_ints (i + 1) r r' (by simpa using hl) ?_)
      have q' : Q (if n=m then lexB _ _ else _) s:=q
      rw [if_pos e] at q'
      exact q'
    · rw [show (n == m)=false by simpa using e]
      refine kat_no ?_
      have q' : Q (if n=m then lexB _ _ else decide (n < m)) s:=q
      rw [if_neg e] at q'
      by_cases c : (true && i == 0)=true
      · rw [c]; exact oneLt_int q'
      · rw [Bool.eq_false_iff.mpr c]
        exact kat_one _ _ (lt_int q')
  | _,_,_,_,i,.nil,.cons _ _ _,hl,q=>by simp at hl
  | _,_,_,_,i,.cons _ _ _,.nil,hl,q=>by simp at hl
def TupsAt (h : Heap) (bs : List Addr) (rs : List (List Int)) : Prop:=bs.length=rs.length∧∀ (i : Nat) b r,bs[i]? = some b→rs[i]? = some r→∃ its : List Value,IsTup h b its.toArray∧IntsAre its r
theorem TupsAt.tail {h : Heap} {b : Addr} {bs : List Addr} {r : List Int} {rs : List (List Int)} (t : TupsAt h (b :: bs) (r :: rs)) : TupsAt h bs rs:=⟨by simpa using t.1,fun i c q e1 e2=>t.2 (i + 1) c q (by simpa using e1) (by simpa using e2)⟩
theorem TupsAt.kat {h : Heap} : ∀ {bs : List Addr} {rs : List (List Int)},TupsAt h bs rs→(∀ r∈rs,r≠[])→∃ fs : List Value,fs.length=bs.length∧KatTups h (bs.map Value.ref) fs∧∀ v∈fs,∃ n t,v = .int n t
  | [],[],_,_=>⟨[],rfl,trivial,fun v hv=>by cases hv⟩
  | [],_ :: _,t,_=>by have:=t.1; simp at this
  | _ :: _,[],t,_=>by have:=t.1; simp at this
  | b :: bs,r :: rs,t,hn=>by
    obtain ⟨fs,h1,h2,h3⟩:=t.tail.kat fun q hq=>hn q (.tail _ hq)
    obtain ⟨its,⟨o,ho,hc,n,hd⟩,ia⟩:=t.2 0 b r rfl rfl
    cases ia with
    | nil=>exact absurd rfl (hn [] (.head _))
    | cons m k ia=>
      refine ⟨.int m k :: fs,by simp [h1],⟨⟨b,o,_,n,rfl,ho,hc,hd,rfl⟩,h2⟩,fun v hv=>?_⟩
      rcases List.mem_cons.mp hv with rfl | hv
      · exact ⟨m,k,rfl⟩
      · exact h3 v hv
theorem TupsAt.ask {bs : List Addr} {rs : List (List Int)} {wd : Nat} (t : TupsAt s.heap bs rs) (hw : ∀ r∈rs,r.length=wd) (i j : Nat) (C : Bool→Shared→Prop) (hi : i < bs.length) (hj : j < bs.length) (q : C (ltOf rs i j) s) : kas_ask prog w A (tuples' true) (bs.map Value.ref) i j C s:=by
  have hi' : i < rs.length:=by rw [← t.1]; exact hi
  have hj' : j < rs.length:=by rw [← t.1]; exact hj
  obtain ⟨xs,⟨o,ho,_,n,hd⟩,ia⟩:=t.2 i bs[i] rs[i] (by simp [hi]) (by simp [hi'])
  obtain ⟨ys,⟨o',ho',_,n',hd'⟩,ib⟩:=t.2 j bs[j] rs[j] (by simp [hj]) (by simp [hj'])
  unfold kas_ask
  rw [show (bs.map Value.ref).getD i Value.none = .ref bs[i] by simp [hi],show (bs.map Value.ref).getD j Value.none = .ref bs[j] by simp [hj]]
  have la : xs.length=wd:=by rw [IntsAre.length ia]; exact hw _ (List.getElem_mem hi')
  have lb : ys.length=wd:=by rw [IntsAre.length ib]; exact hw _ (List.getElem_mem hj')
  refine kat_lt ho hd ho' hd' ?_
  rw [show decide (xs.toArray.size < ys.toArray.size)=false by simp [la,lb]]
  have q' : C (lexB rs[i] rs[j]) s:=by
    unfold ltOf at q
    rw [show rs.getD i []=rs[i] by simp [hi'],show rs.getD j []=rs[j] by simp [hj']] at q
    exact q
  exact katLex_ints 0 ia ib (by rw [hw _ (List.getElem_mem hi'),hw _ (List.getElem_mem hj')]) q'
theorem up_small {lt : Nat→Nat→Bool} (O : Ordr lt) {p : Array Nat} {m : Nat} (h : m < 2) : Up lt p m:=fun i j hij hj=>by
  have : i=j:=by omega
  subst this
  exact O.irr _
theorem list_sort_tup {a : Addr} {bs : List Addr} {rs : List (List Int)} {wd n : Nat} {P : PySem.Fin→Shared→Prop} (ho : s.heap.get? a=some (seqObj "list" (bs.map Value.ref).toArray n))
    (t : TupsAt s.heap bs rs) (hw : ∀ r∈rs,r.length=wd) (hw0 : 0 < wd) (h64 : bs.length < 64)
    (h : ∀ p : Array Nat,PermN bs.length p→Up (ltOf rs) p bs.length→P (.done (.ret .none)) { s with heap:=sortedHeap s.heap a (bs.map Value.ref) (List.toArray (p.toList.map fun i=>(bs.map Value.ref).getD i Value.none)) }) :
    wpAny (model prog w) A (Builtin.«list.sort» ⟨[.ref a],[]⟩) P E s:=by
  rw [list_sort_plain]
  have ha : a < s.heap.objs.size:=Heap.lt_size ho
  have hlen : (bs.map Value.ref).length=bs.length:=List.length_map ..
  refine wpAny_bind (listItems_at ho rfl ?_)
  refine wpAny_bind (listUpdate_at ho rfl ?_ (by rw [List.size_toArray,sizeLine_eq,hlen]; omega) (Nat.zero_le _))
  obtain ⟨e1,ho1⟩ : ∃ e1,(s.heap.update a (Obj.mapSeq fun _=>(#[] : Array Value))).get? a=some (seqObj "list" #[] e1):=⟨_,get?_update_seq ho (fun _=>#[])⟩
  refine wpAny_bind (seqEpoch_at ho1 rfl ?_)
  refine wpAny_bind (wpAny_newTuple ?_ (by show (bs.map Value.ref).length≤_; rw [sizeLine_eq,hlen]; omega))
  refine wpAny_bind (wpAny_newList ?_ (Nat.zero_le _))
  refine wpAny_holding ?_
  have ho6 : (((s.heap.update a (Obj.mapSeq fun _=>(#[] : Array Value))).push (seqObj "tuple" (bs.map Value.ref).toArray 0)).push (seqObj "list" #[] 0)).get? a=some (seqObj "list" #[] e1):=by
    rw [Heap.get?_push_ne _ _ _ (by rw [size_push',Heap.size_update]; exact Nat.ne_of_lt (Nat.lt_succ_of_lt ha)),Heap.get?_push_ne _ _ _ (by rw [Heap.size_update]; exact Nat.ne_of_lt ha)]
    exact ho1
  have t6 : TupsAt (((s.heap.update a (Obj.mapSeq fun _=>(#[] : Array Value))).push (seqObj "tuple" (bs.map Value.ref).toArray 0)).push (seqObj "list" #[] 0)) bs rs:=⟨t.1,fun i b r x1 x2=>by
    obtain ⟨its,⟨o,g1,g2,k,g3⟩,ia⟩:=t.2 i b r x1 x2
    have nb : b≠a:=fun z=>by
      rw [z,ho] at g1
      cases g1
      exact absurd g2 (by simp)
    exact ⟨its,⟨o,Heap.get?_push_of_some _ (Heap.get?_push_of_some _ ((Heap.get?_update_other _ _ nb.symm).trans g1)),g2,k,g3⟩,ia⟩⟩
  show wpAny (model prog w) A _ P E { s with heap:=((s.heap.update a (Obj.mapSeq fun _=>(#[] : Array Value))).push (seqObj "tuple" (bs.map Value.ref).toArray 0)).push (seqObj "list" #[] 0) }
  dsimp only
  have hsz : (bs.map Value.ref).toArray.size=bs.length:=by simp
  have hsz2 : ∀ p : Array Nat,PermN bs.length p→(List.toArray (p.toList.map fun i=>(bs.map Value.ref).getD i Value.none)).size≤sizeLine + 1:=fun p hp=>by
    rw [List.size_toArray,List.length_map,Array.length_toList,hp.size,sizeLine_eq]; omega
  by_cases h2 : (bs.map Value.ref).toArray.size < 2
  · rw [if_pos h2,if_pos h2]
    refine wpAny_bind (wpAny_pure ?_)
    rw [StateT.run_pure]
    refine wpAny_bind (wpAny_pure ?_)
    dsimp only
    refine wpAny_bind (seqEpoch_at ho6 rfl ?_)
    have pr : PermN bs.length (List.toArray (List.range bs.length)):=by unfold PermN; simp
    have eo : (arrOf (SortSt.mk' general' ((bs.map Value.ref).toArray.zip (bs.map Value.ref).toArray) #[] 7 none)).map (·.2)=List.toArray ((List.toArray (List.range bs.length)).toList.map fun i=>(bs.map Value.ref).getD i Value.none):=
      kat_snds (vs:=bs.map Value.ref) (ks:=bs.map Value.ref) (p:=List.toArray (List.range bs.length)) rfl (by
        have e:=kas_range ((bs.map Value.ref).toArray.zip (bs.map Value.ref).toArray)
        rw [show ((bs.map Value.ref).toArray.zip (bs.map Value.ref).toArray).size=bs.length by simp] at e
        exact e.symm)
    rw [eo]
    refine wpAny_bind (listUpdate_at ho6 rfl ?_ (Nat.zero_le _) (hsz2 _ pr))
    simp only [bne_self_eq_false,Bool.false_eq_true,if_false]
    exact wpAny_pure (h _ pr (up_small (ordr_of rs) (by omega)))
  · rw [if_neg h2,if_neg h2]
    obtain ⟨fs,f1,f2,f3⟩:=t6.kat fun r hr z=>by have:=hw r hr; rw [z] at this; simp at this; omega
    refine wpAny_bind (kat_kind (T:=.type "int") f2 (by omega) (fun v hv=>?_) rfl ?_)
    · obtain ⟨m,k,rfl⟩:=f3 v hv
      exact Looks.of_pure rfl
    rw [show ((Value.type "int" : Value) != Value.type "tuple")=true from rfl]
    refine wpAny_bind (wpAny_mono (kat_run (A:=A) (vs:=bs.map Value.ref) (ks:=bs.map Value.ref) (κ:=tuples' true)
      (G:=fun p s'=>(PermN bs.length p∧Up (ltOf rs) p bs.length)∧s' = { s with heap:=((s.heap.update a (Obj.mapSeq fun _=>(#[] : Array Value))).push (seqObj "tuple" (bs.map Value.ref).toArray 0)).push (seqObj "list" #[] 0) })
      (Q:=fun st' s'=>∃ p : Array Nat,PermN bs.length p∧Up (ltOf rs) p bs.length∧arrOf st' = p.map (kas_item ((bs.map Value.ref).toArray.zip (bs.map Value.ref).toArray))∧failedOf st' = none∧s' = { s with heap:=((s.heap.update a (Obj.mapSeq fun _=>(#[] : Array Value))).push (seqObj "tuple" (bs.map Value.ref).toArray 0)).push (seqObj "list" #[] 0) })
      rfl (by rw [hlen]; omega) (by rw [hlen]; exact h64) (fun p' st' s' a1 a2 a3 a4=>⟨p',a4.1.1,a4.1.2,a2,a3,a4.2⟩) ?_) ?_ fun _ _ e=>e)
    · rw [hlen]
      exact okW_wp (n:=bs.length) (lt:=ltOf rs) (fun i j C hi hj q=>TupsAt.ask t6 hw i j C hi hj q) (okW_mono (fun p hp=>⟨hp,rfl⟩) (ok_sort (ordr_of rs) (by omega)))
    · rintro ⟨⟨⟩,st'⟩ s' ⟨p,hp,hu,har,hf,rfl⟩
      dsimp only
      rw [kat_snds (vs:=bs.map Value.ref) (ks:=bs.map Value.ref) rfl har]
      refine wpAny_bind (seqEpoch_at ho6 rfl ?_)
      refine wpAny_bind (listUpdate_at ho6 rfl ?_ (Nat.zero_le _) (hsz2 p hp))
      rw [hf]
      simp only [bne_self_eq_false,Bool.false_eq_true,if_false]
      exact wpAny_pure (h p hp hu)
theorem sorted_tup {l : Addr} {bs : List Addr} {rs : List (List Int)} {wd : Nat} {Q : Value→Shared→Prop} (hl : s.heap.IsList l (bs.map Value.ref).toArray) (t : TupsAt s.heap bs rs) (hw : ∀ r∈rs,r.length=wd) (hw0 : 0 < wd) (h64 : bs.length < 64)
    (h : ∀ p : Array Nat,PermN bs.length p→Up (ltOf rs) p bs.length→Q (.ref (s.heap.objs.size + 1)) { s with heap:=sortedAll s.heap (bs.map Value.ref) (List.toArray (p.toList.map fun i=>(bs.map Value.ref).getD i Value.none)) }) :
    wpAny (model prog w) A (call (.builtin "sorted") [.ref l]) Q E s:=by
  have hlen : (bs.map Value.ref).length=bs.length:=List.length_map ..
  refine Calls.call_function_entry kind_sorted plain_sorted entry_sorted (args_sorted1 _) ?_
  unfold Builtin.«sorted»
  refine wpAny_bind (m:=checkCount "sorted" 1 1 _) (wpAny_pure ?_)
  refine wpAny_bind (collect_list hl ?_ (by rw [sizeLine_eq,hlen]; omega))
  refine wpAny_bind (wpAny_newList ?_ (by rw [sizeLine_eq,hlen]; omega))
  have hsz : ((s.heap.push (seqObj "list" #[] 0)).update s.heap.objs.size (Obj.mapSeq (· ++ (bs.map Value.ref).toArray))).objs.size=s.heap.objs.size + 1:=by
    rw [Heap.size_update,size_push']
  have hoL : (((s.heap.push (seqObj "list" #[] 0)).update s.heap.objs.size (Obj.mapSeq (· ++ (bs.map Value.ref).toArray))).push (seqObj "list" (bs.map Value.ref).toArray 0)).get? (s.heap.objs.size + 1)=some (seqObj "list" (bs.map Value.ref).toArray 0):=by
    rw [← hsz]; exact Heap.get?_push_size _ rfl
  have keep : ∀ b o,s.heap.get? b=some o→(((s.heap.push (seqObj "list" #[] 0)).update s.heap.objs.size (Obj.mapSeq (· ++ (bs.map Value.ref).toArray))).push (seqObj "list" (bs.map Value.ref).toArray 0)).get? b=some o:=fun b o q=>by
    have hlt : b < s.heap.objs.size:=Heap.lt_size q
    rw [Heap.get?_push_ne _ _ _ (by rw [hsz]; exact Nat.ne_of_lt (Nat.lt_succ_of_lt hlt)),Heap.get?_update_ne _ _ _ _ (Nat.ne_of_lt hlt),Heap.get?_push_ne _ _ _ (Nat.ne_of_lt hlt)]
    exact q
  show wpAny _ _ _ _ _ { s with heap:=((s.heap.push (seqObj "list" #[] 0)).update s.heap.objs.size (Obj.mapSeq (· ++ (bs.map Value.ref).toArray))).push (seqObj "list" (bs.map Value.ref).toArray 0) }
  rw [hsz]
  refine wpAny_bind (wpAny_holding (wpAny_call_entry slot_list_sort ⟨_,hoL,rfl⟩ entry_list_sort (list_sort_tup hoL ⟨t.1,fun i b r x1 x2=>?_⟩ hw hw0 h64 fun p a1 a2=>⟨_,rfl,?_⟩) (args_list_sort _)))
  · obtain ⟨its,y1,y2⟩:=t.2 i b r x1 x2
    exact ⟨its,y1.keeps keep,y2⟩
  · exact wpAny_pure ⟨_,rfl,h p a1 a2⟩
end
section
variable {X : Cx}
def rSum (K : PySem.W.Frag) : List V→Hp→VK→Prop:=fun xs H Q=>∃ (p : Addr) (ns : List Int),xs=[.ref p]∧SqL K H p (ns.map V.int)∧Q (.int ns.sum) H
theorem call_sumI (hc : X.calm=true) : CallR X (.builtin "sum") (rSum X.K):=by
  intro pins s σ H xs us Q I r h
  obtain ⟨p,ns,rfl,hq,q⟩:=h
  obtain ⟨u,rfl,ru⟩:=r.one
  cases ru
  obtain ⟨its,rv,pl,hz⟩:=I.list hq
  have ia:=ints_of rv
  obtain ⟨ys,ey⟩:=ia.allInts.items
  have hl:=pl.isList
  have e2 : (numsOf its.toArray.toList).sum=ns.sum:=by rw [show its.toArray.toList=its by simp,ia.numsOf]
  rw [ey] at hl e2
  refine sum_intListG (I.ok.hd hc) hl fun h' tk t' kk=>⟨.int ns.sum,H,I.kept (t':=tk) kk,⟨t',?_⟩,q⟩
  rw [nums_intItems] at e2
  rw [preSum_eq,List.take_of_length_le (by simp),e2]
def rSortT : List V→Hp→VK→Prop:=fun xs H Q=>∃ (p : Addr) (rs : List (List Int)) (wd : Nat),xs=[.ref p]∧Rows H p rs∧rs.length < 64∧(∀ r∈rs,r.length=wd)∧0 < wd∧∀ (l : Addr) (ss : List (List Int)) (H' : Hp),H l=none→ss.Perm rs→ss.Pairwise (fun a b=>lexB b a=false)→Same H H'→Rows H' l ss→Q (.ref l) H'
theorem call_sortT : CallR X (.builtin "sorted") rSortT:=by
  intro pins s σ H xs us Q I r h
  obtain ⟨p,rs,wd,rfl,hR,h64,hw,hw0,q⟩:=h
  obtain ⟨u,rfl,ru⟩:=r.one
  cases ru
  obtain ⟨ps,h1,h2,h3⟩:=id hR
  obtain ⟨its,rv,pl,hz⟩:=I.list (SqL.of h1)
  have eits : its=ps.map Value.ref:=by
    clear hz pl h1 h2 h3 hR
    induction ps generalizing its with
    | nil=>cases rv; rfl
    | cons a r ih=>
      cases rv with
      | cons x t=>rw [show _=Value.ref a from x,ih _ t]; rfl
  subst eits
  have tt : TupsAt s.heap ps rs:=⟨h2,fun i b r e1 e2=>by
    obtain ⟨_,us,rr,y⟩:=(show ObjOk X.prog X.w H s.heap b (.tup (r.map V.int)) from I.hok b _ (h3 i b r e1 e2))
    exact ⟨us,y,ints_of rr⟩⟩
  have hps : ps.length < 64:=by omega
  refine sorted_tup pl.isList tt hw hw0 hps fun pp hp hu=>?_
  have hmem : ∀ i∈pp.toList,i < ps.length:=fun i hi=>List.mem_range.mp ((List.Perm.mem_iff hp).mp hi)
  have eo : (pp.toList.map fun i=>(ps.map Value.ref).getD i Value.none)=(pp.toList.map fun i=>ps.getD i 0).map Value.ref:=by
    rw [List.map_map]
    exact List.map_congr_left fun i hi=>by have:=hmem i hi; simp [this]
  obtain ⟨e,he⟩:=sortedAll_at s.heap (ps.map Value.ref) (List.toArray (pp.toList.map fun i=>(ps.map Value.ref).getD i Value.none))
  have vv : ∀ l : List Addr,Vals (l.map V.ref) (l.map Value.ref):=fun l=>by
    induction l with
    | nil=>exact .nil
    | cons a r ih=>exact .cons rfl ih
  have fr : H (s.heap.objs.size + 1)=none:=I.hok.fresh (Nat.le_succ _)
  refine ⟨.ref _,_,I.laid (t':=s.toks) (a:=s.heap.objs.size + 1) (o:=.lst ((pp.toList.map fun i=>ps.getD i 0).map V.ref)) (fun b o e=>sortedAll_old e) (Nat.le_succ _) ⟨?_,(pp.toList.map fun i=>ps.getD i 0).map Value.ref,e,vv _,?_⟩,rfl,q _ (pp.toList.map fun i=>rs.getD i []) _ fr ?_ ?_ (same_new fr _) ⟨_,upd_same,by rw [List.length_map,List.length_map],fun i b r e1 e2=>?_⟩⟩
  · rw [List.length_map,List.length_map,Array.length_toList,hp.size,sizeLine_eq]; omega
  · rw [he,eo]
  · have e1 : (List.range ps.length).map (fun i=>rs.getD i [])=rs:=by
      apply List.ext_getElem?
      intro i
      rw [List.getElem?_map]
      by_cases hi : i < ps.length
      · rw [List.getElem?_range hi]; simp [show i < rs.length by omega]
      · rw [List.getElem?_eq_none (by simpa using hi),List.getElem?_eq_none (by omega)]; rfl
    have:=hp.map (fun i=>rs.getD i [])
    rw [e1] at this
    exact this
  · rw [List.pairwise_map,List.pairwise_iff_getElem]
    intro i j hi hj hij
    have hj' : j < ps.length:=by rw [Array.length_toList,hp.size] at hj; exact hj
    have:=hu i j (Nat.le_of_lt hij) hj'
    have gi : gA pp i=pp.toList[i]:=by
      rw [Array.length_toList] at hi
      simp [gA,hi]
    have gj : gA pp j=pp.toList[j]:=by
      rw [Array.length_toList] at hj
      simp [gA,hj]
    rw [gi,gj] at this
    exact this
  · rw [List.getElem?_map] at e1 e2
    cases ei : pp.toList[i]? with
    | none=>rw [ei] at e1; cases e1
    | some k=>
      rw [ei] at e1 e2
      have hk:=hmem k (List.mem_of_getElem? ei)
      have eb : ps[k]? = some b:=by have:=Option.some.inj e1; simp [hk] at this; simp [hk,this]
      have er : rs[k]? = some r:=by have:=Option.some.inj e2; simp [show k < rs.length by omega] at this; simp [show k < rs.length by omega,this]
      have hb:=h3 k b r eb er
      rw [upd_ne (ne_of_none hb fr)]
      exact hb
end
end L2
namespace L2
open PySem PySem.Spec PySem.W PyProof.Rows
section
variable {X : Cx}
def uptoN (n : Nat) : List Int:=(List.range n).map fun i=>((i : Nat) : Int)
theorem uptoN_length (n : Nat) : (uptoN n).length=n:=by simp [uptoN]
end
end L2
namespace L2
open PySem PySem.Spec PySem.W PyProof.Rows
theorem uptoN_succ (n : Nat) : uptoN (n + 1)=uptoN n ++ [((n : Nat) : Int)]:=by
  unfold uptoN
  rw [List.range_succ,List.map_append]; rfl
theorem uptoN_mem {n : Nat} {i : Int} : i∈uptoN n↔0≤i∧i < n:=by
  unfold uptoN
  rw [List.mem_map]
  constructor
  · rintro ⟨k,hk,rfl⟩
    have:=List.mem_range.mp hk
    omega
  · intro h
    exact ⟨i.toNat,List.mem_range.mpr (by omega),by omega⟩
abbrev colAt (rs : List (List Int)) (k : Nat) (i : Int) : Int:=(rs.getD i.toNat []).getD k 0
def keyD (rs : List (List Int)) (i : Int) : List Int:=[-(colAt rs 2 i),colAt rs 0 i,i]
def Ordered (key : Int→List Int) (n : Nat) (os : List Int) : Prop:=os.Perm (uptoN n)∧os.Pairwise (fun i j=>lexB (key j) (key i)=false)
theorem ordered_of {key : Int→List Int} {lst : List Int→Int} (hk : ∀ i,lst (key i)=i) {n : Nat} {ss : List (List Int)} (hp : ss.Perm ((uptoN n).map key)) (ho : ss.Pairwise (fun a b=>lexB b a=false)) : Ordered key n (ss.map lst):=by
  have e : (ss.map lst).map key=ss:=by
    rw [List.map_map]
    conv=>rhs; rw [← List.map_id ss]
    refine List.map_congr_left fun r hr=>?_
    obtain ⟨i,_,rfl⟩:=List.mem_map.mp (hp.mem_iff.mp hr)
    show key (lst (key i))=key i
    rw [hk]
  refine ⟨?_,?_⟩
  · have:=hp.map lst
    rw [List.map_map] at this
    rw [show (uptoN n).map (lst ∘ key)=uptoN n by
      conv=>rhs; rw [← List.map_id (uptoN n)]
      exact List.map_congr_left fun i _=>hk i] at this
    exact this
  · rw [← e,List.pairwise_map] at ho
    exact ho
def spOrd (key : List (List Int)→Int→List Int) (ok : List Int→Prop) : Sp:=fun vs H Q _=>∃ (a : Addr) (rs : List (List Int)),vs=[.ref a]∧Rows H a rs∧rs.length≤60∧(∀ r∈rs,ok r)∧
  ∀ (l : Addr) (os : List Int) (H' : Hp),H l=none→Same H H'→Ordered (key rs) rs.length os→H' l=some (.lst (os.map V.int))→Q (.ref l) H'
def okD (r : List Int) : Prop:=r.length=3
theorem row_at {rs : List (List Int)} {i : Nat} {r : List Int} (e : rs[i]? = some r) : rs.getD ((i : Nat) : Int).toNat []=r:=by
  rw [Int.toNat_natCast,List.getD_eq_getElem?_getD,e]; rfl
end L2
namespace L2
open PySem PySem.Spec PySem.W PyProof.Rows
def GoodTo (rs : List (List Int)) (ts : List Int) (i : Nat) : Prop:=∀ (j : Nat) r u,j < i→rs[j]? = some r→ts[j]? = some u→0≤u∧u≤r.getD 1 0
def TakenOk (rs : List (List Int)) (ts : List Int) : Prop:=ts.length=rs.length∧GoodTo rs ts rs.length
def IntsAt (H : Hp) (b : Addr) (ts : List Int) : Prop:=H b=some (.lst (ts.map V.int))
theorem ints_at {os : List Int} {i : Nat} {x : V} (e : (os.map V.int)[i]? = some x) : ∃ v,x = .int v∧os[i]? = some v:=by
  rw [List.getElem?_map] at e
  cases q : os[i]? with
  | none=>rw [q] at e; cases e
  | some v=>rw [q] at e; exact ⟨v,(Option.some.inj e).symm,rfl⟩
theorem atI_ints {os : List Int} {r : Int} {i : Nat} (hr : r=(i : Int)) (h : i < os.length) : atI (os.map V.int) r=some (.int os[i]):=by
  subst hr
  exact atI_nat (by rw [List.getElem?_map,List.getElem?_eq_getElem h]; rfl)
end L2
namespace L2
open PySem PySem.Spec PySem.W PyProof.Rows
def vbm : List Value:=[.type "ValueError",.type "Exception",.type "BaseException",.type "object"]
theorem passN {P : Program} {w : World} {X : Cx} : Passes (CXE P w) X E0:=fun _ _ _ _ _ _ _ h=>by
  obtain ⟨_,_,_,_,_,_,_,_,h,_⟩:=h
  exact h.elim
abbrev okTerm (t : Int) : Prop:=0≤t∧t≤400
def spTerm (c : Addr) : Sp:=fun vs H Q E=>∃ v : Int,vs=[.int v]∧(okTerm v→Q .non H)∧(¬ okTerm v→E (.ref c) none H)
theorem chain_lo {lo v hi : Int} {R : Bool→Prop} (h : R (decide (lo≤v∧v≤hi))) : ∃ i j : Int,V.int lo = .int i∧V.int v = .int j∧∃ b,V.bl (decide (i≤j)) = .bl b∧if b=true then ∃ i' j' : Int,V.int v = .int i'∧V.int hi = .int j'∧∃ b',V.bl (decide (i'≤j')) = .bl b'∧R b' else ∃ b',V.bl false = .bl b'∧R b':=by
  refine ⟨_,_,rfl,rfl,_,rfl,?_⟩
  refine ite2 (fun c=>?_) (fun c=>?_)
  · have c1 : lo≤v:=of_decide_eq_true c
    refine ⟨_,_,rfl,rfl,_,rfl,?_⟩
    have e : decide (v≤hi)=decide (lo≤v∧v≤hi):=by by_cases z : v≤hi <;> simp [z,c1]
    rw [e]; exact h
  · have c1 : ¬ lo≤v:=of_decide_eq_false (Bool.eq_false_iff.mpr c)
    have e : false=decide (lo≤v∧v≤hi):=by simp [c1]
    exact ⟨_,rfl,by rw [e]; exact h⟩
def clCol (cl : Nat→Addr) : Nat→Addr
  | 0=>cl 1
  | 1=>cl 3
  | _=>cl 4
def goesB (tm f l : Int) (r : List Int) : Bool:=decide (f≤r.getD 0 0∧r.getD 0 0≤l + tm)
def goingOf (rs : List (List Int)) (tm f l : Int) : Int:=((rs.filter (goesB tm f l)).map fun r=>r.getD 1 0).sum
theorem filter_take {α : Type} {rs : List α} {i : Nat} {r : α} (p : α→Bool) (e : rs[i]? = some r) : (rs.take (i + 1)).filter p=(rs.take i).filter p ++ if p r=true then [r] else []:=by
  obtain ⟨hi,e'⟩:=List.getElem?_eq_some_iff.mp e
  rw [List.take_succ_eq_append_getElem hi,List.filter_append,e']
  congr 1
  by_cases z : p r=true
  · rw [if_pos z,List.filter_cons_of_pos z]; rfl
  · rw [if_neg z,List.filter_cons_of_neg z]; rfl
def spGoing : Sp:=fun vs H Q _=>∃ (a p : Addr) (tm f l : Int) (rs : List (List Int)),vs=[.ref a,.int tm,.ref p]∧Rows H a rs∧(∀ r∈rs,r.length=2)∧rs.length≤100∧H p=some (.tup [.int f,.int l])∧∀ H',Same H H'→Q (.int (goingOf rs tm f l)) H'
end L2
namespace K11
open PySem L2
structure Txt (K : PySem.W.Frag) (mg : Str→Option Value) (cl : Nat→Addr) : Prop where
  FIRST_DAY : ∃ t,mg "FIRST_DAY" = some (.int 1 t)
  LAST_DAY : ∃ t,mg "LAST_DAY" = some (.int 999 t)
  MOST_TERM : ∃ t,mg "MOST_TERM" = some (.int 400 t)
  MOST_ROWS : ∃ t,mg "MOST_ROWS" = some (.int 30 t)
  MOST_COUNT : ∃ t,mg "MOST_COUNT" = some (.int 10000000000 t)
  MOST_DUTY : ∃ t,mg "MOST_DUTY" = some (.int 1000000 t)
  gCustomsError : mg "CustomsError" = some (.ref (cl 0))
  gBadDay : mg "BadDay" = some (.ref (cl 1))
  gBadTerm : mg "BadTerm" = some (.ref (cl 2))
  gBadCount : mg "BadCount" = some (.ref (cl 3))
  gBadDuty : mg "BadDuty" = some (.ref (cl 4))
  gBadRows : mg "BadRows" = some (.ref (cl 5))
  eBadDay : PySem.W.excIn K (cl 1) vbm "ValueError.__new__" = true
  eBadTerm : PySem.W.excIn K (cl 2) vbm "ValueError.__new__" = true
  eBadCount : PySem.W.excIn K (cl 3) vbm "ValueError.__new__" = true
  eBadDuty : PySem.W.excIn K (cl 4) vbm "ValueError.__new__" = true
  eBadRows : PySem.W.excIn K (cl 5) vbm "ValueError.__new__" = true
abbrev s_is_day : Stmt:=top 11
abbrev n_is_day : List Str:=["day"]
abbrev p_is_day : List Str:=["day"]
theorem sc_is_day : FnScope n_is_day p_is_day (defScope s_is_day):=⟨rfl,rfl,rfl,by decide +kernel,rfl,by decide +kernel,by decide +kernel⟩
abbrev s_check_day : Stmt:=top 12
abbrev n_check_day : List Str:=["day"]
abbrev p_check_day : List Str:=["day"]
theorem sc_check_day : FnScope n_check_day p_check_day (defScope s_check_day):=⟨rfl,rfl,rfl,by decide +kernel,rfl,by decide +kernel,by decide +kernel⟩
abbrev s_check_term : Stmt:=top 13
abbrev n_check_term : List Str:=["term"]
abbrev p_check_term : List Str:=["term"]
theorem sc_check_term : FnScope n_check_term p_check_term (defScope s_check_term):=⟨rfl,rfl,rfl,by decide +kernel,rfl,by decide +kernel,by decide +kernel⟩
abbrev s_check_many : Stmt:=top 18
abbrev n_check_many : List Str:=["rows"]
abbrev p_check_many : List Str:=["rows"]
theorem sc_check_many : FnScope n_check_many p_check_many (defScope s_check_many):=⟨rfl,rfl,rfl,by decide +kernel,rfl,by decide +kernel,by decide +kernel⟩
abbrev s_check_count : Stmt:=top 19
abbrev n_check_count : List Str:=["count"]
abbrev p_check_count : List Str:=["count"]
theorem sc_check_count : FnScope n_check_count p_check_count (defScope s_check_count):=⟨rfl,rfl,rfl,by decide +kernel,rfl,by decide +kernel,by decide +kernel⟩
abbrev s_check_duty : Stmt:=top 20
abbrev n_check_duty : List Str:=["duty"]
abbrev p_check_duty : List Str:=["duty"]
theorem sc_check_duty : FnScope n_check_duty p_check_duty (defScope s_check_duty):=⟨rfl,rfl,rfl,by decide +kernel,rfl,by decide +kernel,by decide +kernel⟩
abbrev s_checked_lots : Stmt:=top 21
abbrev n_checked_lots : List Str:=["lots","told","day","count","duty"]
abbrev p_checked_lots : List Str:=["lots"]
theorem sc_checked_lots : FnScope n_checked_lots p_checked_lots (defScope s_checked_lots):=⟨rfl,rfl,rfl,by decide +kernel,rfl,by decide +kernel,by decide +kernel⟩
abbrev s_checked_outs : Stmt:=top 22
abbrev n_checked_outs : List Str:=["outs","told","day","count"]
abbrev p_checked_outs : List Str:=["outs"]
theorem sc_checked_outs : FnScope n_checked_outs p_checked_outs (defScope s_checked_outs):=⟨rfl,rfl,rfl,by decide +kernel,rfl,by decide +kernel,by decide +kernel⟩
abbrev s_going : Stmt:=top 26
abbrev n_going : List Str:=["outs","term","stretch","first","last"]
abbrev p_going : List Str:=["outs","term","stretch"]
theorem sc_going : FnScope n_going p_going (defScope s_going):=⟨rfl,rfl,rfl,by decide +kernel,rfl,by decide +kernel,by decide +kernel⟩
section
variable {P : Program} {w : World} {K : PySem.W.Frag} {mg : Str→Option Value} {base : Heap} {f : Addr} {fd : FuncData} {cl : Nat→Addr} (T : Txt K mg cl) (B : Bn mg)
include T B
theorem ok_is_day (F : Fun K "is_day" "is_day" s_is_day f fd) : FnOk P w K mg base CX0 1 f fd p_is_day spIsDay:=by
  refine F.ok sc_is_day (fun vs H Q E h=>?_) (fun cdv A outer s H vs Q E hr h=>?_)
  · obtain ⟨d,rfl,_⟩:=h; rfl
  obtain ⟨d,rfl,q⟩:=h
  refine ⟨_,(pss_one (ps_ret (pe_chain op_le op_le (pe_glI rfl T.FIRST_DAY) (pv 0) (pe_glI rfl T.LAST_DAY)))),?_⟩
  refine ⟨_,rfl,_,_,rfl,rfl,_,rfl,?_⟩
  refine ite2 (fun c=>?_) (fun c=>?_)
  · have c1 : (1 : Int)≤d:=of_decide_eq_true c
    refine ⟨_,_,rfl,rfl,?_⟩
    have e : decide (d≤999)=decide (inB d 999):=by by_cases z : d≤999 <;> simp [z,c1,inB]
    show Q (.bl (decide (d≤999))) H
    rw [e]; exact q
  · have c1 : ¬ (1 : Int)≤d:=of_decide_eq_false (Bool.eq_false_iff.mpr c)
    have e : false=decide (inB d 999):=by simp [inB,c1]
    show Q (.bl false) H
    rw [e]; exact q
theorem ok_check_day (G_is_day : Cal P w K mg base CX0 1 "is_day" p_is_day spIsDay) (F : Fun K "check_day" "check_day" s_check_day f fd) : FnOk P w K mg base (CXE P w) 2 f fd p_check_day (spIn (cl 1) 999):=by
  refine F.okE sc_check_day (fun vs H Q E h=>?_) (fun cdv A outer s H vs Q E hr h=>?_)
  · obtain ⟨d,rfl,_⟩:=h; rfl
  obtain ⟨d,rfl,q1,q2⟩:=h
  refine ⟨_,pss_one (ps_if (pt_not (pt_truth (pe_cal G_is_day hr rfl pass0 (pa_c (pv 0) pa_nil)) (fun _=>rfl))) (pss_one (ps_raise (E:=E) rfl T.gBadDay T.eBadDay PySem.F.excBase_ValueError rfl makesE (pa_c pe_str pa_nil))) pss_nil),?_⟩
  refine ⟨_,rfl,d,rfl,_,rfl,?_⟩
  by_cases c : inB d 999
  · rw [decide_eq_true c]
    exact iteF (q1 c)
  · rw [decide_eq_false c]
    exact iteT ⟨by show 1≤sizeLine; decide,q2 c⟩
theorem ok_check_term (F : Fun K "check_term" "check_term" s_check_term f fd) : FnOk P w K mg base (CXE P w) 2 f fd p_check_term (spTerm (cl 2)):=by
  refine F.okE sc_check_term (fun vs H Q E h=>?_) (fun cdv A outer s H vs Q E hr h=>?_)
  · obtain ⟨d,rfl,_⟩:=h; rfl
  obtain ⟨d,rfl,q1,q2⟩:=h
  refine ⟨_,(pss_one (ps_if (pt_not (pt_chain op_le op_le pe_int (pv 0) (pe_glI rfl T.MOST_TERM))) (pss_one (ps_raise (E:=E) rfl T.gBadTerm T.eBadTerm PySem.F.excBase_ValueError rfl makesE (pa_c pe_str pa_nil))) pss_nil)),?_⟩
  refine ⟨_,rfl,?_⟩
  refine chain_lo (lo:=0) (v:=d) (hi:=400) ?_
  by_cases c : okTerm d
  · rw [decide_eq_true c]
    exact iteF (q1 c)
  · rw [decide_eq_false c]
    exact iteT ⟨by show 1≤sizeLine; decide,q2 c⟩
theorem ok_check_many (F : Fun K "check_many" "check_many" s_check_many f fd) : FnOk P w K mg base (CXE P w) 2 f fd p_check_many (spMany (cl 5)):=by
  refine F.okE sc_check_many (fun vs H Q E h=>?_) (fun cdv A outer s H vs Q E hr h=>?_)
  · obtain ⟨a,xs,rfl,_⟩:=h; rfl
  obtain ⟨a,xs,rfl,ha,q1,q2⟩:=h
  refine ⟨_,(pss_one (ps_if (pt_cmpR op_gt (pe_callB call_len_seq rfl B.len PySem.boot_len (pa_c (pv 0) pa_nil)) (pe_glI rfl T.MOST_ROWS) (nomark _)) (pss_one (ps_raise (E:=E) rfl T.gBadRows T.eBadRows PySem.F.excBase_ValueError rfl makesE (pa_c pe_str pa_nil))) pss_nil)),?_⟩
  refine ⟨_,rfl,a,_,rfl,.inl (SqL.of ha),_,_,rfl,rfl,_,rfl,?_⟩
  by_cases c : (30 : Int) < xs.length
  · rw [decide_eq_true c]
    exact iteT ⟨by show 1≤sizeLine; decide,q2 (by omega)⟩
  · rw [decide_eq_false c]
    exact iteF (q1 (by omega))
theorem ok_check_count (F : Fun K "check_count" "check_count" s_check_count f fd) : FnOk P w K mg base (CXE P w) 2 f fd p_check_count (spIn (cl 3) 10000000000):=by
  refine F.okE sc_check_count (fun vs H Q E h=>?_) (fun cdv A outer s H vs Q E hr h=>?_)
  · obtain ⟨d,rfl,_⟩:=h; rfl
  obtain ⟨d,rfl,q1,q2⟩:=h
  refine ⟨_,(pss_one (ps_if (pt_not (pt_chain op_le op_le pe_int (pv 0) (pe_glI rfl T.MOST_COUNT))) (pss_one (ps_raise (E:=E) rfl T.gBadCount T.eBadCount PySem.F.excBase_ValueError rfl makesE (pa_c pe_str pa_nil))) pss_nil)),?_⟩
  refine ⟨_,rfl,?_⟩
  refine chain_in (v:=d) (hi:=10000000000) ?_
  by_cases c : inB d 10000000000
  · rw [decide_eq_true c]
    exact iteF (q1 c)
  · rw [decide_eq_false c]
    exact iteT ⟨by show 1≤sizeLine; decide,q2 c⟩
theorem ok_check_duty (F : Fun K "check_duty" "check_duty" s_check_duty f fd) : FnOk P w K mg base (CXE P w) 2 f fd p_check_duty (spIn (cl 4) 1000000):=by
  refine F.okE sc_check_duty (fun vs H Q E h=>?_) (fun cdv A outer s H vs Q E hr h=>?_)
  · obtain ⟨d,rfl,_⟩:=h; rfl
  obtain ⟨d,rfl,q1,q2⟩:=h
  refine ⟨_,(pss_one (ps_if (pt_not (pt_chain op_le op_le pe_int (pv 0) (pe_glI rfl T.MOST_DUTY))) (pss_one (ps_raise (E:=E) rfl T.gBadDuty T.eBadDuty PySem.F.excBase_ValueError rfl makesE (pa_c pe_str pa_nil))) pss_nil)),?_⟩
  refine ⟨_,rfl,?_⟩
  refine chain_in (v:=d) (hi:=1000000) ?_
  by_cases c : inB d 1000000
  · rw [decide_eq_true c]
    exact iteF (q1 c)
  · rw [decide_eq_false c]
    exact iteT ⟨by show 1≤sizeLine; decide,q2 c⟩
theorem ok_checked_lots (G_check_many : Cal P w K mg base (CXE P w) 2 "check_many" p_check_many (spMany (cl 5))) (G_check_day : Cal P w K mg base (CXE P w) 2 "check_day" p_check_day (spIn (cl 1) 999)) (G_check_count : Cal P w K mg base (CXE P w) 2 "check_count" p_check_count (spIn (cl 3) 10000000000)) (G_check_duty : Cal P w K mg base (CXE P w) 2 "check_duty" p_check_duty (spIn (cl 4) 1000000)) (F : Fun K "checked_lots" "checked_lots" s_checked_lots f fd) : FnOk P w K mg base (CXE P w) 3 f fd p_checked_lots (spChk (cl 5) (clCol cl) 3):=by
  refine F.okE sc_checked_lots (fun vs H Q E h=>?_) (fun cdv A outer s H vs Q E hr h=>?_)
  · obtain ⟨a,rs,rfl,_⟩:=h; rfl
  obtain ⟨a,rs,rfl,hR,h3,q1,q2,q3⟩:=h
  refine ⟨_,(pss_cons (ps_expr (pe_cal (E:=E) G_check_many hr rfl (passE fun _ _ z=>z) (pa_c (pv 0) pa_nil)))
    (pss_cons (ps_set (i:=1) sc_checked_lots.nd rfl (Or.inl rfl) (pe_lst pa_nil))
    (pss_cons (ps_for PassesOwn.leaving rfl (pi_list (pv 0)) (pg_tup rfl (pgs_cons (pg_name (i:=2) sc_checked_lots.nd rfl (Or.inl rfl)) (pgs_cons (pg_name (i:=3) sc_checked_lots.nd rfl (Or.inl rfl)) (pgs_cons (pg_name (i:=4) sc_checked_lots.nd rfl (Or.inl rfl)) pgs_nil)))) (pss_cons (ps_expr (pe_cal (E:=E) G_check_day hr rfl (passE fun _ _ z=>z) (pa_c (pv 2) pa_nil)))
      (pss_cons (ps_expr (pe_cal (E:=E) G_check_count hr rfl (passE fun _ _ z=>z) (pa_c (pv 3) pa_nil)))
      (pss_cons (ps_expr (pe_cal (E:=E) G_check_duty hr rfl (passE fun _ _ z=>z) (pa_c (pv 4) pa_nil)))
      (pss_one (ps_expr (pe_bm PySem.F.plainAttrs_list PySem.F.slot_list_append PySem.F.type_list_append mt_append (pv 1) (pa_c (pe_tup (pa_c (pv 2) (pa_c (pv 3) (pa_c (pv 4) pa_nil)))) pa_nil))))))))
    (pss_one (ps_ret (pv 1)))))),?_⟩
  obtain ⟨xs,ex,exl,exi⟩:=hR.get
  refine ⟨_,rfl,a,xs,rfl,ex,fun c=>?_,fun c=>q1 (by omega)⟩
  have c30 : rs.length≤30:=by omega
  refine ⟨by show 0≤sizeLine; decide,fun l hl=>?_⟩
  refine ⟨_,rfl,a,rfl,⟨xs,SqL.of (by rw [upd_ne (ne_of_none ex hl)]; exact ex)⟩,?_⟩
  refine for_list (xs:=xs) (fun i σ H3=>∃ o2 o3 o4,σ=[some (.ref a),some (.ref l),o2,o3,o4]∧Same H H3∧Rows H3 l (rs.take i)∧rowsBad (rs.take i)=none) ⟨_,_,_,rfl,same_new hl _,Rows.nil upd_same,rfl⟩ ?_ ?_ ?_
  · rintro i σ H3 hi ⟨o2,o3,o4,rfl,sm,_⟩
    exact SqL.of (sm _ _ ex)
  · rintro i x σ H3 exi' ⟨o2,o3,o4,rfl,sm,R3,hb⟩
    obtain ⟨p,r,rfl,er,hp⟩:=exi i x exi'
    obtain ⟨d,c,u,rfl⟩:=len3 (h3 r (List.mem_of_getElem? er))
    refine ⟨p,_,rfl,SqT.of (sm _ _ hp),rfl,_,_,rfl,_,_,rfl,_,_,rfl,rfl,?_⟩
    have bad : ∀ j,rowBad [d,c,u]=some j→E (.ref (clCol cl j)) none H3:=fun j e=>q2 c30 j (rowsBad_hit hb er e) H3 sm
    refine ⟨_,rfl,d,rfl,fun c1=>?_,fun c1=>bad 0 (by simp only [rowBad,if_neg c1])⟩
    refine ⟨_,rfl,c,rfl,fun c2=>?_,fun c2=>bad 1 (by simp only [rowBad,if_pos c1,if_neg c2])⟩
    refine ⟨_,rfl,u,rfl,fun c3=>?_,fun c3=>bad 2 (by simp only [rowBad,if_pos c1,if_pos c2,if_neg c3])⟩
    have good : rowBad [d,c,u]=none:=by simp only [rowBad,if_pos c1,if_pos c2,if_pos c3]
    obtain ⟨ys,ey,eyl,_⟩:=R3.get
    refine ⟨_,rfl,.inl ⟨rfl,_,SqL.of ey⟩,?_⟩
    refine ⟨_,rfl,_,rfl,_,rfl,by show 3≤sizeLine; decide,fun t ht=>?_⟩
    refine ⟨l,ys,.ref t,rfl,rfl,by rw [upd_ne (ne_of_none ey ht)]; exact ey,small1000 (by rw [eyl,List.length_take]; omega),?_⟩
    refine ⟨_,_,_,rfl,(sm.trans (same_new ht _)).young hl,?_,rowsBad_take hb er good⟩
    rw [← take_next er]
    exact R3.push (r:=[d,c,u]) ey ht
  · rintro σ H3 ⟨o2,o3,o4,rfl,sm,R3,hb⟩
    rw [exl,List.take_length] at R3 hb
    exact ⟨_,rfl,q3 c30 hb l H3 hl sm R3⟩
theorem ok_checked_outs (G_check_many : Cal P w K mg base (CXE P w) 2 "check_many" p_check_many (spMany (cl 5))) (G_check_day : Cal P w K mg base (CXE P w) 2 "check_day" p_check_day (spIn (cl 1) 999)) (G_check_count : Cal P w K mg base (CXE P w) 2 "check_count" p_check_count (spIn (cl 3) 10000000000)) (F : Fun K "checked_outs" "checked_outs" s_checked_outs f fd) : FnOk P w K mg base (CXE P w) 3 f fd p_checked_outs (spChk (cl 5) (clCol cl) 2):=by
  refine F.okE sc_checked_outs (fun vs H Q E h=>?_) (fun cdv A outer s H vs Q E hr h=>?_)
  · obtain ⟨a,rs,rfl,_⟩:=h; rfl
  obtain ⟨a,rs,rfl,hR,h3,q1,q2,q3⟩:=h
  refine ⟨_,(pss_cons (ps_expr (pe_cal (E:=E) G_check_many hr rfl (passE fun _ _ z=>z) (pa_c (pv 0) pa_nil)))
    (pss_cons (ps_set (i:=1) sc_checked_outs.nd rfl (Or.inl rfl) (pe_lst pa_nil))
    (pss_cons (ps_for PassesOwn.leaving rfl (pi_list (pv 0)) (pg_tup rfl (pgs_cons (pg_name (i:=2) sc_checked_outs.nd rfl (Or.inl rfl)) (pgs_cons (pg_name (i:=3) sc_checked_outs.nd rfl (Or.inl rfl)) pgs_nil))) (pss_cons (ps_expr (pe_cal (E:=E) G_check_day hr rfl (passE fun _ _ z=>z) (pa_c (pv 2) pa_nil)))
      (pss_cons (ps_expr (pe_cal (E:=E) G_check_count hr rfl (passE fun _ _ z=>z) (pa_c (pv 3) pa_nil)))
      (pss_one (ps_expr (pe_bm PySem.F.plainAttrs_list PySem.F.slot_list_append PySem.F.type_list_append mt_append (pv 1) (pa_c (pe_tup (pa_c (pv 2) (pa_c (pv 3) pa_nil))) pa_nil)))))))
    (pss_one (ps_ret (pv 1)))))),?_⟩
  obtain ⟨xs,ex,exl,exi⟩:=hR.get
  refine ⟨_,rfl,a,xs,rfl,ex,fun c=>?_,fun c=>q1 (by omega)⟩
  have c30 : rs.length≤30:=by omega
  refine ⟨by show 0≤sizeLine; decide,fun l hl=>?_⟩
  refine ⟨_,rfl,a,rfl,⟨xs,SqL.of (by rw [upd_ne (ne_of_none ex hl)]; exact ex)⟩,?_⟩
  refine for_list (xs:=xs) (fun i σ H3=>∃ o2 o3,σ=[some (.ref a),some (.ref l),o2,o3]∧Same H H3∧Rows H3 l (rs.take i)∧rowsBad (rs.take i)=none) ⟨_,_,rfl,same_new hl _,Rows.nil upd_same,rfl⟩ ?_ ?_ ?_
  · rintro i σ H3 hi ⟨o2,o3,rfl,sm,_⟩
    exact SqL.of (sm _ _ ex)
  · rintro i x σ H3 exi' ⟨o2,o3,rfl,sm,R3,hb⟩
    obtain ⟨p,r,rfl,er,hp⟩:=exi i x exi'
    obtain ⟨d,c,rfl⟩:=len2 (h3 r (List.mem_of_getElem? er))
    refine ⟨p,_,rfl,SqT.of (sm _ _ hp),rfl,_,_,rfl,_,_,rfl,rfl,?_⟩
    have bad : ∀ j,rowBad [d,c]=some j→E (.ref (clCol cl j)) none H3:=fun j e=>q2 c30 j (rowsBad_hit hb er e) H3 sm
    refine ⟨_,rfl,d,rfl,fun c1=>?_,fun c1=>bad 0 (by simp only [rowBad,if_neg c1])⟩
    refine ⟨_,rfl,c,rfl,fun c2=>?_,fun c2=>bad 1 (by simp only [rowBad,if_pos c1,if_neg c2])⟩
    have good : rowBad [d,c]=none:=by simp only [rowBad,if_pos c1,if_pos c2]
    obtain ⟨ys,ey,eyl,_⟩:=R3.get
    refine ⟨_,rfl,.inl ⟨rfl,_,SqL.of ey⟩,?_⟩
    refine ⟨_,rfl,_,rfl,by show 2≤sizeLine; decide,fun t ht=>?_⟩
    refine ⟨l,ys,.ref t,rfl,rfl,by rw [upd_ne (ne_of_none ey ht)]; exact ey,small1000 (by rw [eyl,List.length_take]; omega),?_⟩
    refine ⟨_,_,rfl,(sm.trans (same_new ht _)).young hl,?_,rowsBad_take hb er good⟩
    rw [← take_next er]
    exact R3.push (r:=[d,c]) ey ht
  · rintro σ H3 ⟨o2,o3,rfl,sm,R3,hb⟩
    rw [exl,List.take_length] at R3 hb
    exact ⟨_,rfl,q3 c30 hb l H3 hl sm R3⟩
theorem ok_going (F : Fun K "going" "going" s_going f fd) : FnOk P w K mg base CX0 1 f fd p_going spGoing:=by
  refine F.ok sc_going (fun vs H Q E h=>?_) (fun cdv A outer s H vs Q E hr h=>?_)
  · obtain ⟨a,p,tm,f,l,rs,rfl,_⟩:=h; rfl
  obtain ⟨a,p,tm,ff,l,rs,rfl,hR,h2,hn,hp,q⟩:=h
  refine ⟨_,(pss_cons (ps_asg (pv 2) (pg_tup rfl (pgs_cons (pg_name (i:=3) sc_going.nd rfl (Or.inr rfl)) (pgs_cons (pg_name (i:=4) sc_going.nd rfl (Or.inr rfl)) pgs_nil))))
    (pss_one (ps_ret (pe_callB (call_sumI rfl) rfl B.sum PyProof.Rows.boot_sum (pa_c (pe_comp (N':=["day","count","first","last","term"]) (ix:=[none,none,some 3,some 4,some 1]) (g:=(gTup K 2 (gCons (gName 0) (gCons (gName 1) gNil)))) (ti:=(tTest (tChain (rI0 fun i j=>.bl (decide (i≤j))) (rI0 fun i j=>.bl (decide (i≤j))) (tVar 2) (tVar 0) (tOp (rI0 fun i j=>.int (i + j)) (tVar 3) (tVar 4))))) (te:=(tVar 1)) rfl (comp_scope (N:=n_going) (D:=defScope s_going) (by decide +kernel)) (pi_list (pv 0)) (fun C s H fp=>(pg_tup rfl (pgs_cons (pg_name (i:=0) (show (["day","count","first","last","term"] : List Str).Nodup by decide +kernel) rfl (Or.inl rfl)) (pgs_cons (pg_name (i:=1) (show (["day","count","first","last","term"] : List Str).Nodup by decide +kernel) rfl (Or.inl rfl)) pgs_nil)))) (fun C s H fp=>(pifs_one (pt_chain op_le op_le (pv 2) (pv 0) (pe_op op_add (pv 3) (pv 4))))) (fun C s H fp=>(pv 1))) pa_nil))))),?_⟩
  obtain ⟨xs,ex,exl,exi⟩:=hR.get
  refine ⟨_,rfl,p,_,rfl,SqT.of hp,rfl,_,_,rfl,_,_,rfl,rfl,?_⟩
  refine ⟨_,rfl,a,rfl,⟨xs,SqL.of ex⟩,fun D hD=>⟨fun i m H3=>i + m=xs.length∧Same H H3∧H3 D=some (.lst ((((rs.take i).filter (goesB tm ff l)).map fun r=>r.getD 1 0).map V.int)),⟨xs.length,by omega,same_new hD _,upd_same⟩,?_⟩⟩
  rintro i m H3 ⟨him,s3,hD3⟩
  have ex3:=s3 _ _ ex
  by_cases hi : i < xs.length
  · refine .inr ⟨⟨xs,_,SqL.of ex3,List.getElem?_eq_getElem hi⟩,?_⟩
    rintro x H' ⟨rfl,hx⟩
    obtain ⟨pr,r,rfl,er,hpr⟩:=exi i x (hx _ (SqL.of ex3))
    obtain ⟨d,cc,rfl⟩:=len2 (h2 r (List.mem_of_getElem? er))
    refine ⟨pr,_,rfl,SqT.of (s3 _ _ hpr),rfl,_,_,rfl,_,_,rfl,rfl,?_,?_⟩
    · intro k v e
      match k,e with
      | 0,e=>cases e
      | 1,e=>cases e
      | 2,e=>exact e
      | 3,e=>exact e
      | 4,e=>exact e
      | k + 5,e=>cases e
    · have ft:=filter_take (rs:=rs) (goesB tm ff l) er
      have gb : goesB tm ff l [d,cc]=decide (ff≤d∧d≤l + tm):=rfl
      refine ⟨_,rfl,_,rfl,_,_,rfl,rfl,_,rfl,?_⟩
      have yes : (ff≤d∧d≤l + tm)→∃ zs,H' D=some (.lst zs)∧zs.length < sizeLine∧∃ m',m' < m∧(i + 1 + m' = xs.length∧Same H (L2.upd H' D (.lst (zs ++ [.int cc])))∧L2.upd H' D (.lst (zs ++ [.int cc])) D=some (.lst ((((rs.take (i + 1)).filter (goesB tm ff l)).map fun r=>r.getD 1 0).map V.int))):=fun z=>by
        refine ⟨_,hD3,small1000 ?_,m - 1,by omega,by omega,s3.young hD,?_⟩
        · rw [List.length_map,List.length_map]
          have l1:=List.length_filter_le (goesB tm ff l) (rs.take i)
          rw [List.length_take] at l1
          omega
        · rw [upd_same,ft,if_pos (by rw [gb]; exact decide_eq_true z),List.map_append,List.map_append]; rfl
      have no : ¬ (ff≤d∧d≤l + tm)→∃ m',m' < m∧(i + 1 + m' = xs.length∧Same H H'∧H' D=some (.lst ((((rs.take (i + 1)).filter (goesB tm ff l)).map fun r=>r.getD 1 0).map V.int))):=fun z=>by
        refine ⟨m - 1,by omega,by omega,s3,?_⟩
        rw [ft,if_neg (by rw [gb]; intro y; exact z (of_decide_eq_true y)),List.append_nil]
        exact hD3
      by_cases c1 : ff≤d
      · rw [decide_eq_true c1]
        refine iteT ⟨_,rfl,_,rfl,_,_,rfl,rfl,_,_,rfl,rfl,_,rfl,?_⟩
        by_cases c2 : d≤l + tm
        · rw [decide_eq_true c2]
          exact iteT ⟨_,rfl,yes ⟨c1,c2⟩⟩
        · rw [decide_eq_false c2]
          exact iteF (no fun z=>c2 z.2)
      · rw [decide_eq_false c1]
        exact iteF ⟨_,rfl,iteF (no fun z=>c1 z.1)⟩
  · refine .inl ⟨⟨xs,SqL.of ex3,by omega⟩,D,((rs.take i).filter (goesB tm ff l)).map fun r=>r.getD 1 0,rfl,SqL.of hD3,?_⟩
    have ei : rs.take i=rs:=List.take_of_length_le (by omega)
    rw [ei]
    exact q H3 s3
end
end K11
namespace L2
open PySem PySem.Spec PySem.W PyProof.Rows
section
variable {X : Cx} {a b c d e : Expr} {ta tb tc td te : TE} {pos p2 : Pos}
end
theorem keep_refl {σ₀ : St} : ∀ (k : Nat) v,σ₀[k]? = some (some v)→σ₀[k]? = some (some v):=fun _ _ h=>h
theorem keep_set {σ₀ σ : St} {j : Nat} {x : Option V} (h : ∀ (k : Nat) v,σ₀[k]? = some (some v)→σ[k]? = some (some v)) (hj : σ₀[j]? = some none) : ∀ (k : Nat) v,σ₀[k]? = some (some v)→(σ.set j x)[k]? = some (some v):=fun k v e=>by
  have : j≠k:=fun z=>by rw [z,e] at hj; cases hj
  rw [List.getElem?_set_ne this]
  exact h k v e
theorem comp_by {K : PySem.W.Frag} {a D : Addr} {xs : List V} {g : TG} {ti : TT} {te : TE} {σ₀ : St} {H1 : Hp} {R : Hp→Prop} (P : Nat→List V→Hp→Prop) (hD : H1 D=none) (hx : H1 a=some (.lst xs)) (hn : xs.length≤1000)
    (st : ∀ i zs H H',P i zs H→(∀ b o,b≠D→H b=some o→H' b=some o)→P i zs H') (h0 : P 0 [] H1)
    (step : ∀ i x zs H,xs[i]? = some x→Same H1 H→P i zs H→∀ (K1 : V→Hp→Prop) (K2 : Hp→Prop),(∀ y H4,Same H H4→P (i + 1) (zs ++ [y]) H4→K1 y H4)→(∀ H3,Same H H3→P (i + 1) zs H3→K2 H3)→
      g x σ₀ H fun σ2 H2=>(∀ (k : Nat) v,σ₀[k]? = some (some v)→σ2[k]? = some (some v))∧ti σ2 H2 fun b H3=>if b=true then te σ2 H3 K1 else K2 H3)
    (fin : ∀ zs H,Same H1 H→P xs.length zs H→zs.length≤xs.length→H D=some (.lst zs)→R H) :
    ∃ W : Nat→Nat→Hp→Prop,(∃ m,W 0 m (upd H1 D (.lst [])))∧∀ i m H,W i m H→((Itl K a).stop i H∧R H)∨((Itl K a).go i H∧∀ x H',(Itl K a).yld i H x H'→g x σ₀ H' fun σ2 H2=>(∀ (k : Nat) v,σ₀[k]? = some (some v)→σ2[k]? = some (some v))∧ti σ2 H2 fun b H3=>
      if b=true then te σ2 H3 fun y H4=>∃ zs,H4 D=some (.lst zs)∧zs.length < sizeLine∧∃ m',m' < m∧W (i + 1) m' (upd H4 D (.lst (zs ++ [y]))) else ∃ m',m' < m∧W (i + 1) m' H3):=by
  refine ⟨fun i m H=>i + m=xs.length∧Same H1 H∧∃ zs,H D=some (.lst zs)∧zs.length≤i∧P i zs H,⟨xs.length,by omega,same_new hD _,[],upd_same,Nat.le_refl _,st _ _ _ _ h0 fun b o hb e=>by rw [upd_ne hb]; exact e⟩,?_⟩
  rintro i m H ⟨him,s1,zs,hz,hl,hp⟩
  have ex:=s1 _ _ hx
  by_cases hi : i < xs.length
  · refine .inr ⟨⟨xs,_,SqL.of ex,List.getElem?_eq_getElem hi⟩,?_⟩
    rintro x H' ⟨rfl,hy⟩
    refine step i x zs H' (hy _ (SqL.of ex)) s1 hp _ _ (fun y H4 s4 p4=>⟨zs,s4 _ _ hz,small1000 (by omega),m - 1,by omega,by omega,(s1.trans s4).young hD,zs ++ [y],upd_same,by rw [List.length_append,List.length_singleton]; omega,st _ _ _ _ p4 fun b o hb e=>by rw [upd_ne hb]; exact e⟩) fun H3 s3 p3=>⟨m - 1,by omega,by omega,s1.trans s3,zs,s3 _ _ hz,by omega,p3⟩
  · have e : i=xs.length:=by omega
    subst e
    exact .inl ⟨⟨xs,SqL.of ex,Nat.le_refl _⟩,fin zs H s1 hp hl hz⟩
def Tups (H : Hp) (xs : List V) (rs : List (List Int)) : Prop:=xs.length=rs.length∧∀ (i : Nat) x r,xs[i]? = some x→rs[i]? = some r→∃ p,x = .ref p∧H p=some (.tup (r.map V.int))
theorem Tups.keep {H H' : Hp} {xs : List V} {rs : List (List Int)} (h : Tups H xs rs) (k : ∀ (p : Addr) (z : List V),H p=some (.tup z)→H' p=some (.tup z)) : Tups H' xs rs:=⟨h.1,fun i x r e1 e2=>by
  obtain ⟨p,e,hp⟩:=h.2 i x r e1 e2
  exact ⟨p,e,k _ _ hp⟩⟩
theorem Tups.same {H H' : Hp} {xs : List V} {rs : List (List Int)} (h : Tups H xs rs) (s : Same H H') : Tups H' xs rs:=h.keep fun _ _ e=>s _ _ e
theorem Tups.at {H : Hp} {xs : List V} {rs : List (List Int)} (h : Tups H xs rs) {i : Nat} {x : V} (e : xs[i]? = some x) : ∃ p r,x = .ref p∧rs[i]? = some r∧H p=some (.tup (r.map V.int)):=by
  have hi:=(List.getElem?_eq_some_iff.mp e).1
  have hr : rs[i]? = some (rs[i]'(by rw [← h.1]; exact hi)):=List.getElem?_eq_getElem (by rw [← h.1]; exact hi)
  obtain ⟨p,e',hp⟩:=h.2 i x _ e hr
  exact ⟨p,_,e',hr,hp⟩
theorem Rows.tups {H : Hp} {a : Addr} {rs : List (List Int)} (h : Rows H a rs) : ∃ xs,H a=some (.lst xs)∧Tups H xs rs:=by
  obtain ⟨ps,h1,h2,h3⟩:=h
  refine ⟨_,h1,by rw [List.length_map,h2],fun i x r e1 e2=>?_⟩
  rw [List.getElem?_map] at e1
  cases q : ps[i]? with
  | none=>rw [q] at e1; cases e1
  | some p=>rw [q] at e1; cases e1; exact ⟨p,rfl,h3 i p r q e2⟩
theorem getElem_next {α : Type} {rs : List α} {i : Nat} {r : α} (e : rs[i]? = some r) : rs.take (i + 1)=rs.take i ++ [r]:=by
  obtain ⟨hi,e'⟩:=List.getElem?_eq_some_iff.mp e
  rw [List.take_succ_eq_append_getElem hi,e']
def colNo : Nat→Nat
  | 0=>1
  | 1=>3
  | _=>4
theorem clCol_no (cl : Nat→Addr) (j : Nat) : clCol cl j=cl (colNo j):=by
  match j with
  | 0=>rfl
  | 1=>rfl
  | j + 2=>rfl
def rowsNo (rs : List (List Int)) : Option Nat:=if 30 < rs.length then some 5 else (rowsBad rs).map colNo
def bothNo (rs os : List (List Int)) (tm : Int) : Option Nat:=match rowsNo rs with
  | some n=>some n
  | none=>match rowsNo os with
    | some n=>some n
    | none=>if okTerm tm then none else some 2
theorem rowsNo_many {rs : List (List Int)} (h : 30 < rs.length) : rowsNo rs=some 5:=by unfold rowsNo; rw [if_pos h]
theorem rowsNo_bad {rs : List (List Int)} {j : Nat} (h : rs.length≤30) (e : rowsBad rs=some j) : rowsNo rs=some (colNo j):=by unfold rowsNo; rw [if_neg (by omega),e]; rfl
theorem rowsNo_ok {rs : List (List Int)} (h : rs.length≤30) (e : rowsBad rs=none) : rowsNo rs=none:=by unfold rowsNo; rw [if_neg (by omega),e]; rfl
theorem bothNo_lots {rs os : List (List Int)} {tm : Int} {n : Nat} (h : rowsNo rs=some n) : bothNo rs os tm=some n:=by unfold bothNo; rw [h]
theorem bothNo_outs {rs os : List (List Int)} {tm : Int} {n : Nat} (h : rowsNo rs=none) (h' : rowsNo os=some n) : bothNo rs os tm=some n:=by unfold bothNo; rw [h,h']
theorem bothNo_term {rs os : List (List Int)} {tm : Int} (h : rowsNo rs=none) (h' : rowsNo os=none) : bothNo rs os tm=if okTerm tm then none else some 2:=by unfold bothNo; rw [h,h']
def spBoth (cl : Nat→Addr) : Sp:=fun vs H Q E=>∃ (a b : Addr) (tm : Int) (rs os : List (List Int)),vs=[.ref a,.ref b,.int tm]∧Rows H a rs∧(∀ r∈rs,r.length=3)∧Rows H b os∧(∀ r∈os,r.length=2)∧
  (∀ n,bothNo rs os tm=some n→∀ H',Same H H'→E (.ref (cl n)) none H')∧(bothNo rs os tm=none→∀ t l o H',H t=none→H l=none→H o=none→Same H H'→Rows H' l rs→Rows H' o os→H' t=some (.tup [.ref l,.ref o])→Q (.ref t) H')
def dearB (u : Int) (r : List Int) : Bool:=decide (u≤r.getD 2 0)
def unitsOf (rs : List (List Int)) : Int:=(rs.map fun r=>r.getD 1 0).sum
def risingB : Int→List (List Int)→Bool
  | _,[]=>true
  | e,r :: rs=>decide (e < r.getD 0 0∧r.getD 0 0≤r.getD 1 0∧r.getD 1 0≤999) && risingB (r.getD 1 0) rs
def withinB (d : Int) (r : List Int) : Bool:=decide (r.getD 0 0≤d∧d≤r.getD 1 0)
def liesB (d : Int) (ss : List (List Int)) : Bool:=ss.any (withinB d)
def goneOf (os : List (List Int)) (tm : Int) (ss : List (List Int)) : Int:=(ss.map fun r=>goingOf os tm (r.getD 0 0) (r.getD 1 0)).sum
def comeTo (rs os : List (List Int)) (tm u : Int) (ss : List (List Int)) : Int:=unitsOf ((rs.filter (dearB u)).filter fun r=>!liesB (r.getD 0 0) ss) + goneOf os tm ss
end L2
namespace K11
open PySem L2
abbrev s_checked_both : Stmt:=top 23
abbrev n_checked_both : List Str:=["lots","outs","term","goods","gone"]
abbrev p_checked_both : List Str:=["lots","outs","term"]
theorem sc_checked_both : FnScope n_checked_both p_checked_both (defScope s_checked_both):=⟨rfl,rfl,rfl,by decide +kernel,rfl,by decide +kernel,by decide +kernel⟩
section
variable {P : Program} {w : World} {K : PySem.W.Frag} {mg : Str→Option Value} {base : Heap} {f : Addr} {fd : FuncData} {cl : Nat→Addr} (T : Txt K mg cl) (B : Bn mg)
include T B
theorem ok_checked_both (G_checked_lots : Cal P w K mg base (CXE P w) 3 "checked_lots" p_checked_lots (spChk (cl 5) (clCol cl) 3)) (G_checked_outs : Cal P w K mg base (CXE P w) 3 "checked_outs" p_checked_outs (spChk (cl 5) (clCol cl) 2)) (G_check_term : Cal P w K mg base (CXE P w) 2 "check_term" p_check_term (spTerm (cl 2))) (F : Fun K "checked_both" "checked_both" s_checked_both f fd) : FnOk P w K mg base (CXE P w) 4 f fd p_checked_both (spBoth cl):=by
  refine F.okE sc_checked_both (fun vs H Q E h=>?_) (fun cdv A outer s H vs Q E hr h=>?_)
  · obtain ⟨a,b,tm,rs,os,rfl,_⟩:=h; rfl
  obtain ⟨a,b,tm,rs,os,rfl,hR,h3,hO,h2,q1,q2⟩:=h
  refine ⟨_,(pss_cons (ps_set (i:=3) sc_checked_both.nd rfl (Or.inl rfl) (pe_cal (E:=E) G_checked_lots hr rfl (passE fun _ _ z=>z) (pa_c (pv 0) pa_nil)))
    (pss_cons (ps_set (i:=4) sc_checked_both.nd rfl (Or.inl rfl) (pe_cal (E:=E) G_checked_outs hr rfl (passE fun _ _ z=>z) (pa_c (pv 1) pa_nil)))
    (pss_cons (ps_expr (pe_cal (E:=E) G_check_term hr rfl (passE fun _ _ z=>z) (pa_c (pv 2) pa_nil)))
    (pss_one (ps_ret (pe_tup (pa_c (pv 3) (pa_c (pv 4) pa_nil)))))))),?_⟩
  refine ⟨_,rfl,a,rs,rfl,hR,h3,fun c=>q1 5 (bothNo_lots (rowsNo_many c)) H (Same.refl H),fun c j e H' sm=>by rw [clCol_no]; exact q1 _ (bothNo_lots (rowsNo_bad c e)) H' sm,fun rn rb l H1 hl s1 R1=>?_⟩
  have r0:=rowsNo_ok rn rb
  refine ⟨_,rfl,b,os,rfl,hO.same s1,h2,fun c=>q1 5 (bothNo_outs r0 (rowsNo_many c)) H1 s1,fun c j e H' sm=>by rw [clCol_no]; exact q1 _ (bothNo_outs r0 (rowsNo_bad c e)) H' (s1.trans sm),fun on ob o H2 ho s2 R2=>?_⟩
  have o0:=rowsNo_ok on ob
  have bt:=bothNo_term (tm:=tm) r0 o0
  have s12:=s1.trans s2
  refine ⟨_,rfl,tm,rfl,fun c=>?_,fun c=>q1 2 (by rw [bt,if_neg c]) H2 s12⟩
  rw [if_pos c] at bt
  refine ⟨_,rfl,_,rfl,by show 2≤sizeLine; decide,fun t ht=>?_⟩
  have s3:=same_new (H:=H2) ht (.tup [.ref l,.ref o])
  exact q2 bt t l o _ (s12.free ht) hl (s1.free ho) (s12.trans s3) ((R1.same s2).same s3) (R2.same s3) upd_same
end
end K11
namespace L2
open PySem PySem.Spec PyProof.Rows
section
variable {κ : Type} [DecidableEq κ]
def valV (kvs : List (κ×V)) (k : κ) : Option V:=(kvs.find? fun kv=>decide (kv.1=k)).map (·.2)
def putK (kvs : List (κ×V)) (k : κ) (v : V) : List (κ×V):=
  if (kvs.any fun kv=>decide (kv.1=k))=true then kvs.map (fun kv=>if kv.1=k then (kv.1,v) else kv) else kvs ++ [(k,v)]
theorem valV_pos {p : κ×V} {r : List (κ×V)} {k : κ} (e : p.1=k) : valV (p :: r) k=some p.2:=by simp [valV,List.find?_cons,e]
theorem valV_neg {p : κ×V} {r : List (κ×V)} {k : κ} (e : ¬ p.1=k) : valV (p :: r) k=valV r k:=by simp [valV,List.find?_cons,e]
theorem valV_any (k : κ) : ∀ kvs : List (κ×V),(kvs.any fun kv=>decide (kv.1=k))=(valV kvs k).isSome
  | []=>rfl
  | p :: r=>by
    rw [List.any_cons]
    by_cases e : p.1=k
    · simp only [valV_pos e,decide_eq_true e,Bool.true_or,Option.isSome_some]
    · rw [valV_neg e,decide_eq_false e,Bool.false_or]; exact valV_any k r
theorem length_putK (kvs : List (κ×V)) (k : κ) (v : V) : (putK kvs k v).length≤kvs.length + 1:=by
  unfold putK
  split
  · rw [List.length_map]; omega
  · rw [List.length_append,List.length_cons,List.length_nil]; omega
theorem putK_new {kvs : List (κ×V)} {k : κ} (v : V) (h : valV kvs k=none) : putK kvs k v=kvs ++ [(k,v)]:=by
  unfold putK
  rw [valV_any,h]
  exact if_neg (by decide)
theorem RelO.isSome_eq {o : Option V} {u : Option Value} (r : RelO o u) : o.isSome=u.isSome:=by
  cases o with
  | none=>cases u with
    | none=>rfl
    | some _=>exact (show False from r).elim
  | some _=>cases u with
    | none=>exact (show False from r).elim
    | some _=>rfl
theorem KV.any {kvs : List (κ×V)} {vs : List (κ×Value)} (r : KV kvs vs) (k : κ) : (kvs.any fun kv=>decide (kv.1=k))=vs.any fun kv=>decide (kv.1=k):=by
  unfold KV at r
  induction r with
  | nil=>rfl
  | cons h t ih=>rw [List.any_cons,List.any_cons,ih,h.1]
theorem KV.repl {kvs : List (κ×V)} {vs : List (κ×Value)} (r : KV kvs vs) (k : κ) {y : V} {u : Value} (ry : RelV y u) :
    KV (kvs.map fun kv=>if kv.1=k then (kv.1,y) else kv) (vs.map fun kv=>if kv.1=k then (kv.1,u) else kv):=by
  unfold KV at r ⊢
  induction r with
  | nil=>exact .nil
  | @cons p q ps qs h t ih=>
    rw [List.map_cons,List.map_cons]
    refine .cons ?_ ih
    obtain ⟨h1,h2⟩:=h
    by_cases e : p.1=k
    · rw [if_pos e,if_pos (h1.symm.trans e)]; exact ⟨h1,ry⟩
    · rw [if_neg e,if_neg (fun z=>e (h1.trans z))]; exact ⟨h1,h2⟩
theorem KV.put {kvs : List (κ×V)} {vs : List (κ×Value)} (r : KV kvs vs) (k : κ) {y : V} {u : Value} (ry : RelV y u) : KV (putK kvs k y) (stored vs k u):=by
  unfold putK stored
  rw [r.any k]
  by_cases e : (vs.any fun kv=>decide (kv.1=k))=true
  · rw [if_pos e,if_pos e]; exact r.repl k ry
  · rw [if_neg e,if_neg e]; exact Paired.snoc r ⟨rfl,ry⟩
theorem KV.length {kvs : List (κ×V)} {vs : List (κ×Value)} (r : KV kvs vs) : kvs.length=vs.length:=Paired.length r
end
theorem kV_is {P : Program} {w : World} {k : Key} {u : Value} (r : RelV (kV k) u) : (mixKind P w).is k u=true:=by
  cases k with
  | inl i=>obtain ⟨t,e⟩:=(show ∃ t,u=Value.int i t from r); subst e; exact mixKind_int P w i t
  | inr x=>obtain ⟨t,e⟩:=(show ∃ t,u=Value.str x t from r); subst e; exact mixKind_str P w x t
theorem items_are {P : Program} {w : World} : ∀ {ks : List Key} {us : List Value},Vals (ks.map kV) us→ItemsAre (mixKind P w) ks us
  | [],_,r=>by rw [List.map_nil] at r; cases r; exact .nil
  | k :: ks,_,r=>by
    rw [List.map_cons] at r
    cases r with
    | cons h t=>exact .cons (kV_is h) (items_are t)
abbrev KT (H : Hp) : List (List Key×V)→List (List Key×Addr×Value)→Prop:=Paired fun p q=>p.1=q.1∧H q.2.1=some (.tup (p.1.map kV))∧RelV p.2 q.2.2
theorem KT.val {H : Hp} {kvs : List (List Key×V)} {xs : List (List Key×Addr×Value)} (r : KT H kvs xs) (k : List Key) : RelO (valV kvs k) ((atKey xs k).map (·.2)):=by
  induction r with
  | nil=>exact True.intro
  | @cons p q ps qs h t ih=>
    obtain ⟨h1,_,h2⟩:=h
    by_cases e : p.1=k
    · have e' : q.1=k:=h1.symm.trans e
      have b : atKey (q :: qs) k=some q.2:=by simp [atKey,List.find?_cons,e']
      rw [valV_pos e,b]; exact h2
    · have e' : ¬ q.1=k:=fun z=>e (h1.trans z)
      have b : atKey (q :: qs) k=atKey qs k:=by simp [atKey,List.find?_cons,e']
      rw [valV_neg e,b]; exact ih
theorem KT.repl {H : Hp} {kvs : List (List Key×V)} {xs : List (List Key×Addr×Value)} (r : KT H kvs xs) (k : List Key) {y : V} {u : Value} (ry : RelV y u) :
    KT H (kvs.map fun kv=>if kv.1=k then (kv.1,y) else kv) (xs.map (putAt k u)):=by
  induction r with
  | nil=>exact .nil
  | @cons p q ps qs h t ih=>
    rw [List.map_cons,List.map_cons]
    refine .cons ?_ ih
    obtain ⟨h1,h2,h3⟩:=h
    unfold putAt
    by_cases e : p.1=k
    · rw [if_pos e,if_pos (h1.symm.trans e)]; exact ⟨h1,h2,ry⟩
    · rw [if_neg e,if_neg (fun z=>e (h1.trans z))]; exact ⟨h1,h2,h3⟩
theorem KT.put {H : Hp} {kvs : List (List Key×V)} {xs : List (List Key×Addr×Value)} (r : KT H kvs xs) (k : List Key) {b : Addr} {y : V} {u : Value} (hb : H b=some (.tup (k.map kV))) (ry : RelV y u) :
    KT H (putK kvs k y) (storedH xs k b u):=by
  have e : (kvs.any fun kv=>decide (kv.1=k))=(atKey xs k).isSome:=by
    rw [valV_any,(r.val k).isSome_eq,Option.isSome_map]
  unfold putK storedH
  rw [e]
  by_cases q : (atKey xs k).isSome=true
  · rw [if_pos q,if_pos q]; exact r.repl k ry
  · rw [if_neg q,if_neg q]; exact Paired.snoc r ⟨rfl,hb,ry⟩
theorem KT.keeps {H H' : Hp} {kvs : List (List Key×V)} {xs : List (List Key×Addr×Value)} (r : KT H kvs xs) (ht : ∀ b ys,H b=some (.tup ys)→H' b=some (.tup ys)) : KT H' kvs xs:=
  Paired.mapP r fun _ _ z=>⟨z.1,ht _ _ z.2.1,z.2.2⟩
section
variable {P : Program} {w : World} {H : Hp} {h : Heap} {a : Addr}
theorem rd_of {u : HO} (ok : HOk P w H h) (e : Rd H a u) : ObjOk P w H h a u:=e.ok ok
theorem dk_rd {kvs : List (Key×V)} (ok : HOk P w H h) (e : Rd H a (.dK kvs)) : kvs.length≤sizeLine∧(a == sysModules)=false∧∃ vs,KV kvs vs∧h.DictOf (mixKind P w) a vs:=
  show ObjOk P w H h a (.dK kvs) from rd_of ok e
theorem dk_of {kvs : List (Key×V)} (ok : HOk P w H h) (e : H a=some (.dK kvs)) : kvs.length≤sizeLine∧(a == sysModules)=false∧∃ vs,KV kvs vs∧h.DictOf (mixKind P w) a vs:=dk_rd ok (.inl e)
theorem key_of {ks : List Key} (ok : HOk P w H h) (e : H a=some (.tup (ks.map kV))) : (tupleKind (mixKind P w)).is h ks a:=by
  obtain ⟨_,its,r,o,h1,h2,n,h3⟩:=(show ObjOk P w H h a (.tup (ks.map kV)) from ok a _ e)
  exact ⟨o,its.toArray,n,h1,h2,h3,by simpa using items_are r⟩
theorem dt_rd {kvs : List (List Key×V)} (ok : HOk P w H h) (e : Rd H a (.dT kvs)) : kvs.length≤sizeLine∧(a == sysModules)=false∧
    ∃ xs,KT H kvs xs∧h.DictOfH (tupleKind (mixKind P w)) a xs:=by
  obtain ⟨z,y,xs,r,o,es,ep,h1,h2,h3,h4,h5⟩:=(show ObjOk P w H h a (.dT kvs) from rd_of ok e)
  refine ⟨z,y,xs,r,o,es,ep,h1,h2,h3,h4,fun x hx=>?_,h5⟩
  have all : ∀ {l : List (List Key×V)} {m : List (List Key×Addr×Value)},KT H l m→∀ x∈m,(tupleKind (mixKind P w)).is h x.1 x.2.1:=by
    intro l m q
    induction q with
    | nil=>intro x hx; exact nomatch hx
    | @cons p q ps qs hq t ih=>
      intro x hx
      rcases List.mem_cons.mp hx with e | hx
      · subst e
        exact key_of ok (by rw [← hq.1]; exact hq.2.1)
      · exact ih x hx
  exact all r x hx
theorem dt_of {kvs : List (List Key×V)} (ok : HOk P w H h) (e : H a=some (.dT kvs)) : kvs.length≤sizeLine∧(a == sysModules)=false∧
    ∃ xs,KT H kvs xs∧h.DictOfH (tupleKind (mixKind P w)) a xs:=dt_rd ok (.inl e)
end
def DPut (H : Hp) (a : Addr) (y v : V) (H' : Hp) : Prop:=
  (∃ kvs k,H a=some (.dK kvs)∧y=kV k∧kvs.length < sizeLine∧H' = upd H a (.dK (putK kvs k v)))∨
  ∃ kvs k b,H a=some (.dT kvs)∧y = .ref b∧H b=some (.tup (k.map kV))∧kvs.length < sizeLine∧H' = upd H a (.dT (putK kvs k v))
theorem DPut.t {H : Hp} {a b : Addr} {kvs : List (List Key×V)} {k : List Key} {v : V} (e : H a=some (.dT kvs)) (eb : H b=some (.tup (k.map kV))) (hl : kvs.length < sizeLine) :
    DPut H a (.ref b) v (upd H a (.dT (putK kvs k v))):=.inr ⟨kvs,k,b,e,rfl,eb,hl,rfl⟩
section
variable {X : Cx} {pins : List (Addr×Obj)} {σ : St} {H : Hp} {s : Shared} {a : Addr} {y v : V} {u r : Value} {o : Option V} {A : Around} {E : Value→Shared→Prop}
theorem Inv.big (I : Inv X pins σ H s) : sysModules < s.heap.objs.size:=by
  have h : mainGlobals < s.heap.objs.size:=(I.mod.glob.keeps I.bk).lt
  exact Nat.lt_trans (by decide) h
theorem d_write {h' : Heap} {t' : Nat} {ob : HO} (I : Inv X pins σ H s) (mu : Mut (H a)) (hs : Heap.SameBut a s.heap h') (he : ∃ q,h'.get? a=some q) (new : ObjOk X.prog X.w (upd H a ob) h' a ob) :
    Inv X pins σ (upd H a ob) { s with heap:=h',toks:=t' }:=
  I.write (x:=a) (e:=a) mu (.inl rfl) (fun b q hb z=>(hs.2 b hb).trans z) he new
theorem dk_new {P : Program} {w : World} {H' : Hp} {h' : Heap} {kvs : List (Key×V)} {vs : List (Key×Value)} (z : kvs.length≤sizeLine) (hd : (a == sysModules)=false) (rel : KV kvs vs) (dd : h'.DictOf (mixKind P w) a vs) :
    ObjOk P w H' h' a (.dK kvs):=⟨z,hd,vs,rel,dd⟩
theorem d_setItem {H' : Hp} {Q : Unit→Shared→Prop} (hu : A.units + 1 < cLine) (I : Inv X pins σ H s) (g : DPut H a y v H') (ry : RelV y u) (rv : RelV v r) (h : ∀ s',Inv X pins σ H' s'→Q () s') :
    wpAny (model X.prog X.w) A (setItem (.ref a) u r) Q E s:=by
  rcases g with ⟨kvs,k,e,ey,l,eH⟩ | ⟨kvs,k,b,e,ey,eb,l,eH⟩
  · subst ey eH
    obtain ⟨z,hd,vs,rel,dd⟩:=dk_of I.hok e
    have hz : vs.length≤sizeLine:=by rw [← rel.length]; exact z
    have hl : (putK kvs k v).length≤sizeLine:=by have:=length_putK kvs k v; omega
    refine wpAny_setItem_pairs (hsz:=hz) (kV_is ry) dd fun h' dd' hs=>h _ ?_
    have he : ∃ q,h'.get? a=some q:=let ⟨q,_,_,hq,_⟩:=dd'; ⟨q,hq⟩
    exact d_write I (by rw [e]; exact True.intro) hs he (dk_new hl hd (rel.put k rv) dd')
  · subst ey eH
    cases (show u=Value.ref b from ry)
    obtain ⟨z,hd,xs,rel,dd⟩:=dt_of I.hok e
    have hz : xs.length≤sizeLine:=by rw [← Paired.length rel]; exact z
    have hl : (putK kvs k v).length≤sizeLine:=by have:=length_putK kvs k v; omega
    refine wpAny_setItem_heap (hsz:=hz) (tupleKind_room_in1 hu) (key_of I.hok eb) dd fun h' dd' hs=>h _ ?_
    obtain ⟨q,es,ep,hq,h2,h3,h4,_,h5⟩:=dd'
    refine d_write I (by rw [e]; exact True.intro) hs ⟨q,hq⟩ ⟨hl,hd,_,(rel.put k eb rv).keeps fun c ys ec=>?_,q,es,ep,hq,h2,h3,h4,h5⟩
    rw [upd_ne (ne_of ec e (fun z=>nomatch z))]
    exact ec
end
section
variable {X : Cx} {pins : List (Addr×Obj)} {σ : St} {H : Hp} {s : Shared} {a : Addr} {kvs : List (Key×V)} {k : Key} {u : Value} {A : Around} {E : Value→Shared→Prop}
end
def sDPut (td ty tv : TE) : TS:=fun D σ H=>tv σ H fun v H1=>td σ H1 fun x H2=>ty σ H2 fun y H3=>∃ a H4,x = .ref a∧DPut H3 a y v H4∧D.nx σ H4
section
variable {X : Cx} {o i e value : Expr} {pos pos' tpos : Pos} {td ty tv : TE}
theorem ps_dput (hu : X.A.units + 1 < cLine) (ho : PE X o td) (hi : PE X i ty) (hv : PE X value tv) (hs : swapsWith value (some (.Subscript o i pos')) pos.line X.env=pure false) :
    PS X (.Assign [.Subscript o i pos'] value pos) (sDPut td ty tv):=by
  intro pins s σ H D I h
  refine wpAny_Assign_Subscript (thn (hv pins s σ H _ I h) fun r s1 ⟨v,H1,I1,rv,q1⟩=>thn (ho pins s1 σ H1 _ I1 q1) fun u s2 ⟨x,H2,I2,rx,q2⟩=>thn (hi pins s2 σ H2 _ I2 q2) fun iv s3 ⟨y,H3,I3,ry,a,H4,ex,g,q3⟩=>?_) hs
  subst ex
  obtain rfl : u=Value.ref a:=rx
  exact d_setItem hu I3 g ry rv fun s4 I4=>⟨σ,H4,I4,q3⟩
end
theorem dt_empty {P : Program} {w : World} {H : Hp} (h : Heap) (hb : sysModules < h.objs.size) : ObjOk P w H (h.push { cls:=.type "dict",data:=.dict #[] }) h.objs.size (.dT []) :=
  ⟨Nat.zero_le _,beq_eq_false_iff_ne.mpr (Ne.symm (Nat.ne_of_lt hb)),[],.nil,_,#[],0,Heap.get?_push_size _ rfl,⟨rfl,rfl,rfl⟩,rfl,rfl,List.nodup_nil⟩
def tDNewT : TE:=fun _ H Q=>∀ p,H p=none→Q (.ref p) (upd H p (.dT []))
section
variable {X : Cx} {pos : Pos}
theorem pe_dnewT : PE X (.Dict [] [] pos) tDNewT:=fun pins s σ H Q I h=>
  wpAny_Dict_empty ⟨.ref s.heap.objs.size,_,I.laid (a:=s.heap.objs.size) (o:=.dT []) (t':=s.toks) (fun _ _ q=>Heap.get?_push_of_some _ q) (Nat.le_refl _) (dt_empty s.heap I.big),rfl,h _ (I.hok.fresh (Nat.le_refl _))⟩
end
def IsD (H : Hp) (a : Addr) : Prop:=(∃ kvs,Rd H a (.dK kvs))∨∃ kvs,Rd H a (.dT kvs)
theorem isD_at {X : Cx} {pins : List (Addr×Obj)} {σ : St} {H : Hp} {s : Shared} {a : Addr} (I : Inv X pins σ H s) (d : IsD H a) :
    s.TypeIs (.ref a) "dict" ∧ (∀ b,Value.ref a = .ref b→∃ ob,s.heap.get? b=some ob∧ob.dict=none)∧(a == sysModules)=false:=by
  rcases d with ⟨kvs,e⟩ | ⟨kvs,e⟩
  · obtain ⟨_,hd,vs,_,dd⟩:=dk_rd I.hok e
    refine ⟨dd.typeIs,fun b q=>?_,hd⟩
    cases q
    obtain ⟨ob,_,_,h1,h2,_⟩:=dd
    exact ⟨ob,h1,h2.2.1⟩
  · obtain ⟨_,hd,xs,_,dd⟩:=dt_rd I.hok e
    refine ⟨dd.typeIs,fun b q=>?_,hd⟩
    cases q
    obtain ⟨ob,_,_,h1,h2,_⟩:=dd
    exact ⟨ob,h1,h2.2.1⟩
section
variable {X : Cx} {pins : List (Addr×Obj)} {σ : St} {H : Hp} {s : Shared} {a : Addr} {y d : V} {u r : Value} {o : Option V} {A : Around} {E : Value→Shared→Prop}
end
section
variable {X : Cx} {o e f : Expr} {apos cpos : Pos} {td ty tx : TE}
end
section
variable {X : Cx} {pins : List (Addr×Obj)} {σ : St} {H : Hp} {s : Shared} {a : Addr} {kvs : List (Key×V)} {A : Around} {E : Value→Shared→Prop}
end
section
variable {X : Cx} {pins : List (Addr×Obj)} {σ : St} {H : Hp} {s : Shared} {a : Addr} {y : V} {u : Value} {A : Around} {E : Value→Shared→Prop}
end
end L2
namespace L2
open PySem PySem.Spec PyProof.Rows
section
variable {X : Cx} {pins : List (Addr×Obj)} {σ : St} {H : Hp} {s : Shared}
theorem d_dictSet {a b : Addr} {kvs : List (List Key×V)} {k : List Key} {v : V} {r : Value} {A : Around} {E : Value→Shared→Prop} {Q : Unit→Shared→Prop} (hu : A.units < cLine) (I : Inv X pins σ H s) (e : H a=some (.dT kvs)) (eb : H b=some (.tup (k.map kV))) (l : kvs.length < sizeLine) (rv : RelV v r)
    (h : ∀ s',Inv X pins σ (upd H a (.dT (putK kvs k v))) s'→Q () s') : wpAny (model X.prog X.w) A (dictSet a (.ref b) r) Q E s:=by
  obtain ⟨z,hd,xs,rel,dd⟩:=dt_of I.hok e
  have lp:=length_putK kvs k v
  refine wpAny_dictSet_heap (hsz:=by rw [← Paired.length rel]; exact z) (show (tupleKind (mixKind X.prog X.w)).room A from hu) (key_of I.hok eb) dd fun h' dd' hs=>h _ ?_
  obtain ⟨q,es,ep,hq,h2,h3,h4,_,h5⟩:=dd'
  refine d_write I (by rw [e]; exact True.intro) hs ⟨q,hq⟩ ⟨by omega,hd,_,(rel.put k eb rv).keeps fun c ys ec=>?_,q,es,ep,hq,h2,h3,h4,h5⟩
  rw [upd_ne (ne_of ec e (fun z=>nomatch z))]; exact ec
theorem Inv.freeze {a : Addr} {u : HO} {o : Obj} (I : Inv X pins σ H s) (e : H a=some u) (mu : Mut (H a)) (ho : s.heap.get? a=some o) (hu : ObjOk X.prog X.w (upd H a (.frz o u)) s.heap a u) : Inv X pins σ (upd H a (.frz o u)) s:=
  I.write (x:=a) (e:=a) (t':=s.toks) (h':=s.heap) mu (.inl rfl) (fun b q _ z=>z) ⟨o,ho⟩ ⟨ho,hu⟩
def tFrz (t : TE) : TE:=fun σ H Q=>t σ H fun x H1=>∃ a kvs,x = .ref a∧H1 a=some (.dT kvs)∧∀ o,Q x (upd H1 a (.frz o (.dT kvs)))
theorem pe_frz {e : Expr} {t : TE} (h : PE X e t) : PE X e (tFrz t):=by
  intro pins s σ H Q I hw
  refine thn (h pins s σ H _ I hw) fun v s1 ⟨x,H1,I1,r1,a,kvs,ex,ea,q⟩=>?_
  obtain ⟨z,hd,xs,rel,o,es,ep,h1,h2,h3,h4,h5⟩:=(show ObjOk X.prog X.w H1 s1.heap a (.dT kvs) from I1.hok a _ ea)
  refine ⟨x,_,I1.freeze ea (by rw [ea]; exact True.intro) h1 ⟨z,hd,xs,Paired.mapP rel fun _ _ y=>⟨y.1,?_,y.2.2⟩,o,es,ep,h1,h2,h3,h4,h5⟩,r1,q o⟩
  rw [upd_ne (ne_of y.2.1 ea (fun z=>nomatch z))]; exact y.2.1
end
def tDComp (ix : List (Option Nat)) (wi : TI) (g : TG) (ti : TT) (tk tv : TE) : TE:=fun σ H Q=>wi σ H fun J H1=>∀ D,H1 D=none→∃ W : Nat→Nat→Hp→Prop,(∃ m,W 0 m (upd H1 D (.dT [])))∧∀ i m H,W i m H→
  (J.stop i H∧Q (.ref D) H)∨(J.go i H∧∀ x H',J.yld i H x H'→g x (compSt ix σ) H' fun σ2 H2=>(∀ (k : Nat) v,(compSt ix σ)[k]? = some (some v)→σ2[k]? = some (some v))∧ti σ2 H2 fun b H3=>
    if b=true then tk σ2 H3 fun y H4=>tv σ2 H4 fun z H5=>∃ kvs k bb,H5 D=some (.dT kvs)∧y = .ref bb∧H5 bb=some (.tup (k.map kV))∧kvs.length < sizeLine∧∃ m',m' < m∧W (i + 1) m' (upd H5 D (.dT (putK kvs k z))) else ∃ m',m' < m∧W (i + 1) m' H3)
section
variable {X : Cx} {N' : List Str} {ix : List (Option Nat)} {scope : Scope} {kx vx tg iter : Expr} {ifs : List Expr} {pos : Pos} {wi : TI} {g : TG} {ti : TT} {tk tv : TE}
theorem dcomp_loop {X' : Cx} {σ₀ : St} {H : Hp} {s : Shared} {Q : VK} {it D : Addr} {fp : List Addr} {tn : Nat→Heap→Prop} {J : It} {W : Nat→Nat→Hp→Prop} {m0 : Nat} (hu : X'.A.units < cLine) (I : Inv X' [] σ₀ H s) (hcalm : X'.calm=true) (hxe : X'.xe=fun _ _=>False)
    (T : Turn X'.prog X'.w X'.K tg J fp it tn) (st : tn 0 s.heap) (hf : ∀ b∈fp,FpOk X' [] H b) (hg : PG X' tg g) (hi : PIfs X' ifs ti) (hk : PE X' kx tk) (hv : PE X' vx tv) (w0 : W 0 m0 H)
    (turn : ∀ i m H,W i m H→(J.stop i H∧Q (.ref D) H)∨(J.go i H∧∀ x H',J.yld i H x H'→g x σ₀ H' fun σ2 H2=>(∀ (k : Nat) v,σ₀[k]? = some (some v)→σ2[k]? = some (some v))∧ti σ2 H2 fun b H3=>
        if b=true then tk σ2 H3 fun y H4=>tv σ2 H4 fun z H5=>∃ kvs k bb,H5 D=some (.dT kvs)∧y = .ref bb∧H5 bb=some (.tup (k.map kV))∧kvs.length < sizeLine∧∃ m',m' < m∧W (i + 1) m' (upd H5 D (.dT (putK kvs k z))) else ∃ m',m' < m∧W (i + 1) m' H3)) :
    codeAny (model X'.prog X'.w) X'.A (.compStart (.DictComp kx vx [⟨tg,iter,ifs,0⟩] scope pos) 0 (.ref it) (.ref D) X'.env) (fun r s'=>(∃ f,r = .ok f)∧∃ H',Inv X' [] σ₀ H' s'∧Q (.ref D) H') s:=by
  have stat : ∀ {H' : Hp},(∀ b∈fp,H' b=none)→∀ b∈fp,FpOk X' [] H' b:=fun hn b hb=>⟨hn b hb,(hf b hb).2⟩
  have loop : codeAny (model X'.prog X'.w) X'.A (.compLoop (.DictComp kx vx [⟨tg,iter,ifs,0⟩] scope pos) 0 (.ref it) (.ref D) X'.env) (fun r s'=>(∃ f,r = .ok f)∧∃ H',Inv X' [] σ₀ H' s'∧Q (.ref D) H') s:=by
    refine codeAny_loop rfl (fun n s'=>∃ i H',Inv X' [] σ₀ H' s'∧tn i s'.heap∧(∀ b∈fp,H' b=none)∧W i n H') ?_ m0 ⟨0,H,I,st,fun b hb=>(hf b hb).1,w0⟩
    rintro n s1 ⟨i,H1,I1,st1,fr1,w1⟩
    show wpAny _ X'.A ((compTurn (.DictComp kx vx [⟨tg,iter,ifs,0⟩] scope pos) 0 (.ref it) (.ref D) X'.env).onRaise (fun x=>do noteFrame x X'.env; theTreesLotGoes x)) _ _ s1
    refine wpAny_noted ?_
    have noE : ∀ {α : Type} {t : Sem α} {P : α→Shared→Prop} {F : Value→Shared→Prop} {s : Shared},wpAny (model X'.prog X'.w) X'.A t P X'.xe s→wpAny (model X'.prog X'.w) X'.A t P F s:=fun h=>wpAny_mono h (fun _ _ x=>x) fun e s' x=>by rw [hxe] at x; exact x.elim
    rw [compTurn_dict]
    refine wpAny_bind (wpAny_standAt (wpAny_bind ?_))
    rcases turn i n H1 w1 with ⟨stop,qn⟩ | ⟨go,step⟩
    · refine thn (T.done X' rfl rfl rfl hcalm i [] s1 σ₀ H1 _ I1 (stat fr1) st1 stop) fun r s2 ⟨hr,I2⟩=>?_
      subst hr
      exact wpAny_pure ⟨⟨_,rfl⟩,H1,I2,qn⟩
    · refine thn (T.item X' rfl rfl rfl hcalm i [] s1 σ₀ H1 _ I1 (stat fr1) st1 go) fun r s2 ⟨u,hr,h2⟩=>?_
      subst hr
      refine wpAny_bind (thn h2 fun _ s3 ⟨x,H3,I3,r3,y3,st3,fr3⟩=>?_)
      have I3':=I3.pinned (stat fr3) (T.obj _ _ st3)
      refine wpAny_bind (noE (thn (hg _ s3 σ₀ H3 x u _ I3' r3 (step x H3 y3)) fun _ s4 ⟨σ4,H4,I4,hk4,q4⟩=>?_))
      refine wpAny_bind (noE (thn (hi _ s4 σ4 H4 _ I4 q4) fun ok s5 ⟨H5,I5,q5⟩=>?_))
      have again' : ∀ {s7 : Shared} {H7 : Hp} {m' : Nat},Inv X' ([] ++ pinsAt fp s3.heap) σ4 H7 s7→m' < n→W (i + 1) m' H7→∃ m,m < n∧∃ i H',Inv X' [] σ₀ H' s7∧tn i s7.heap∧(∀ b∈fp,H' b=none)∧W i m H':=fun {s7 H7 m'} I7 hm w7=>by
        refine ⟨m',hm,i + 1,H7,I7.unpinned.weak (by rw [I3.len,I7.len]) hk4,T.keep _ _ _ st3 fun b hb o e=>(I7.pin (b,o) (List.mem_append_right _ (List.mem_append_right _ (mem_pinsAt hb e)))).1,fun b hb=>?_,w7⟩
        obtain ⟨o,e,d⟩:=T.obj _ _ st3 b hb
        exact (I7.pin (b,o) (List.mem_append_right _ (List.mem_append_right _ (mem_pinsAt hb e)))).2.1
      cases ok with
      | false=>
        obtain ⟨m',hm,w7⟩:=q5
        exact wpAny_pure ⟨rfl,again' I5 hm w7⟩
      | true=>
        refine wpAny_bind (wpAny_bind (noE (thn (hk _ s5 σ4 H5 _ I5 q5) fun kv s6 ⟨yv,H6,I6,r6,q6⟩=>?_)))
        refine wpAny_bind (wpAny_holding (noE (thn (hv _ s6 σ4 H6 _ I6 q6) fun vv s7 ⟨zv,H7,I7,r7,kvs,k,bb,hD,ey,hbb,hz,m',hm,w7⟩=>?_)))
        subst ey
        cases r6
        refine wpAny_bind (wpAny_standAt (wpAny_holding ?_))
        exact d_dictSet hu I7 hD hbb hz r7 fun s8 I8=>wpAny_pure ⟨rfl,again' I8 hm w7⟩
  refine codeAny_compStart_dict loop (T.self _ 0 s _ _ st loop)
theorem dcomp_block {pins : List (Addr×Obj)} {σ : St} {H : Hp} {s : Shared} {Q : VK} {it : Addr} {fp : List Addr} {tn : Nat→Heap→Prop} {J : It} {E : Value→Shared→Prop} (hu : X.A.units < cLine) (I : Inv X pins σ H s) (hcalm : X.calm=true) (S : CompScope X N' ix scope)
    (T : Turn X.prog X.w X.K tg J fp it tn) (st : tn 0 s.heap) (hf : ∀ b∈fp,FpOk X pins H b)
    (hg : ∀ C s H fp,PG (cxComp X N' scope C s H fp) tg g) (hi : ∀ C s H fp,PIfs (cxComp X N' scope C s H fp) ifs ti) (hk : ∀ C s H fp,PE (cxComp X N' scope C s H fp) kx tk) (hv : ∀ C s H fp,PE (cxComp X N' scope C s H fp) vx tv)
    (h : ∀ D,H D=none→∃ W : Nat→Nat→Hp→Prop,(∃ m,W 0 m (upd H D (.dT [])))∧∀ i m H,W i m H→
      (J.stop i H∧Q (.ref D) H)∨(J.go i H∧∀ x H',J.yld i H x H'→g x (compSt ix σ) H' fun σ2 H2=>(∀ (k : Nat) v,(compSt ix σ)[k]? = some (some v)→σ2[k]? = some (some v))∧ti σ2 H2 fun b H3=>
        if b=true then tk σ2 H3 fun y H4=>tv σ2 H4 fun z H5=>∃ kvs k bb,H5 D=some (.dT kvs)∧y = .ref bb∧H5 bb=some (.tup (k.map kV))∧kvs.length < sizeLine∧∃ m',m' < m∧W (i + 1) m' (upd H5 D (.dT (putK kvs k z))) else ∃ m',m' < m∧W (i + 1) m' H3)) :
    wpAny (model X.prog X.w) X.A newDict (fun acc s3=>wpAny (model X.prog X.w) X.A (newFunctionEnv scope X.env.globals (clOf X.env scope.names []) [] X.env.qual none .none (some X.env)) (fun cenv s4=>
      codeAny (model X.prog X.w) X.A (.compStart (.DictComp kx vx [⟨tg,iter,ifs,0⟩] scope pos) 0 (.ref it) acc { cenv with scope:=relabel scope X.env }) (CompEnd X pins σ Q acc cenv.locals) s4) E s3) E s:=by
  refine wpAny_newObj_type ?_
  have fresh0 : H s.heap.objs.size=none:=I.hok.fresh (Nat.le_refl _)
  have I3 : Inv X pins σ (upd H s.heap.objs.size (.dT [])) { s with heap:=s.heap.push { cls:=.type "dict",data:=.dict #[] } } :=
    I.laid (a:=s.heap.objs.size) (o:=.dT []) (t':=s.toks) (fun b u e=>Heap.get?_push_of_some _ e) (Nat.le_refl _) (dt_empty s.heap I.big)
  obtain ⟨W,⟨m0,w0⟩,turn⟩:=h s.heap.objs.size fresh0
  generalize hD : s.heap.objs.size=D at *
  have lt0 : ∀ b∈fp,b < s.heap.objs.size:=fun b hb=>by obtain ⟨o,e,_⟩:=T.obj 0 _ st b hb; exact Heap.lt_size e
  have hf3 : ∀ b∈fp,FpOk X pins (upd H D (.dT [])) b:=fun b hb=>by
    have nb : b≠D:=by rw [← hD]; exact Nat.ne_of_lt (lt0 b hb)
    obtain ⟨f0,fr⟩:=hf b hb
    exact ⟨by rw [upd_ne nb]; exact f0,fr⟩
  have st3 : tn 0 (s.heap.push { cls:=.type "dict",data:=.dict #[] }):=T.keep _ _ _ st fun b hb o e=>Heap.get?_push_of_some _ e
  revert I3 st3
  generalize (s.heap.push { cls:=.type "dict",data:=.dict #[] })=h3
  intro I3 st3
  have lt3 : ∀ b∈fp,b < h3.objs.size:=fun b hb=>by obtain ⟨o,e,_⟩:=T.obj 0 _ st3 b hb; exact Heap.lt_size e
  refine wpAny_newFunctionEnv S.nocell (fun x hx=>nomatch hx) (fun h4 hns hsb=>?_) S.kind
  have k4 : ∀ b o,h3.get? b=some o→h4.get? b=some o:=fun b o e=>(hsb.2 b (Nat.ne_of_lt (Heap.lt_size e))).trans (Heap.get?_push_of_some _ e)
  have J4 : Inv (cxComp X N' scope h3.objs.size { s with heap:=h3 } (upd H D (.dT [])) fp) [] (compSt ix σ) (upd H D (.dT [])) { s with heap:=h4,toks:=s.toks + ([] : List (Str×Value)).length }:=
    inv_comp (s:={ s with heap:=h3 }) (tk:=s.toks + ([] : List (Str×Value)).length) I3 hcalm S hf3 lt3 hns k4
  have st4 : tn 0 ({ s with heap:=h4,toks:=s.toks + ([] : List (Str×Value)).length } : Shared).heap:=T.keep _ _ _ st3 fun b hb o e=>k4 b o e
  have fr4 : ∀ b∈fp,upd H D (.dT []) b=none:=fun b hb=>(hf3 b hb).1
  revert J4 st4
  generalize ({ s with heap:=h4,toks:=s.toks + ([] : List (Str×Value)).length } : Shared)=s4
  intro J4 st4
  have hf4 : ∀ b∈fp,FpOk (cxComp X N' scope h3.objs.size { s with heap:=h3 } (upd H D (.dT [])) fp) [] (upd H D (.dT [])) b:=fun b hb=>
    ⟨fr4 b hb,Nat.ne_of_lt (lt3 b hb),J4.ok.exfs b hb,.inl hb,fun x c e=>(J4.ok.exf b hb).2 x c e,fun p hp=>nomatch hp⟩
  refine codeAny_mono (dcomp_loop (X':=cxComp X N' scope h3.objs.size { s with heap:=h3 } (upd H D (.dT [])) fp) (Q:=Q) (D:=D) hu J4 rfl rfl T st4 hf4 (hg _ _ _ _) (hi _ _ _ _) (hk _ _ _ _) (hv _ _ _ _) w0 turn) fun r s' ⟨hr,H',J',q'⟩=>?_
  refine ⟨D,H',rfl,hr,I3.call' J'.os J'.base J'.hok J'.bare fun b hb=>?_,?_,?_,q'⟩
  · obtain ⟨_,f1,_,f3,f4,f5⟩:=hf3 b hb
    exact ⟨f3,f1,f4,f5⟩
  · exact I3.fpOk (H':=H') (Nat.le_refl _) J'.free
  · obtain ⟨m,hn,_⟩:=J'.loc
    exact ⟨m,hn⟩
theorem pe_dcomp (hu : X.A.units < cLine) (hcalm : X.calm=true) (S : CompScope X N' ix scope) (hit : PI X tg iter wi)
    (hg : ∀ C s H fp,PG (cxComp X N' scope C s H fp) tg g) (hi : ∀ C s H fp,PIfs (cxComp X N' scope C s H fp) ifs ti) (hk : ∀ C s H fp,PE (cxComp X N' scope C s H fp) kx tk) (hv : ∀ C s H fp,PE (cxComp X N' scope C s H fp) vx tv)
    (hs : ∀ x,foldedSetIterable iter X.env x=pure x:=by intro _; rfl) : PE X (.DictComp kx vx [⟨tg,iter,ifs,0⟩] scope pos) (tDComp ix wi g ti tk tv):=by
  intro pins s σ H Q I h
  show wpAny _ X.A (comprehension (.DictComp kx vx [⟨tg,iter,ifs,0⟩] scope pos) scope X.env _ newDict false (eval iter X.env)) _ _ s
  refine wpAny_comprehension_free (use:=none) rfl hs (comp_closure I S) S.kind S.loc (thn (hit pins s σ H _ I h) fun v s1 h1=>thn h1 fun itv s2 h2=>?_)
  obtain ⟨it,fp,tn,J,H2,rfl,I2,T,st2,f2,q2⟩:=h2
  refine thn (dcomp_block (E:=X.xe) (kx:=kx) (vx:=vx) (iter:=iter) (pos:=pos) hu I2 hcalm S T st2 f2 hg hi hk hv q2) fun acc s3 h3=>thn h3 fun cenv s4 h4=>codeAny_mono h4 fun r s' hr=>?_
  obtain ⟨D,H',rfl,⟨f,rfl⟩,I',⟨g0,g1,_,g3,g4,g5⟩,⟨m,hm⟩,q'⟩:=hr
  exact ⟨m,hm,fun h' hsb=>⟨.ref D,H',I'.turned (t':=s'.toks) (fun b o hb e=>(hsb.2 b hb).trans e) g0 g1 g3 g4 g5,rfl,q'⟩⟩
end
end L2
namespace L2
open PySem PySem.Spec PyProof.Rows
section
variable {prog : Program} {w : World} {A : Around} {E : Value→Shared→Prop} {s : Shared}
def RawD (h : Heap) (d : Addr) (es : Array DictEntry) (ep : Nat) : Prop:=∃ o,h.get? d=some o∧o.data = .dict es ep
theorem raw_iter {v d : Addr} {es : Array DictEntry} {ep : Nat} {Q : Value→Shared→Prop} (hv : s.heap.IsItemsView v d) (hm : RawD s.heap d es ep)
    (hQ : Q (.ref s.heap.objs.size) { s with heap:=s.heap.push { cls:=.type "dict_itemiterator",data:=.fields #[.none,.bool false,.ref d,.int 0 0,.int es.size 0,.int ep 0,.none,.none] } }) : wpAny (model prog w) A (pyIter (.ref v)) Q E s:=by
  obtain ⟨ov,e1,_,e2⟩:=id hv
  obtain ⟨o,e3,e4⟩:=hm
  refine wpAny_pyIter_slot hv.typeIs PySem.F.slot_dict_items_iter (wpAny_call_entry PySem.F.slot_dict_items_iter hv.typeIs PySem.F.entry_dict_items_iter ?_ (PySem.F.args_dict_items_iter_1 _))
  unfold Builtin.«dict_items.__iter__»
  refine wpAny_bind (wpAny_pure (wpAny_bind ?_))
  unfold Builtin.Dict_items.dictOf
  refine wpAny_bind (wpAny_field e1 e2 (x:=.ref d) rfl (wpAny_pure (wpAny_bind ?_)))
  unfold Builtin.Dict_items.newIterator
  refine wpAny_bind (wpAny_dictEntries e3 e4 (wpAny_bind (wpAny_dictEpoch e3 e4 ?_)))
  simp only [show Builtin.Dict_items.ownsTuple "dict_itemiterator" = true from by decide,if_true]
  refine wpAny_newObj_type (wpAny_pure ⟨_,rfl,"dict_itemiterator",_,⟨_,Heap.get?_push_size _ rfl,rfl⟩,PySem.F.slot_dict_itemiterator_next.lookup,?_⟩) (by simp only [sizeOk,Builtin.Dict_items.ownedTupleFields,List.size_toArray,List.length_append,List.length_cons,List.length_nil,sizeLine_eq]; omega)
  simpa [rawInt,Builtin.Dict_items.ownedTupleFields] using hQ
theorem raw_item {it d : Addr} {i ep : Nat} {es : Array DictEntry} {ok ov : Value} {Q : Option Value→Shared→Prop} (hit : IsItemIter s.heap it d i es.size ep ok ov) (hm : RawD s.heap d es ep) (hi : i < es.size)
    (hQ : ∀ h',IsItemIterOut h' it d (i + 1) es.size ep es[i].key es[i].val s.heap.objs.size→h'.get? s.heap.objs.size=some { cls:=.type "tuple",data:=.seq #[es[i].key,es[i].val] } →
      h'.objs.size=s.heap.objs.size + 1→(∀ b o,b≠it→s.heap.get? b=some o→h'.get? b=some o)→Q (some (.ref s.heap.objs.size)) { s with heap:=h' }) : wpAny (model prog w) A (pyNext (.ref it)) Q E s:=by
  obtain ⟨hp,g,dr,tk,os⟩:=s
  obtain ⟨od,hod,hdd⟩:=hm
  have hT : Shared.TypeIs ⟨hp,g,dr,tk,os⟩ (.ref it) "dict_itemiterator" := ⟨_,hit,rfl⟩
  unfold pyNext
  refine wpAny_bind (wpAny_attempt (wpAny_callSpecial?_slot (name:=Str.ofString "__next__") hT PySem.F.slot_dict_itemiterator_next (wpAny_call_entry PySem.F.slot_dict_itemiterator_next hT PySem.F.entry_dict_itemiterator_next ?_ (PySem.F.args_dict_itemiterator_next_1 _))))
  refine wpAny_bind (wpAny_pure (wpAny_bind (wpAny_bind ?_)))
  first | refine wpAny_bind (wpAny_typeNameOfWhole_itemiter hT (wpAny_pure ?_)) | refine wpAny_bind (wpAny_typeNameOf_itemiter hT (wpAny_pure ?_))
  refine wpAny_bind (wpAny_fieldsOf hit rfl ?_)
  simp only [show Builtin.Dict_items.ownsTuple "dict_itemiterator" = true from by decide,if_true]
  show wpAny _ _ (if (Value.ref d == Value.none)=true then _ else _) _ _ _
  rw [if_neg (show ¬ ((Value.ref d == Value.none)=true) from Bool.false_ne_true)]
  refine wpAny_bind (wpAny_pure (wpAny_bind (wpAny_dictEntries hod hdd ?_)))
  rw [if_neg (by simp)]
  refine wpAny_bind (wpAny_pure (wpAny_bind (wpAny_dictEpoch hod hdd ?_)))
  rw [if_neg (by simp)]
  refine wpAny_pure ?_
  simp only [show ¬ ((i : Int) < 0) from by omega,if_false,Int.toNat_natCast,Array.getElem?_eq_getElem hi]
  refine wpAny_bind ?_
  first | refine wpAny_bind (wpAny_typeNameOfWhole_itemiter hT (wpAny_pure ?_)) | refine wpAny_bind (wpAny_typeNameOf_itemiter hT (wpAny_pure ?_))
  refine wpAny_bind (wpAny_isOneOf_itemiter hT ?_)
  show wpAny _ _ (setField (.ref it) 3 (rawInt ((i : Int) + 1)) >>= _) _ _ ⟨hp,g,dr,tk,os⟩
  refine wpAny_bind (wpAny_setField_rec hit (by simp) fun h1 x1 y1=>?_)
  have y1' : Heap.SameBut it hp h1:=y1
  have x1' : IsItemIter h1 it d (i + 1) es.size ep ok ov:=by
    unfold IsItemIter
    rw [show ((i + 1 : Nat) : Int)=(i : Int) + 1 from by omega]
    simpa [rawInt] using x1
  have hT1 : Shared.TypeIs ⟨h1,g,dr,tk,os⟩ (.ref it) "dict_itemiterator" := ⟨_,x1',rfl⟩
  refine wpAny_bind (wpAny_holding (wpAny_bind (wpAny_isOneOf_itemiter hT1 (wpAny_bind (wpAny_isOneOf_itemiter hT1 ?_)))))
  show wpAny _ _ (Builtin.Dict_items.pairFromOwner (.ref it) 6 es[i].key es[i].val) _ _ ⟨h1,g,dr,tk,os⟩
  unfold Builtin.Dict_items.pairFromOwner
  refine wpAny_bind (wpAny_newTuple ?_)
  have x2 : IsItemIter (h1.push { cls:=.type "tuple",data:=.seq #[es[i].key,es[i].val] }) it d (i + 1) es.size ep ok ov:=Heap.get?_push_of_some _ x1'
  generalize e2 : h1.push { cls:=.type "tuple",data:=.seq #[es[i].key,es[i].val] } = h2 at x2
  have z1 : h1.objs.size=hp.objs.size:=y1'.1
  have lt : it < hp.objs.size:=Heap.lt_size hit
  have t2 : h2.get? hp.objs.size=some { cls:=.type "tuple",data:=.seq #[es[i].key,es[i].val] }:=by rw [← e2,← z1]; exact Heap.get?_push_size _ rfl
  have z2 : h2.objs.size=hp.objs.size + 1:=by rw [← e2,Heap.size_push,z1]
  have k2 : ∀ b o,b≠it→hp.get? b=some o→h2.get? b=some o:=fun b o hb e=>by rw [← e2]; exact Heap.get?_push_of_some _ (y1'.extBut b o hb e)
  show wpAny _ _ (Builtin.Dict_items.ownedTupleIsFree (.ref it) >>= _) _ _ ⟨h2,g,dr,tk,os⟩
  rw [z1]
  clear e2 x1 x1' y1 y1' hT1 z1 h1
  refine wpAny_bind ?_
  unfold Builtin.Dict_items.ownedTupleIsFree
  refine wpAny_bind (wpAny_field x2 rfl (x:=.none) rfl (wpAny_pure ?_))
  simp only [if_true]
  refine wpAny_bind (wpAny_field x2 rfl (x:=ok) rfl (wpAny_bind (wpAny_field x2 rfl (x:=ov) rfl ?_)))
  refine wpAny_bind (wpAny_setField_rec x2 (by simp) fun h3 x3 y3=>?_)
  have y3' : Heap.SameBut it h2 h3:=y3
  have x3' : IsItemIter h3 it d (i + 1) es.size ep es[i].key ov:=x3
  refine wpAny_bind (wpAny_setField_rec x3' (by simp) fun h4 x4 y4=>?_)
  have y4' : Heap.SameBut it h3 h4:=y4
  have x4' : IsItemIter h4 it d (i + 1) es.size ep es[i].key es[i].val:=x4
  refine wpAny_bind (wpAny_setField_rec x4' (by simp) fun h5 x5 y5=>?_)
  have y5' : Heap.SameBut it h4 h5:=y5
  have x5' : IsItemIterOut h5 it d (i + 1) es.size ep es[i].key es[i].val hp.objs.size:=x5
  refine wpAny_bind (wpAny_setField_rec x5' (by simp) fun h6 x6 y6=>?_)
  have y6' : Heap.SameBut it h5 h6:=y6
  have x6' : IsItemIterOut h6 it d (i + 1) es.size ep es[i].key es[i].val hp.objs.size:=x6
  have all : ∀ b o,b≠it→h2.get? b=some o→h6.get? b=some o:=fun b o hb e=>y6'.extBut b o hb (y5'.extBut b o hb (y4'.extBut b o hb (y3'.extBut b o hb e)))
  refine wpAny_bind (wpAny_letGo (wpAny_pure (wpAny_pure ⟨_,rfl,wpAny_pure (hQ h6 x6' (all _ _ (Nat.ne_of_gt lt) t2) ?_ fun b o hb e=>all b o hb (k2 b o hb e))⟩)))
  show h6.objs.size=hp.objs.size + 1
  rw [y6'.1,y5'.1,y4'.1,y3'.1,z2]
theorem raw_end {it d : Addr} {i ep : Nat} {es : Array DictEntry} {ok ov : Value} {Q : Option Value→Shared→Prop} (hh : A.handled=none) (hit : IsItemIter s.heap it d i es.size ep ok ov) (hm : RawD s.heap d es ep) (hi : es.size≤i)
    (hQ : ∀ h',Heap.ExtBut it s.heap h'→Q none { s with heap:=h' }) : wpAny (model prog w) A (pyNext (.ref it)) Q E s:=by
  obtain ⟨od,hod,hdd⟩:=hm
  have hT : s.TypeIs (.ref it) "dict_itemiterator" := ⟨_,hit,rfl⟩
  unfold pyNext
  refine wpAny_bind (wpAny_attempt (wpAny_callSpecial?_slot (name:=Str.ofString "__next__") hT PySem.F.slot_dict_itemiterator_next (wpAny_call_entry PySem.F.slot_dict_itemiterator_next hT PySem.F.entry_dict_itemiterator_next ?_ (PySem.F.args_dict_itemiterator_next_1 _))))
  refine wpAny_bind (wpAny_pure (wpAny_bind (wpAny_bind ?_)))
  first | refine wpAny_bind (wpAny_typeNameOfWhole_itemiter hT (wpAny_pure ?_)) | refine wpAny_bind (wpAny_typeNameOf_itemiter hT (wpAny_pure ?_))
  refine wpAny_bind (wpAny_fieldsOf hit rfl ?_)
  simp only [show Builtin.Dict_items.ownsTuple "dict_itemiterator" = true from by decide,if_true]
  show wpAny _ _ (if (Value.ref d == Value.none)=true then _ else _) _ _ s
  rw [if_neg (show ¬ ((Value.ref d == Value.none)=true) from Bool.false_ne_true)]
  refine wpAny_bind (wpAny_pure (wpAny_bind (wpAny_dictEntries hod hdd ?_)))
  rw [if_neg (by simp)]
  refine wpAny_bind (wpAny_pure (wpAny_bind (wpAny_dictEpoch hod hdd ?_)))
  rw [if_neg (by simp)]
  refine wpAny_pure ?_
  simp only [show ¬ ((i : Int) < 0) from by omega,if_false,Int.toNat_natCast,Array.getElem?_eq_none hi]
  refine wpAny_bind ?_
  first | refine wpAny_bind (wpAny_typeNameOfWhole_itemiter hT (wpAny_pure ?_)) | refine wpAny_bind (wpAny_typeNameOf_itemiter hT (wpAny_pure ?_))
  show wpAny _ _ (setField (.ref it) 2 .none >>= _) _ _ s
  refine wpAny_bind (wpAny_setField hit rfl (by simp) ?_)
  show wpAny _ _ (newExc (.type "StopIteration") [] >>= _) _ _ _
  refine wpAny_bind ?_
  simp only [newExc,newTuple]
  refine wpAny_bind (wpAny_newObj_type ?_ (by size_fits))
  refine wpAny_bind (m:=firstArgMember _ _) (wpAny_of_eq (a:=Value.none) (by first | rfl | (simp only [firstArgMember]; rfl)) ?_)
  refine wpAny_newObj_type ?_ (by size_fits)
  simp only [raiseNew]
  refine wpAny_bind (wpAny_handled ?_)
  rw [show A.in1.handled=none from hh]
  refine wpAny_bind (wpAny_pure (wpAny_throw ?_))
  refine wpAny_bind (wpAny_isInstance (b:=true) (T := "StopIteration") ⟨_,Heap.get?_push_size _ rfl,rfl⟩ isSubtype_stop ?_)
  exact wpAny_pure (hQ _ (((Heap.SameBut.update ..).extBut.push _).push _))
end
section
variable {prog : Program} {w : World} {A : Around} {E : Value→Shared→Prop} {s : Shared}
end
def Itd (o : Obj) (kvs : List (List Key×V)) (a : Addr) : It:=
  ⟨fun i H=>H a=some (.frz o (.dT kvs))∧i < kvs.length,
   fun i H v H'=>∃ p b k x,v = .ref p∧H p=none∧H' = upd H p (.tup [.ref b,x])∧kvs[i]? = some (k,x)∧H b=some (.tup (k.map kV)),
   fun i H=>H a=some (.frz o (.dT kvs))∧kvs.length≤i⟩
def itmTn (it d : Addr) (n ep : Nat) (i : Nat) (h : Heap) : Prop:=∃ ok ov,IsItemIter h it d i n ep ok ov
theorem frz_raw {X : Cx} {pins : List (Addr×Obj)} {σ : St} {H : Hp} {s : Shared} {a : Addr} {o : Obj} {kvs : List (List Key×V)} (I : Inv X pins σ H s) (e : H a=some (.frz o (.dT kvs))) : ∃ es ep xs,o.data = .dict es ep∧RawD s.heap a es ep∧KT H kvs xs∧es.toList=xs.map (entryOfKey (tupleKind (mixKind X.prog X.w)))∧es.size=kvs.length:=by
  obtain ⟨h1,z,hd,xs,rel,o',es,ep,h2,h3,h4,h5,h6⟩:=(show ObjOk X.prog X.w H s.heap a (.frz o (.dT kvs)) from I.hok a _ e)
  rw [h1] at h2
  cases h2
  exact ⟨es,ep,xs,h4,⟨o,h1,h4⟩,rel,h5,by rw [size_of_entries h5]; exact (Paired.length rel).symm⟩
theorem kt_at {H : Hp} {kvs : List (List Key×V)} {xs : List (List Key×Addr×Value)} (r : KT H kvs xs) : ∀ {i : Nat} {q : List Key×Addr×Value},xs[i]? = some q→∃ p,kvs[i]? = some p∧p.1=q.1∧H q.2.1=some (.tup (p.1.map kV))∧RelV p.2 q.2.2:=by
  induction r with
  | nil=>intro i q e; cases e
  | cons h t ih=>
    intro i q e
    cases i with
    | zero=>cases e; exact ⟨_,rfl,h⟩
    | succ i=>exact ih e
theorem itemiter_entry : entryFor table "dict_itemiterator.__iter__" = some Builtin.«dict_keyiterator.__iter__»:=entryFor_alias (by kernel_rfl) rfl (id' := "dict_keyiterator.__iter__") (by decide +kernel) (by kernel_rfl)
theorem turn_items {P : Program} {w : World} {K : PySem.W.Frag} {es : List Expr} {x1 : Nat} {tp : Pos} {it d : Addr} {n ep : Nat} {o : Obj} {ents : Array DictEntry} {kvs : List (List Key×V)} (ho : o.data = .dict ents ep) (hn : ents.size=n) : Turn P w K (.Tuple es x1 tp) (Itd o kvs d) [it] it (itmTn it d n ep) where
  mem:=by simp
  obj:=fun i h ⟨ok,ov,t1⟩ c hc=>by
    have e : c=it:=by simpa using hc
    subst e
    exact ⟨_,t1,fun v q=>by cases q⟩
  keep:=fun i h h' ⟨ok,ov,t1⟩ k=>⟨ok,ov,k it (by simp) _ t1⟩
  item:=by
    intro X hP hw hK hc i pins s σ H E I hf ⟨ok,ov,t1⟩ ⟨ea,hi⟩
    subst hP hw hK hn
    obtain ⟨es',ep',xs,e1,hm,rel,he,hsz⟩:=frz_raw I ea
    rw [ho] at e1
    cases e1
    have hi' : i < ents.size:=by omega
    refine raw_item t1 hm hi' fun h' a1 a2 a3 a4=>?_
    refine ⟨_,rfl,wpAny_letOwnedTupleGo_items a1 fun h'' c1 c2=>?_⟩
    have nz : s.heap.objs.size≠it:=Nat.ne_of_gt (Heap.lt_size t1)
    have I1 : Inv X pins σ H { s with heap:=h'',toks:=s.toks }:=I.turnedL hf fun c o hc q=>by
      simp only [List.mem_cons,List.not_mem_nil,or_false] at hc
      exact c2.extBut c o hc (a4 c o hc q)
    have ex : ents[i]? = (xs[i]?).map (entryOfKey (tupleKind (mixKind X.prog X.w))):=entry_at he i
    rw [Array.getElem?_eq_getElem hi'] at ex
    cases q : xs[i]? with
    | none=>rw [q] at ex; cases ex
    | some x=>
      rw [q] at ex
      have eq1 : ents[i]=entryOfKey (tupleKind (mixKind X.prog X.w)) x:=Option.some.inj ex
      obtain ⟨p,ep1,ek,hb,rv⟩:=kt_at rel q
      have k1 : ents[i].key = .ref x.2.1:=by rw [eq1]; rfl
      have v1 : ents[i].val=x.2.2:=by rw [eq1]; rfl
      rw [k1,v1] at a2
      have I2:=I.trackNew (t':=s.toks) (o:=.tup [.ref x.2.1,p.2]) I1 (Nat.le_refl _) ⟨by show 2≤sizeLine; decide,[.ref x.2.1,x.2.2],.cons rfl (.cons rv .nil),⟨_,c2.extBut _ _ nz a2,rfl,_,rfl⟩⟩
      have fr : H s.heap.objs.size=none:=I.hok.fresh (Nat.le_refl _)
      refine ⟨.ref s.heap.objs.size,_,I2,rfl,⟨s.heap.objs.size,x.2.1,p.1,p.2,rfl,fr,rfl,ep1,hb⟩,⟨_,_,c1⟩,fun c hc=>?_⟩
      have e : c=it:=by simpa using hc
      subst e
      rw [upd_ne (Ne.symm nz)]
      exact (hf c (by simp)).1
  done:=by
    intro X hP hw hK hc i pins s σ H E I hf ⟨ok,ov,t1⟩ ⟨ea,hi⟩
    subst hP hw hK hn
    obtain ⟨es',ep',xs,e1,hm,rel,he,hsz⟩:=frz_raw I ea
    rw [ho] at e1
    cases e1
    refine raw_end (I.ok.hd hc) t1 hm (by omega) fun h' kk=>⟨rfl,I.turnedL (t':=s.toks) hf fun c o hc q=>?_⟩
    simp only [List.mem_cons,List.not_mem_nil,or_false] at hc
    exact kk c o hc q
  self:=fun A _ s Q E ⟨ok,ov,t1⟩ h=>by
    have hT : s.TypeIs (.ref it) "dict_itemiterator" := ⟨_,t1,rfl⟩
    refine wpAny_pyIter_slot hT PySem.F.slot_dict_itemiterator_iter (wpAny_call_entry PySem.F.slot_dict_itemiterator_iter hT itemiter_entry ?_ (PySem.F.args_dict_itemiterator_iter_1 _))
    show wpAny _ _ (ret (.ref it)) _ _ s
    exact wpAny_pure ⟨_,rfl,"dict_itemiterator",_,hT,PySem.F.slot_dict_itemiterator_next.lookup,h⟩
section
variable {X : Cx} {es : List Expr} {x1 : Nat} {tp : Pos} {oe : Expr} {td : TE} {apos cpos : Pos}
def iItm (td : TE) : TI:=fun σ H R=>td σ H fun x H1=>∃ a o kvs,x = .ref a∧H1 a=some (.frz o (.dT kvs))∧R (Itd o kvs a) H1
theorem frz_ty {pins : List (Addr×Obj)} {σ : St} {H : Hp} {s : Shared} {a : Addr} {o : Obj} {kvs : List (List Key×V)} (I : Inv X pins σ H s) (e : H a=some (.frz o (.dT kvs))) : s.TypeIs (.ref a) "dict" ∧ (∀ b,Value.ref a = .ref b→∃ ob,s.heap.get? b=some ob∧ob.dict=none)∧(a == sysModules)=false:=isD_at I (.inr ⟨kvs,.inr ⟨o,e⟩⟩)
theorem pi_items (ho : PE X oe td) (hbase : attributeBase oe "items" X.env (eval oe X.env)=eval oe X.env:=by rfl) (hline : (apos.endLine == cpos.line)=true:=by rfl) : PI X (.Tuple es x1 tp) (.Call (.Attribute oe "items" apos) [] [] cpos) (iItm td):=by
  intro pins s σ H R I h
  refine wpAny_Call_method0_late hbase hline (thn (ho pins s σ H _ I h) fun v s1 ⟨x,H1,I1,r1,a,o,kvs,ex,ea,q⟩=>?_)
  subst ex
  cases r1
  obtain ⟨t1,t2,t3⟩:=frz_ty I1 ea
  refine ⟨"dict","dict.items",PySem.F.plainAttrs_dict,PySem.F.slot_dict_items,PySem.F.type_dict_items,t1,t2,Calls.callWith_builtin rfl (PySem.evalArgs_none ?_)⟩
  refine wpAny_call_entry PySem.F.slot_dict_items t1 PySem.F.entry_dict_items ?_ (PySem.F.args_dict_items_1 _)
  unfold Builtin.«dict.items» Builtin.Dict.noArgs
  refine wpAny_bind (wpAny_bind (wpAny_notOrdered_dict t1 ?_))
  show wpAny _ _ (pure a) _ _ s1
  refine wpAny_pure ?_
  show wpAny _ _ (Builtin.Dict.showsAll a >>= _) _ _ s1
  unfold Builtin.Dict.showsAll
  rw [if_neg (by rw [t3]; exact Bool.false_ne_true)]
  refine wpAny_bind (wpAny_pure (wpAny_bind (wpAny_newObj_type (wpAny_pure ⟨_,rfl,?_⟩))))
  obtain ⟨ents,ep,xs,e1,⟨o',r1,r2⟩,rel,he,hsz⟩:=frz_raw I1 ea
  have I2 : Inv X pins σ H1 { s1 with heap:=s1.heap.push { cls:=.type "dict_items",data:=.fields #[.ref a] } }:=I1.kept (t':=s1.toks) fun b o e=>Heap.get?_push_of_some _ e
  refine raw_iter (es:=ents) (ep:=ep) ⟨_,Heap.get?_push_size _ rfl,rfl,rfl⟩ ⟨o',Heap.get?_push_of_some _ r1,r2⟩ ?_
  revert I2
  generalize ({ s1 with heap:=s1.heap.push { cls:=.type "dict_items",data:=.fields #[.ref a] } } : Shared)=s2
  intro I2
  have I3 : Inv X pins σ H1 { s2 with heap:=s2.heap.push { cls:=.type "dict_itemiterator",data:=.fields #[.none,.bool false,.ref a,.int 0 0,.int ents.size 0,.int ep 0,.none,.none] } }:=I2.kept (t':=s2.toks) fun b o e=>Heap.get?_push_of_some _ e
  refine ⟨_,[s2.heap.objs.size],_,_,H1,rfl,I3,turn_items (ep:=ep) (n:=ents.size) e1 rfl,⟨.none,.none,Heap.get?_push_size _ rfl⟩,fun c hc=>?_,q⟩
  have e : c=s2.heap.objs.size:=by simpa using hc
  subst e
  exact I2.fpOk (H':=H1) (Nat.le_refl _) (I2.hok.fresh (Nat.le_refl _))
end
section
variable {X : Cx} {tg : Expr} {oe : Expr} {td : TE} {apos cpos : Pos}
end
end L2
namespace L2
open PySem PySem.Spec PyProof.Rows
theorem compTurn_in (elt target iter : Expr) (c0 : Comprehension) (ifs : List Expr) (scope : Scope) (pos : Pos) (it acc : Value) (env : Env) :
    compTurn (.ListComp elt [c0,⟨target,iter,ifs,0⟩] scope pos) 1 it acc env=(do
      standAt iter.pos
      match ← pyNext it with
      | none=>pure (.done .next)
      | some v=>
        letOwnedTupleGo target it v
        assign target env v
        let mut ok:=true
        for c in ifs do
          if ok then ok ← isTrue c env (eval c env)
        if ok then
          (do let _ ← call (.builtin "list.append") [acc,← eval elt env])
        again (.compLoop (.ListComp elt [c0,⟨target,iter,ifs,0⟩] scope pos) 1 it acc env)):=by rfl
theorem compTurn_out (elt t0 i0 t1 i1 : Expr) (ifs0 ifs : List Expr) (scope : Scope) (pos : Pos) (it acc : Value) (env : Env) :
    compTurn (.ListComp elt [⟨t0,i0,ifs0,0⟩,⟨t1,i1,ifs,0⟩] scope pos) 0 it acc env=(do
      standAt i0.pos
      match ← pyNext it with
      | none=>pure (.done .next)
      | some v=>
        letOwnedTupleGo t0 it v
        assign t0 env v
        let mut ok:=true
        for c in ifs0 do
          if ok then ok ← isTrue c env (eval c env)
        if ok then
          let x ← eval i1 env
          standAt i1.pos
          let x ← foldedSetIterable i1 env x
          let _ ← runOwn (.compStart (.ListComp elt [⟨t0,i0,ifs0,0⟩,⟨t1,i1,ifs,0⟩] scope pos) 1 (← holding [x] (pyIter x)) acc env) env
        again (.compLoop (.ListComp elt [⟨t0,i0,ifs0,0⟩,⟨t1,i1,ifs,0⟩] scope pos) 0 it acc env)):=by rfl
section
variable {prog : Program} {w : World} {A : Around} {R : Result→Shared→Prop} {s : Shared}
theorem compStart_in {elt target iter ifs scope pos it acc env} {c0 : Comprehension}
    (h0 : codeAny (model prog w) A (.compLoop (.ListComp elt [c0,⟨target,iter,ifs,0⟩] scope pos) 1 it acc env) R s)
    (h : wpAny (model prog w) A (pyIter it) (fun it' s'=>codeAny (model prog w) A (.compLoop (.ListComp elt [c0,⟨target,iter,ifs,0⟩] scope pos) 1 it' acc env) R s') (notedBy (model prog w) A env fun x s'=>R (.error x) s') s) :
    codeAny (model prog w) A (.compStart (.ListComp elt [c0,⟨target,iter,ifs,0⟩] scope pos) 1 it acc env) R s:=by
  refine codeAny_of_tree ?_
  show wpAny _ _ ((compStart (.ListComp elt [c0,⟨target,iter,ifs,0⟩] scope pos) 1 it acc env).onRaise (fun x=>do noteFrame x env; standAt theWindowsPlace)) _ _ s
  refine wpAny_notedAt ?_
  unfold compStart
  show wpAny _ _ (ask >>= _) _ _ s
  refine wpAny_bind (wpAny_askSetting (wpAny_ite ?_))
  split
  · first | exact wpAny_bind (wpAny_pure (wpAny_pure (And.intro rfl h0))) | exact wpAny_pure (And.intro rfl h0)
  · refine wpAny_bind (wpAny_rule ?_)
    show wpAny _ _ (standAt iter.pos >>= _) _ _ s
    exact wpAny_bind (wpAny_standAt (wpAny_bind (wpAny_mono h (fun it' s' h'=>wpAny_pure (And.intro rfl h')) fun _ _ x=>x)))
end
section
variable {X : Cx} {N' : List Str} {ix : List (Option Nat)} {scope : Scope} {elt tg iter : Expr} {ifs : List Expr} {pos : Pos} {wi : TI} {g : TG} {ti : TT} {te : TE}
theorem comp_in {X' : Cx} {c0 : Comprehension} {pins : List (Addr×Obj)} {R : Hp→Prop} {σ₀ : St} {H : Hp} {s : Shared} {it D : Addr} {fp : List Addr} {tn : Nat→Heap→Prop} {J : It} {W : Nat→Nat→Hp→Prop} {m0 : Nat} (I : Inv X' pins σ₀ H s) (hcalm : X'.calm=true) (hxe : X'.xe=fun _ _=>False)
    (T : Turn X'.prog X'.w X'.K tg J fp it tn) (st : tn 0 s.heap) (hf : ∀ b∈fp,FpOk X' pins H b) (hg : PG X' tg g) (hi : PIfs X' ifs ti) (he : PE X' elt te) (w0 : W 0 m0 H)
    (turn : ∀ i m H,W i m H→(J.stop i H∧R H)∨(J.go i H∧∀ x H',J.yld i H x H'→g x σ₀ H' fun σ2 H2=>(∀ (k : Nat) v,σ₀[k]? = some (some v)→σ2[k]? = some (some v))∧ti σ2 H2 fun b H3=>
        if b=true then te σ2 H3 fun y H4=>∃ zs,H4 D=some (.lst zs)∧zs.length < sizeLine∧∃ m',m' < m∧W (i + 1) m' (upd H4 D (.lst (zs ++ [y]))) else ∃ m',m' < m∧W (i + 1) m' H3)) :
    codeAny (model X'.prog X'.w) X'.A (.compStart (.ListComp elt [c0,⟨tg,iter,ifs,0⟩] scope pos) 1 (.ref it) (.ref D) X'.env) (fun r s'=>(∃ f,r = .ok f)∧∃ H',Inv X' pins σ₀ H' s'∧R H') s:=by
  have stat : ∀ {H' : Hp},(∀ b∈fp,H' b=none)→∀ b∈fp,FpOk X' pins H' b:=fun hn b hb=>⟨hn b hb,(hf b hb).2⟩
  have loop : codeAny (model X'.prog X'.w) X'.A (.compLoop (.ListComp elt [c0,⟨tg,iter,ifs,0⟩] scope pos) 1 (.ref it) (.ref D) X'.env) (fun r s'=>(∃ f,r = .ok f)∧∃ H',Inv X' pins σ₀ H' s'∧R H') s:=by
    refine codeAny_loop rfl (fun n s'=>∃ i H',Inv X' pins σ₀ H' s'∧tn i s'.heap∧(∀ b∈fp,H' b=none)∧W i n H') ?_ m0 ⟨0,H,I,st,fun b hb=>(hf b hb).1,w0⟩
    rintro n s1 ⟨i,H1,I1,st1,fr1,w1⟩
    show wpAny _ X'.A ((compTurn (.ListComp elt [c0,⟨tg,iter,ifs,0⟩] scope pos) 1 (.ref it) (.ref D) X'.env).onRaise (fun x=>do noteFrame x X'.env; theTreesLotGoes x)) _ _ s1
    refine wpAny_noted ?_
    have noE : ∀ {α : Type} {t : Sem α} {P : α→Shared→Prop} {F : Value→Shared→Prop} {s : Shared},wpAny (model X'.prog X'.w) X'.A t P X'.xe s→wpAny (model X'.prog X'.w) X'.A t P F s:=fun h=>wpAny_mono h (fun _ _ x=>x) fun e s' x=>by rw [hxe] at x; exact x.elim
    rw [compTurn_in]
    refine wpAny_bind (wpAny_standAt (wpAny_bind ?_))
    rcases turn i n H1 w1 with ⟨stop,qn⟩ | ⟨go,step⟩
    · refine thn (T.done X' rfl rfl rfl hcalm i pins s1 σ₀ H1 _ I1 (stat fr1) st1 stop) fun r s2 ⟨hr,I2⟩=>?_
      subst hr
      exact wpAny_pure ⟨⟨_,rfl⟩,H1,I2,qn⟩
    · refine thn (T.item X' rfl rfl rfl hcalm i pins s1 σ₀ H1 _ I1 (stat fr1) st1 go) fun r s2 ⟨u,hr,h2⟩=>?_
      subst hr
      refine wpAny_bind (thn h2 fun _ s3 ⟨x,H3,I3,r3,y3,st3,fr3⟩=>?_)
      have I3':=I3.pinned (stat fr3) (T.obj _ _ st3)
      refine wpAny_bind (noE (thn (hg _ s3 σ₀ H3 x u _ I3' r3 (step x H3 y3)) fun _ s4 ⟨σ4,H4,I4,hk4,q4⟩=>?_))
      refine wpAny_bind (noE (thn (hi _ s4 σ4 H4 _ I4 q4) fun ok s5 ⟨H5,I5,q5⟩=>?_))
      have again' : ∀ {s7 : Shared} {H7 : Hp} {m' : Nat},Inv X' (pins ++ pinsAt fp s3.heap) σ4 H7 s7→m' < n→W (i + 1) m' H7→∃ m,m < n∧∃ i H',Inv X' pins σ₀ H' s7∧tn i s7.heap∧(∀ b∈fp,H' b=none)∧W i m H':=fun {s7 H7 m'} I7 hm w7=>by
        refine ⟨m',hm,i + 1,H7,I7.unpinned.weak (by rw [I3.len,I7.len]) hk4,T.keep _ _ _ st3 fun b hb o e=>(I7.pin (b,o) (List.mem_append_right _ (List.mem_append_right _ (mem_pinsAt hb e)))).1,fun b hb=>?_,w7⟩
        obtain ⟨o,e,d⟩:=T.obj _ _ st3 b hb
        exact (I7.pin (b,o) (List.mem_append_right _ (List.mem_append_right _ (mem_pinsAt hb e)))).2.1
      cases ok with
      | false=>
        obtain ⟨m',hm,w7⟩:=q5
        exact wpAny_pure ⟨rfl,again' I5 hm w7⟩
      | true=>
        refine wpAny_bind (wpAny_bind (noE (thn (he _ s5 σ4 H5 _ I5 q5) fun y s6 ⟨yv,H6,I6,r6,zs,hD,hz,m',hm,w7⟩=>?_)))
        refine wpAny_bind (noE (thn (mt_append (X:=X') _ s6 σ4 H6 (.ref D) [yv] (.ref D) [y] (fun v H7=>H7=upd H6 D (.lst (zs ++ [yv]))) I6 rfl (.cons r6 .nil) ⟨D,zs,yv,rfl,rfl,hD,hz,rfl⟩) fun v s7 ⟨vv,H7,I7,_,e7⟩=>?_))
        subst e7
        exact wpAny_pure (wpAny_pure ⟨rfl,again' I7 hm w7⟩)
  refine compStart_in loop (T.self _ 0 s _ _ st loop)
variable {t1 i1 : Expr} {wi1 : TI} {g1 : TG}
def two (J : It) (R : Hp→Prop) (D : Addr) (σ₀ : St) (g : TG) (wi1 : TI) (g1 : TG) (ti : TT) (te : TE) (W : Nat→Nat→Hp→Prop) : Prop:=∀ i m H,W i m H→(J.stop i H∧R H)∨(J.go i H∧∀ x H',J.yld i H x H'→g x σ₀ H' fun σ1 H1=>(∀ (k : Nat) v,σ₀[k]? = some (some v)→σ1[k]? = some (some v))∧wi1 σ1 H1 fun J1 H2=>
  ∃ W1 : Nat→Nat→Hp→Prop,(∃ m1,W1 0 m1 H2)∧∀ j m1 H3,W1 j m1 H3→(J1.stop j H3∧∃ m',m' < m∧W (i + 1) m' H3)∨(J1.go j H3∧∀ y H4,J1.yld j H3 y H4→g1 y σ1 H4 fun σ2 H5=>(∀ (k : Nat) v,σ1[k]? = some (some v)→σ2[k]? = some (some v))∧ti σ2 H5 fun b H6=>
    if b=true then te σ2 H6 fun z H7=>∃ zs,H7 D=some (.lst zs)∧zs.length < sizeLine∧∃ m',m' < m1∧W1 (j + 1) m' (upd H7 D (.lst (zs ++ [z]))) else ∃ m',m' < m1∧W1 (j + 1) m' H6))
def tComp2 (ix : List (Option Nat)) (wi : TI) (g : TG) (wi1 : TI) (g1 : TG) (ti : TT) (te : TE) : TE:=fun σ H Q=>wi σ H fun J H1=>∀ D,H1 D=none→∃ W : Nat→Nat→Hp→Prop,(∃ m,W 0 m (upd H1 D (.lst [])))∧two J (Q (.ref D)) D (compSt ix σ) g wi1 g1 ti te W
theorem comp2_loop {X' : Cx} {σ₀ : St} {H : Hp} {s : Shared} {R : Hp→Prop} {it D : Addr} {fp : List Addr} {tn : Nat→Heap→Prop} {J : It} {W : Nat→Nat→Hp→Prop} {m0 : Nat} (I : Inv X' [] σ₀ H s) (hcalm : X'.calm=true) (hxe : X'.xe=fun _ _=>False)
    (T : Turn X'.prog X'.w X'.K tg J fp it tn) (st : tn 0 s.heap) (hf : ∀ b∈fp,FpOk X' [] H b) (hg : PG X' tg g) (hi1 : PI X' t1 i1 wi1) (hg1 : PG X' t1 g1) (hi : PIfs X' ifs ti) (he : PE X' elt te) (w0 : W 0 m0 H) (hs1 : ∀ x,foldedSetIterable i1 X'.env x=pure x)
    (turn : two J R D σ₀ g wi1 g1 ti te W) :
    codeAny (model X'.prog X'.w) X'.A (.compStart (.ListComp elt [⟨tg,iter,[],0⟩,⟨t1,i1,ifs,0⟩] scope pos) 0 (.ref it) (.ref D) X'.env) (fun r s'=>(∃ f,r = .ok f)∧∃ H',Inv X' [] σ₀ H' s'∧R H') s:=by
  have stat : ∀ {H' : Hp},(∀ b∈fp,H' b=none)→∀ b∈fp,FpOk X' [] H' b:=fun hn b hb=>⟨hn b hb,(hf b hb).2⟩
  have loop : codeAny (model X'.prog X'.w) X'.A (.compLoop (.ListComp elt [⟨tg,iter,[],0⟩,⟨t1,i1,ifs,0⟩] scope pos) 0 (.ref it) (.ref D) X'.env) (fun r s'=>(∃ f,r = .ok f)∧∃ H',Inv X' [] σ₀ H' s'∧R H') s:=by
    refine codeAny_loop rfl (fun n s'=>∃ i H',Inv X' [] σ₀ H' s'∧tn i s'.heap∧(∀ b∈fp,H' b=none)∧W i n H') ?_ m0 ⟨0,H,I,st,fun b hb=>(hf b hb).1,w0⟩
    rintro n s1 ⟨i,H1,I1,st1,fr1,w1⟩
    show wpAny _ X'.A ((compTurn (.ListComp elt [⟨tg,iter,[],0⟩,⟨t1,i1,ifs,0⟩] scope pos) 0 (.ref it) (.ref D) X'.env).onRaise (fun x=>do noteFrame x X'.env; theTreesLotGoes x)) _ _ s1
    refine wpAny_noted ?_
    have noE : ∀ {α : Type} {t : Sem α} {P : α→Shared→Prop} {F : Value→Shared→Prop} {s : Shared},wpAny (model X'.prog X'.w) X'.A t P X'.xe s→wpAny (model X'.prog X'.w) X'.A t P F s:=fun h=>wpAny_mono h (fun _ _ x=>x) fun e s' x=>by rw [hxe] at x; exact x.elim
    rw [compTurn_out]
    refine wpAny_bind (wpAny_standAt (wpAny_bind ?_))
    rcases turn i n H1 w1 with ⟨stop,qn⟩ | ⟨go,step⟩
    · refine thn (T.done X' rfl rfl rfl hcalm i [] s1 σ₀ H1 _ I1 (stat fr1) st1 stop) fun r s2 ⟨hr,I2⟩=>?_
      subst hr
      exact wpAny_pure ⟨⟨_,rfl⟩,H1,I2,qn⟩
    · refine thn (T.item X' rfl rfl rfl hcalm i [] s1 σ₀ H1 _ I1 (stat fr1) st1 go) fun r s2 ⟨u,hr,h2⟩=>?_
      subst hr
      refine wpAny_bind (thn h2 fun _ s3 ⟨x,H3,I3,r3,y3,st3,fr3⟩=>?_)
      have I3':=I3.pinned (stat fr3) (T.obj _ _ st3)
      refine wpAny_bind (noE (thn (hg _ s3 σ₀ H3 x u _ I3' r3 (step x H3 y3)) fun _ s4 ⟨σ4,H4,I4,hk4,q4⟩=>?_))
      refine wpAny_bind (wpAny_pure ?_)
      simp only [if_true]
      refine wpAny_bind (noE (thn (hi1 _ s4 σ4 H4 _ I4 q4) fun v5 s5 h5=>?_))
      refine wpAny_bind (wpAny_standAt (wpAny_bind (wpAny_of_eq (hs1 v5) ?_)))
      refine wpAny_bind (wpAny_holding (noE (thn h5 fun itv s6 h6=>?_)))
      obtain ⟨it1,fp1,tn1,J1,H6,rfl,I6,T1,st6,f6,W1,⟨m1,w6⟩,turn1⟩:=h6
      refine wpAny_bind (wpAny_runOwn (h:=none) (codeAny_mono (comp_in (pins:=[] ++ pinsAt fp s3.heap) (c0:=⟨tg,iter,[],0⟩) (R:=fun H'=>∃ m',m' < n∧W (i + 1) m' H') (tg:=t1) (iter:=i1) (pos:=pos) (scope:=scope) I6 hcalm hxe T1 st6 f6 hg1 hi he w6 turn1) fun r s7 h7=>?_))
      obtain ⟨⟨fl,rfl⟩,H7,I7,m',hm,w7⟩:=h7
      refine wpAny_pure ⟨rfl,m',hm,i + 1,H7,I7.unpinned.weak (by rw [I3.len,I7.len]) hk4,T.keep _ _ _ st3 fun b hb o e=>(I7.pin (b,o) (List.mem_append_right _ (List.mem_append_right _ (mem_pinsAt hb e)))).1,fun b hb=>?_,w7⟩
      obtain ⟨o,e,d⟩:=T.obj _ _ st3 b hb
      exact (I7.pin (b,o) (List.mem_append_right _ (List.mem_append_right _ (mem_pinsAt hb e)))).2.1
  refine codeAny_compStart_list loop (T.self _ 0 s _ _ st loop)
theorem comp2_block {pins : List (Addr×Obj)} {σ : St} {H : Hp} {s : Shared} {Q : VK} {it : Addr} {fp : List Addr} {tn : Nat→Heap→Prop} {J : It} {E : Value→Shared→Prop} (I : Inv X pins σ H s) (hcalm : X.calm=true) (S : CompScope X N' ix scope)
    (T : Turn X.prog X.w X.K tg J fp it tn) (st : tn 0 s.heap) (hf : ∀ b∈fp,FpOk X pins H b)
    (hg : ∀ C s H fp,PG (cxComp X N' scope C s H fp) tg g) (hi1 : ∀ C s H fp,PI (cxComp X N' scope C s H fp) t1 i1 wi1) (hg1 : ∀ C s H fp,PG (cxComp X N' scope C s H fp) t1 g1) (hi : ∀ C s H fp,PIfs (cxComp X N' scope C s H fp) ifs ti) (he : ∀ C s H fp,PE (cxComp X N' scope C s H fp) elt te) (hs1 : ∀ C s H fp x,foldedSetIterable i1 (cxComp X N' scope C s H fp).env x=pure x)
    (h : ∀ D,H D=none→∃ W : Nat→Nat→Hp→Prop,(∃ m,W 0 m (upd H D (.lst [])))∧two J (Q (.ref D)) D (compSt ix σ) g wi1 g1 ti te W) :
    wpAny (model X.prog X.w) X.A (newList []) (fun acc s3=>wpAny (model X.prog X.w) X.A (newFunctionEnv scope X.env.globals (clOf X.env scope.names []) [] X.env.qual none .none (some X.env)) (fun cenv s4=>
      codeAny (model X.prog X.w) X.A (.compStart (.ListComp elt [⟨tg,iter,[],0⟩,⟨t1,i1,ifs,0⟩] scope pos) 0 (.ref it) acc { cenv with scope:=relabel scope X.env }) (CompEnd X pins σ Q acc cenv.locals) s4) E s3) E s:=by
  refine wpAny_newList ?_
  have fresh0 : H s.heap.objs.size=none:=I.hok.fresh (Nat.le_refl _)
  have I3 : Inv X pins σ (upd H s.heap.objs.size (.lst [])) { s with heap:=s.heap.push { cls:=.type "list",data:=.seq ([] : List Value).toArray } } :=
    I.laid (t':=s.toks) (fun b u e=>Heap.get?_push_of_some _ e) (Nat.le_refl _) ⟨by show 0≤sizeLine; exact Nat.zero_le _,[],0,.nil,Heap.get?_push_size _ rfl⟩
  obtain ⟨W,⟨m0,w0⟩,turn⟩:=h s.heap.objs.size fresh0
  generalize hD : s.heap.objs.size=D at *
  have lt0 : ∀ b∈fp,b < s.heap.objs.size:=fun b hb=>by obtain ⟨o,e,_⟩:=T.obj 0 _ st b hb; exact Heap.lt_size e
  have hf3 : ∀ b∈fp,FpOk X pins (upd H D (.lst [])) b:=fun b hb=>by
    have nb : b≠D:=by rw [← hD]; exact Nat.ne_of_lt (lt0 b hb)
    obtain ⟨f0,fr⟩:=hf b hb
    exact ⟨by rw [upd_ne nb]; exact f0,fr⟩
  have st3 : tn 0 (s.heap.push { cls:=.type "list",data:=.seq ([] : List Value).toArray }):=T.keep _ _ _ st fun b hb o e=>Heap.get?_push_of_some _ e
  revert I3 st3
  generalize (s.heap.push { cls:=.type "list",data:=.seq ([] : List Value).toArray })=h3
  intro I3 st3
  have lt3 : ∀ b∈fp,b < h3.objs.size:=fun b hb=>by obtain ⟨o,e,_⟩:=T.obj 0 _ st3 b hb; exact Heap.lt_size e
  refine wpAny_newFunctionEnv S.nocell (fun x hx=>nomatch hx) (fun h4 hns hsb=>?_) S.kind
  have k4 : ∀ b o,h3.get? b=some o→h4.get? b=some o:=fun b o e=>(hsb.2 b (Nat.ne_of_lt (Heap.lt_size e))).trans (Heap.get?_push_of_some _ e)
  have J4 : Inv (cxComp X N' scope h3.objs.size { s with heap:=h3 } (upd H D (.lst [])) fp) [] (compSt ix σ) (upd H D (.lst [])) { s with heap:=h4,toks:=s.toks + ([] : List (Str×Value)).length }:=
    inv_comp (s:={ s with heap:=h3 }) (tk:=s.toks + ([] : List (Str×Value)).length) I3 hcalm S hf3 lt3 hns k4
  have st4 : tn 0 ({ s with heap:=h4,toks:=s.toks + ([] : List (Str×Value)).length } : Shared).heap:=T.keep _ _ _ st3 fun b hb o e=>k4 b o e
  have fr4 : ∀ b∈fp,upd H D (.lst []) b=none:=fun b hb=>(hf3 b hb).1
  revert J4 st4
  generalize ({ s with heap:=h4,toks:=s.toks + ([] : List (Str×Value)).length } : Shared)=s4
  intro J4 st4
  have hf4 : ∀ b∈fp,FpOk (cxComp X N' scope h3.objs.size { s with heap:=h3 } (upd H D (.lst [])) fp) [] (upd H D (.lst [])) b:=fun b hb=>
    ⟨fr4 b hb,Nat.ne_of_lt (lt3 b hb),J4.ok.exfs b hb,.inl hb,fun x c e=>(J4.ok.exf b hb).2 x c e,fun p hp=>nomatch hp⟩
  refine codeAny_mono (comp2_loop (X':=cxComp X N' scope h3.objs.size { s with heap:=h3 } (upd H D (.lst [])) fp) (R:=Q (.ref D)) (D:=D) J4 rfl rfl T st4 hf4 (hg _ _ _ _) (hi1 _ _ _ _) (hg1 _ _ _ _) (hi _ _ _ _) (he _ _ _ _) w0 (hs1 _ _ _ _) turn) fun r s' ⟨hr,H',J',q'⟩=>?_
  refine ⟨D,H',rfl,hr,I3.call' J'.os J'.base J'.hok J'.bare fun b hb=>?_,?_,?_,q'⟩
  · obtain ⟨_,f1,_,f3,f4,f5⟩:=hf3 b hb
    exact ⟨f3,f1,f4,f5⟩
  · exact I3.fpOk (H':=H') (Nat.le_refl _) J'.free
  · obtain ⟨m,hn,_⟩:=J'.loc
    exact ⟨m,hn⟩
theorem pe_comp2 (hcalm : X.calm=true) (S : CompScope X N' ix scope) (hit : PI X tg iter wi)
    (hg : ∀ C s H fp,PG (cxComp X N' scope C s H fp) tg g) (hi1 : ∀ C s H fp,PI (cxComp X N' scope C s H fp) t1 i1 wi1) (hg1 : ∀ C s H fp,PG (cxComp X N' scope C s H fp) t1 g1) (hi : ∀ C s H fp,PIfs (cxComp X N' scope C s H fp) ifs ti) (he : ∀ C s H fp,PE (cxComp X N' scope C s H fp) elt te)
    (hs1 : ∀ C s H fp x,foldedSetIterable i1 (cxComp X N' scope C s H fp).env x=pure x:=by intros; rfl) (hs : ∀ x,foldedSetIterable iter X.env x=pure x:=by intro _; rfl) : PE X (.ListComp elt [⟨tg,iter,[],0⟩,⟨t1,i1,ifs,0⟩] scope pos) (tComp2 ix wi g wi1 g1 ti te):=by
  intro pins s σ H Q I h
  rw [eval_ListComp]
  refine wpAny_comprehension_free (use:=none) rfl hs (comp_closure I S) S.kind S.loc (thn (hit pins s σ H _ I h) fun v s1 h1=>thn h1 fun itv s2 h2=>?_)
  obtain ⟨it,fp,tn,J,H2,rfl,I2,T,st2,f2,q2⟩:=h2
  refine thn (comp2_block (E:=X.xe) (elt:=elt) (iter:=iter) (pos:=pos) I2 hcalm S T st2 f2 hg hi1 hg1 hi he hs1 q2) fun acc s3 h3=>thn h3 fun cenv s4 h4=>codeAny_mono h4 fun r s' hr=>?_
  obtain ⟨D,H',rfl,⟨f,rfl⟩,I',⟨g0,g1,_,g3,g4,g5⟩,⟨m,hm⟩,q'⟩:=hr
  exact ⟨m,hm,fun h' hsb=>⟨.ref D,H',I'.turned (t':=s'.toks) (fun b o hb e=>(hsb.2 b hb).trans e) g0 g1 g3 g4 g5,rfl,q'⟩⟩
end
end L2
namespace L2
open PySem PySem.Spec PyProof.Rows
def Rise (xs : Array Nat) : Prop:=∀ (i j : Nat) (hi : i < xs.size) (hj : j < xs.size),i < j→xs[i] < xs[j]
theorem below_go {xs : Array Nat} {j : Nat} (h : Rise xs) : ∀ (fuel lo hi : Nat),lo≤hi→hi≤xs.size→hi - lo≤fuel→(∀ (k : Nat) (hk : k < xs.size),k < lo→xs[k] < j)→(∀ (k : Nat) (hk : k < xs.size),hi≤k→j≤xs[k])→
    SetTable.below.go xs j fuel lo hi≤xs.size∧(∀ (k : Nat) (hk : k < xs.size),k < SetTable.below.go xs j fuel lo hi→xs[k] < j)∧∀ (k : Nat) (hk : k < xs.size),SetTable.below.go xs j fuel lo hi≤k→j≤xs[k]:=by
  intro fuel
  induction fuel with
  | zero=>
    intro lo hi h1 h2 h3 h4 h5
    have e : lo=hi:=by omega
    subst e
    exact ⟨h2,h4,h5⟩
  | succ n ih=>
    intro lo hi h1 h2 h3 h4 h5
    unfold SetTable.below.go
    by_cases c : lo < hi
    · rw [if_pos c]
      dsimp only
      have hm : (lo + hi) / 2 < xs.size:=by omega
      have eg : xs.getD ((lo + hi) / 2) j=xs[(lo + hi) / 2]:=by rw [Array.getD_eq_getD_getElem?,Array.getElem?_eq_getElem hm]; rfl
      rw [eg]
      by_cases c2 : xs[(lo + hi) / 2] < j
      · rw [if_pos c2]
        refine ih _ _ (by omega) h2 (by omega) (fun k hk hlt=>?_) h5
        by_cases c3 : k=(lo + hi) / 2
        · subst c3; exact c2
        · have:=h k ((lo + hi) / 2) hk hm (by omega)
          omega
      · rw [if_neg c2]
        refine ih _ _ (by omega) (by omega) (by omega) h4 (fun k hk hge=>?_)
        by_cases c3 : k=(lo + hi) / 2
        · subst c3; omega
        · have:=h ((lo + hi) / 2) k hm hk (by omega)
          omega
    · rw [if_neg c]
      have e : lo=hi:=by omega
      subst e
      exact ⟨h2,h4,h5⟩
theorem below_at {xs : Array Nat} (h : Rise xs) (j : Nat) : SetTable.below xs j≤xs.size∧(∀ (k : Nat) (hk : k < xs.size),k < SetTable.below xs j→xs[k] < j)∧∀ (k : Nat) (hk : k < xs.size),SetTable.below xs j≤k→j≤xs[k]:=
  below_go h xs.size 0 xs.size (Nat.zero_le _) (Nat.le_refl _) (by omega) (fun k _ z=>absurd z (Nat.not_lt_zero _)) (fun k hk z=>absurd hk (by omega))
theorem size_insert {α : Type} (xs : Array α) (p : Nat) (x : α) (hp : p≤xs.size) : (SetTable.insertAt xs p x).size=xs.size + 1:=by
  unfold SetTable.insertAt
  rw [Array.size_append,Array.size_push,Array.size_extract,Array.size_extract]
  omega
theorem get_insert {α : Type} (xs : Array α) (p : Nat) (x : α) (hp : p≤xs.size) (i : Nat) : (SetTable.insertAt xs p x)[i]? = if i < p then xs[i]? else if i=p then some x else xs[i - 1]?:=by
  unfold SetTable.insertAt
  have s1 : ((xs.extract 0 p).push x).size=p + 1:=by rw [Array.size_push,Array.size_extract]; omega
  by_cases c1 : i < p
  · rw [if_pos c1,Array.getElem?_append_left (by omega),Array.getElem?_push_lt (by rw [Array.size_extract]; omega)]
    rw [← Array.getElem?_eq_getElem,Array.getElem?_extract]
    rw [if_pos (by omega)]
    congr 1
    omega
  · rw [if_neg c1]
    by_cases c2 : i=p
    · subst c2
      rw [if_pos rfl,Array.getElem?_append_left (by omega),Array.getElem?_push,if_pos (by rw [Array.size_extract]; omega)]
    · rw [if_neg c2,Array.getElem?_append_right (by omega),Array.getElem?_extract,s1]
      by_cases c3 : i - (p + 1) < xs.size - p
      · rw [if_pos (by omega)]
        congr 1
        omega
      · rw [if_neg (by omega),Array.getElem?_eq_none (by omega)]
theorem rise_insert {xs : Array Nat} (h : Rise xs) {j : Nat} (hn : xs[SetTable.below xs j]?≠some j) : Rise (SetTable.insertAt xs (SetTable.below xs j) j):=by
  obtain ⟨b1,b2,b3⟩:=below_at h j
  generalize SetTable.below xs j=p at *
  have val : ∀ (i : Nat) (hi : i < (SetTable.insertAt xs p j).size),some (SetTable.insertAt xs p j)[i]=if i < p then xs[i]? else if i=p then some j else xs[i - 1]?:=fun i hi=>by rw [← get_insert xs p j b1 i,Array.getElem?_eq_getElem hi]
  have above : ∀ (k : Nat) (hk : k < xs.size),p≤k→j < xs[k]:=fun k hk hpk=>by
    have hp : p < xs.size:=by omega
    have h1:=b3 p hp (Nat.le_refl _)
    have h2 : xs[p]≠j:=fun z=>hn (by rw [Array.getElem?_eq_getElem hp,z])
    by_cases c : k=p
    · subst c; omega
    · have:=h p k hp hk (by omega)
      omega
  intro i k hi hk hik
  have sz:=size_insert xs p j b1
  have vi:=val i hi
  have vk:=val k hk
  by_cases c1 : k < p
  · rw [if_pos (by omega),Array.getElem?_eq_getElem (by omega)] at vi
    rw [if_pos c1,Array.getElem?_eq_getElem (by omega)] at vk
    rw [Option.some.inj vi,Option.some.inj vk]
    exact h i k (by omega) (by omega) hik
  · rw [if_neg c1] at vk
    by_cases c2 : k=p
    · rw [if_pos c2] at vk
      rw [if_pos (by omega),Array.getElem?_eq_getElem (by omega)] at vi
      rw [Option.some.inj vi,Option.some.inj vk]
      exact b2 i (by omega) (by omega)
    · rw [if_neg c2,Array.getElem?_eq_getElem (by omega)] at vk
      rw [Option.some.inj vk]
      by_cases c3 : i < p
      · rw [if_pos c3,Array.getElem?_eq_getElem (by omega)] at vi
        rw [Option.some.inj vi]
        exact h i (k - 1) (by omega) (by omega) (by omega)
      · rw [if_neg c3] at vi
        by_cases c4 : i=p
        · rw [if_pos c4] at vi
          rw [Option.some.inj vi]
          exact above (k - 1) (by omega) (by omega)
        · rw [if_neg c4,Array.getElem?_eq_getElem (by omega)] at vi
          rw [Option.some.inj vi]
          exact h (i - 1) (k - 1) (by omega) (by omega) (by omega)
theorem rise_range (n : Nat) : Rise (Array.range n):=fun i j hi hj hij=>by simpa using hij
theorem slot_free {t : SetTable} {j : Nat} (h : t.slot j = .empty∨t.slot j = .dummy) : t.place[SetTable.below t.place j]?≠some j:=fun e=>by
  unfold SetTable.slot at h
  dsimp only at h
  rw [e] at h
  simp at h
theorem probe_go {t : SetTable} {ha : Nat→Int} {h : Int} : ∀ (fuel : Nat) (p : SetTable.Probe) {j : Nat} {d : Option Nat},(∀ x,p.dummy=some x→t.slot x = .dummy)→SetTable.probe.go t ha h fuel p=some (.empty j d)→t.slot j = .empty∧∀ x,d=some x→t.slot x = .dummy:=by
  intro fuel
  induction fuel with
  | zero=>intro p j d _ e; cases e
  | succ n ih=>
    intro p j d hp e
    unfold SetTable.probe.go at e
    have adv : ∀ q : SetTable.Probe,(t.advance q).dummy=q.dummy:=fun q=>by unfold SetTable.advance; split <;> rfl
    cases q : t.slot p.j with
    | empty=>
      rw [q] at e
      cases e
      exact ⟨q,hp⟩
    | dummy=>
      rw [q] at e
      refine ih _ (fun x hx=>?_) e
      rw [adv] at hx
      cases hx
      exact q
    | live i=>
      rw [q] at e
      dsimp only at e
      split at e
      · cases e
      · exact ih _ (fun x hx=>hp x (by rw [adv] at hx; exact hx)) e
theorem freeSlot_free {t : SetTable} {h : Int} {j : Nat} {b : Bool} (e : t.freeSlot h=some (j,b)) : t.place[SetTable.below t.place j]?≠some j:=by
  unfold SetTable.freeSlot at e
  split at e
  · rename_i j' d hp
    obtain ⟨p1,p2⟩:=probe_go _ _ (fun x hx=>(by cases hx)) hp
    cases d with
    | none=>cases e; exact slot_free (.inl p1)
    | some x=>cases e; exact slot_free (.inr (p2 x rfl))
  · cases e
theorem layNew_rise {t : SetTable} (es : Array (Int×Value)) (h : Int) (x : Value) (hr : Rise t.place) : Rise (layNew t es h x).2.1.place∧(layNew t es h x).2.1.led=t.led:=by
  unfold layNew
  split
  · rename_i slot wd e
    dsimp only
    unfold SetTable.orStandIn
    split
    · exact ⟨rise_insert hr (freeSlot_free e),rfl⟩
    · exact ⟨rise_range _,rfl⟩
  · exact ⟨rise_range _,rfl⟩
theorem relayAll_rise {t : SetTable} (es : Array (Int×Value)) (n : Nat) : Rise (relayAll t es n).2.1.place∧(relayAll t es n).2.1.led=t.led:=by
  unfold relayAll
  split
  · rename_i t' order e
    dsimp only
    split
    · unfold SetTable.relaid SetTable.laid at e
      cases q : SetTable.layClean (SetTable.sizeAbove n - 1) (es.map (·.1)) with
      | none=>rw [q] at e; cases e
      | some owner=>
        rw [q] at e
        cases e
        refine ⟨fun i j hi hj hij=>?_,rfl⟩
        have pw : (((List.range (SetTable.sizeAbove n - 1 + 1)).filterMap fun j=>(owner.getD j none).map (j,·)).map (·.1)).Pairwise (· < ·):=by
          rw [List.pairwise_map]
          refine List.Pairwise.filterMap (R:=(· < ·)) _ (fun a a' haa b hb b' hb'=>?_) List.pairwise_lt_range
          cases q1 : owner.getD a none with
          | none=>rw [q1] at hb; cases hb
          | some v1=>
            cases q2 : owner.getD a' none with
            | none=>rw [q2] at hb'; cases hb'
            | some v2=>rw [q1] at hb; rw [q2] at hb'; cases hb; cases hb'; exact haa
        have:=List.pairwise_iff_getElem.mp pw i j (by simpa using hi) (by simpa using hj) hij
        simpa using this
    · exact ⟨rise_range _,rfl⟩
  · exact ⟨rise_range _,rfl⟩
end L2
namespace L2
open PySem PySem.Spec PyProof.Rows
def byT (w : World) : Bool:=w.params.followText "set-order"
def kOf (e : Int×Value) : Int:=match e.2 with
  | .int k _=>k
  | _=>0
def AllI (l : List (Int×Value)) : Prop:=∀ e∈l,∃ k t,e=(hashInt k,.int k t)
def SetI (w : World) (a : Addr) (ns : List Int) (h : Heap) : Prop:=∃ o es ep t,h.get? a=some o∧o.ExactSet∧o.data = .set es ep t∧AllI es.toList∧(es.toList.map kOf).Perm ns∧es.size < scanBound∧t.fits es.size=true∧t.led = !byT w∧Rise t.place
section
variable {prog : Program} {w : World} {A : Around} {E : Value→Shared→Prop} {s : Shared}
theorem AllI.elems {l : List (Int×Value)} (h : AllI l) : ElemsOf (intKind prog w) l:=fun e he=>by
  obtain ⟨k,t,rfl⟩:=h e he
  exact ⟨⟨k,intKind_is prog w k t,rfl⟩,rfl⟩
theorem AllI.perm {l l' : List (Int×Value)} (h : AllI l) (p : l'.Perm l) : AllI l':=fun e he=>h e (p.mem_iff.mp he)
theorem AllI.has {l : List (Int×Value)} (h : AllI l) (x : Int) : x∈l.map kOf↔∃ e∈l,(intKind prog w).is x e.2=true:=by
  constructor
  · intro m
    obtain ⟨e,he,rfl⟩:=List.mem_map.mp m
    obtain ⟨k,t,rfl⟩:=h e he
    exact ⟨_,he,intKind_is prog w k t⟩
  · rintro ⟨e,he,hx⟩
    obtain ⟨k,t,rfl⟩:=h e he
    have : x=k:=(intKind prog w).inj _ x k hx (intKind_is prog w k t)
    subst this
    exact List.mem_map.mpr ⟨_,he,rfl⟩
theorem SetI.typeIs {a : Addr} {ns : List Int} (S : SetI w a ns s.heap) : s.TypeIs (.ref a) "set" := let ⟨o,_,_,_,ho,hc,_⟩:=S; ⟨o,ho,hc.1⟩
theorem SetI.keep {a : Addr} {ns : List Int} {h h' : Heap} (S : SetI w a ns h) (k : ∀ o,h.get? a=some o→h'.get? a=some o) : SetI w a ns h':=let ⟨o,es,ep,t,ho,r⟩:=S; ⟨o,es,ep,t,k o ho,r⟩
theorem set_store {a : Addr} {o : Obj} {es es' : Array (Int×Value)} {ep : Nat} {t t' : SetTable} {ns : List Int} {h : Heap} (ho : h.get? a=some o) (hex : o.ExactSet) (hd : o.data = .set es ep t) (r : AllI es'.toList∧(es'.toList.map kOf).Perm ns∧es'.size < scanBound∧t'.fits es'.size=true∧t'.led = !byT w∧Rise t'.place) :
    (h.update a (Obj.putSet es' t')).get? a=some { o with data:=.set es' (ep + 1) t' }∧SetI w a ns (h.update a (Obj.putSet es' t')):=by
  have hg : (h.update a (Obj.putSet es' t')).get? a=some { o with data:=.set es' (ep + 1) t' }:=by
    have:=Heap.get?_update_self (Obj.putSet es' t') ho (by rw [putSet_of es' t' hd]; rfl)
    rw [putSet_of es' t' hd] at this
    exact this
  exact ⟨hg,_,es',ep + 1,t',hg,hex,rfl,r⟩
theorem set_new {Q : Value→Shared→Prop} (h : ∀ h',(∀ b o,s.heap.get? b=some o→h'.get? b=some o)→h'.objs.size=s.heap.objs.size + 1→SetI w s.heap.objs.size [] h'→Q (.ref s.heap.objs.size) { s with heap:=h' }) : wpAny (model prog w) A (newSet (.type "set")) Q E s:=by
  unfold newSet setsByText
  refine wpAny_bind (wpAny_bind (wpAny_askSetting (wpAny_pure ?_)))
  dsimp only
  simp only [newObj]
  refine wpAny_bind (wpAny_alloc (wpAny_pure (h _ (fun b o e=>Heap.get?_push_of_some _ e) (Heap.size_push ..) ⟨_,#[],0,_,Heap.get?_push_size _ rfl,⟨rfl,rfl,rfl⟩,rfl,fun e he=>by simp at he,by exact List.Perm.refl _,by decide,by rfl,rfl,fun i j hi=>by simp [SetTable.fresh] at hi⟩)))
theorem set_tail {g : Bool→Sem Unit} (hg : ∀ (b : Bool) (s₁ : Shared) (Q' : Unit→Shared→Prop),Q' () s₁→wpAny (model prog w) A (g b) Q' E s₁)
    {a : Addr} {o : Obj} {es es1 : Array (Int×Value)} {ep : Nat} {t t2 : SetTable} {ns : List Int} {wd : Bool} {R : Option Bool→Shared→Prop} (ho : s.heap.get? a=some o) (hex : o.ExactSet) (hd : o.data = .set es ep t)
    (r : AllI es1.toList∧(es1.toList.map kOf).Perm ns∧es1.size < scanBound∧t2.fits es1.size=true∧t2.led = !byT w∧Rise t2.place) (h : ∀ h',Heap.SameBut a s.heap h'→SetI w a ns h'→R (some true) { s with heap:=h' }) :
    wpAny (model prog w) A (do
        storeSet a es1 t2
        if (!wd && t2.tooFull)=true then do
            g (relayAll t2 es1 (SetTable.grown es1.size)).2.2
            storeSet a (relayAll t2 es1 (SetTable.grown es1.size)).1 (relayAll t2 es1 (SetTable.grown es1.size)).2.1
            pure (some true)
          else pure (some true)) R E s:=by
  obtain ⟨r1,r2,r3,r4,r5,r6⟩:=id r
  refine wpAny_bind (wpAny_storeSet_of ho hd ?_ (fits_of_scanBound r3))
  obtain ⟨o1,S1⟩:=set_store (w:=w) ho hex hd r
  have u1:=Heap.SameBut.update s.heap a (Obj.putSet es1 t2)
  split
  · have hp:=relayAll_perm t2 es1 (SetTable.grown es1.size)
    have hf:=relayAll_fits t2 es1 (SetTable.grown es1.size)
    obtain ⟨hr,hl⟩:=relayAll_rise (t:=t2) es1 (SetTable.grown es1.size)
    generalize relayAll t2 es1 (SetTable.grown es1.size)=Rl at hp hf hr hl ⊢
    obtain ⟨es2,t3,gave⟩:=Rl
    dsimp only at hp hf hr hl ⊢
    have hz : es2.size=es1.size:=by rw [← Array.length_toList,hp.length_eq,Array.length_toList]
    refine wpAny_bind (hg _ _ _ ?_)
    refine wpAny_bind (wpAny_storeSet_of o1 rfl ?_ (fits_of_scanBound (by rw [hz]; exact r3)))
    obtain ⟨_,S2⟩:=set_store (w:=w) (ns:=ns) o1 hex rfl ⟨r1.perm hp,(hp.map kOf).trans r2,by rw [hz]; exact r3,hf,by rw [hl]; exact r5,hr⟩
    exact wpAny_pure (h _ (u1.trans (Heap.SameBut.update _ a _)) S2)
  · exact wpAny_pure (h _ u1 S1)
theorem set_add {a : Addr} {ns : List Int} {x : Int} {tx : Tok} {Q : Value→Shared→Prop} (S : SetI w a ns s.heap) (hn : ns.length + 1 < scanBound)
    (h : ∀ h',Heap.SameBut a s.heap h'→SetI w a (if x∈ns then ns else ns ++ [x]) h'→Q .none { s with heap:=h',toks:=s.toks + 1 }) : wpAny (model prog w) A (call (.builtin "set.add") [.ref a,.int x tx]) Q E s:=by
  refine wpAny_call_entry PySem.F.slot_set_add S.typeIs PySem.F.entry_set_add ?_ (PySem.F.args_set_add_2 _ _)
  unfold Builtin.«set.add» Builtin.Frozenset.oneOther
  simp only [List.isEmpty_nil,bind_assoc]
  unfold Builtin.Frozenset.addrOf setAdd
  refine wpAny_bind (wpAny_pure ?_)
  try dsimp only
  refine wpAny_bind (wpAny_pure ?_)
  try dsimp only
  refine wpAny_bind (wpAny_holding (wpAny_bind ((intKind prog w).pyHash (intKind_is prog w x tx) ?_)))
  obtain ⟨o,es,ep,t,ho,hex,hd,hel,hpm,hb,hf,hled,hrise⟩:=S
  have hsz : es.size=ns.length:=by rw [← Array.length_toList,← hpm.length_eq,List.length_map]
  have elems : ElemsOf (intKind prog w) es.toList:=hel.elems
  have key:=intKind_is prog w x tx
  unfold setAddHashed setAddHashedIn
  refine wpAny_holding (wpAny_bind (wpAny_setState_of (s:={ s with toks:=s.toks + 1 }) ho hd hf ?_))
  dsimp only
  rw [byScan_of (x:=.int x tx) rfl hb elems]
  simp only [↓reduceIte]
  unfold setAddByScan
  refine wpAny_bind (wpAny_bind (wpAny_rule (wpAny_bind (wpAny_setScan_of key ho hd hf elems ?_))))
  have mem:=(hel.has (prog:=prog) (w:=w) x)
  cases hr : List.findIdx? (fun e=>(intKind prog w).is x e.2) es.toList with
  | some j=>
    dsimp only
    obtain ⟨hj,hpj,_⟩:=List.findIdx?_eq_some_iff_getElem.mp hr
    have hx : x∈ns:=hpm.mem_iff.mp (mem.mpr ⟨_,List.getElem_mem hj,hpj⟩)
    rw [if_pos hx] at h
    refine wpAny_pure (wpAny_pure ?_)
    show wpAny _ _ (ret Value.none) _ _ _
    exact wpAny_pure ⟨_,rfl,h s.heap (Heap.SameBut.refl a s.heap) ⟨o,es,ep,t,ho,hex,hd,hel,hpm,hb,hf,hled,hrise⟩⟩
  | none=>
    dsimp only
    have hx : x ∉ ns:=fun z=>by
      obtain ⟨e,he,hp⟩:=mem.mp (hpm.mem_iff.mpr z)
      have:=List.findIdx?_eq_none_iff.mp hr e he
      rw [hp] at this
      cases this
    rw [if_neg hx] at h
    have hgw : ∀ (b : Bool) {s₁ : Shared} {Q' : Unit→Shared→Prop},Q' () s₁→wpAny (model prog w) A.in1 (match b with | true=>rule "set.scan.the-table-gave-way" | false=>pure ()) Q' E s₁:=fun b s₁ Q' hq=>by cases b <;> first | exact wpAny_pure hq | exact wpAny_rule hq
    have hp1:=layNew_perm t es ((intKind prog w).hash x) (.int x tx)
    have hf1:=layNew_fits t es ((intKind prog w).hash x) (.int x tx)
    obtain ⟨hr1,hl1⟩:=layNew_rise es ((intKind prog w).hash x) (.int x tx) hrise
    generalize layNew t es ((intKind prog w).hash x) (.int x tx)=L at hp1 hf1 hr1 hl1 ⊢
    obtain ⟨es1,t1,wd,gave⟩:=L
    dsimp only at hp1 hf1 hr1 hl1 ⊢
    rw [Array.toList_push] at hp1
    have el1 : AllI es1.toList:=AllI.perm (l:=es.toList ++ [((intKind prog w).hash x,.int x tx)]) (fun e he=>by
      rcases List.mem_append.mp he with z | z
      · exact hel e z
      · rw [List.mem_singleton.mp z]; exact ⟨x,tx,rfl⟩) hp1
    have pm1 : (es1.toList.map kOf).Perm (ns ++ [x]):=(hp1.map kOf).trans (by rw [List.map_append]; exact hpm.append_right _)
    have sz1 : es1.size < scanBound:=by rw [← Array.length_toList,hp1.length_eq,List.length_append,Array.length_toList,hsz]; exact hn
    refine wpAny_bind (hgw _ ?_)
    have fin : ∀ h',Heap.SameBut a s.heap h'→SetI w a (ns ++ [x]) h'→wpAny (model prog w) A.in1 (ret Value.none) (fun r s'=>∃ v,r = .done (.ret v)∧Q v s') E { s with heap:=h',toks:=s.toks + 1 }:=fun h' sb S'=>wpAny_pure ⟨_,rfl,h h' sb S'⟩
    split
    · refine wpAny_bind ?_
      rw [hashByValue_scannable 8 (x:=.int x tx) rfl]
      refine wpAny_pure ?_
      simp only [plainKind,↓reduceIte]
      refine set_tail (w:=w) (ns:=ns ++ [x]) ?_ ho hex hd ⟨el1,pm1,sz1,hf1,by rw [hl1]; exact hled,hr1⟩ ?_
      · intro b s₁ Q' hq; cases b <;> first | exact wpAny_pure hq | exact wpAny_rule hq
      · intro h' sb S'; dsimp only; exact wpAny_pure (fin h' sb S')
    · refine wpAny_bind (wpAny_pure ?_)
      simp only [↓reduceIte]
      refine set_tail (w:=w) (ns:=ns ++ [x]) ?_ ho hex hd ⟨el1,pm1,sz1,hf1,by rw [hl1]; exact hled,hr1⟩ ?_
      · intro b s₁ Q' hq; cases b <;> first | exact wpAny_pure hq | exact wpAny_rule hq
      · intro h' sb S'; dsimp only; exact wpAny_pure (fin h' sb S')
end
end L2
namespace L2
open PySem PySem.Spec PyProof.Rows
def HS (w : World) (a : Addr) (ns : List Int) : HO:=.ext (SetI w a ns)
theorem hs_ok {P : Program} {w : World} {H : Hp} {h : Heap} {a : Addr} {ns : List Int} (S : SetI w a ns h) : ObjOk P w H h a (HS w a ns):=⟨S,(let ⟨o,_,_,_,ho,_⟩:=S; ⟨o,ho⟩),fun h1 h2 S1 k=>S1.keep k⟩
theorem hs_at {X : Cx} {pins : List (Addr×Obj)} {σ : St} {H : Hp} {s : Shared} {a : Addr} {ns : List Int} (I : Inv X pins σ H s) (e : H a=some (HS X.w a ns)) : SetI X.w a ns s.heap:=(show ObjOk X.prog X.w H s.heap a (HS X.w a ns) from I.hok a _ e).1
theorem s_add {X : Cx} {pins : List (Addr×Obj)} {σ : St} {H : Hp} {s : Shared} {a : Addr} {ns : List Int} {x : Int} {tx : Tok} {A : Around} {E : Value→Shared→Prop} {Q : Value→Shared→Prop} (I : Inv X pins σ H s) (e : H a=some (HS X.w a ns)) (hn : ns.length + 1 < scanBound)
    (h : ∀ s',Inv X pins σ (upd H a (HS X.w a (if x∈ns then ns else ns ++ [x]))) s'→Q .none s') : wpAny (model X.prog X.w) A (call (.builtin "set.add") [.ref a,.int x tx]) Q E s :=
  set_add (w:=X.w) (hs_at I e) hn fun h' sb S'=>h _ (d_write I (by rw [e]; exact True.intro) sb (let ⟨o,_,_,_,ho,_⟩:=S'; ⟨o,ho⟩) (hs_ok S'))
theorem compTurn_set (elt target iter : Expr) (ifs : List Expr) (scope : Scope) (pos : Pos) (it acc : Value) (env : Env) :
    compTurn (.SetComp elt [⟨target,iter,ifs,0⟩] scope pos) 0 it acc env=(do
      standAt iter.pos
      match ← pyNext it with
      | none=>pure (.done .next)
      | some v=>
        letOwnedTupleGo target it v
        assign target env v
        let mut ok:=true
        for c in ifs do
          if ok then ok ← isTrue c env (eval c env)
        if ok then
          (do let v ← eval elt env; standAt elt.pos; let _ ← call (.builtin "set.add") [acc,v])
        again (.compLoop (.SetComp elt [⟨target,iter,ifs,0⟩] scope pos) 0 it acc env)):=by rfl
section
variable {prog : Program} {w : World} {A : Around} {R : Result→Shared→Prop} {s : Shared}
theorem compStart_set {elt target iter ifs scope pos it acc env}
    (h0 : codeAny (model prog w) A (.compLoop (.SetComp elt [⟨target,iter,ifs,0⟩] scope pos) 0 it acc env) R s)
    (h : wpAny (model prog w) A (pyIter it) (fun it' s'=>codeAny (model prog w) A (.compLoop (.SetComp elt [⟨target,iter,ifs,0⟩] scope pos) 0 it' acc env) R s') (notedBy (model prog w) A env fun x s'=>R (.error x) s') s) :
    codeAny (model prog w) A (.compStart (.SetComp elt [⟨target,iter,ifs,0⟩] scope pos) 0 it acc env) R s:=by
  refine codeAny_of_tree ?_
  show wpAny _ _ ((compStart (.SetComp elt [⟨target,iter,ifs,0⟩] scope pos) 0 it acc env).onRaise (fun x=>do noteFrame x env; standAt theWindowsPlace)) _ _ s
  refine wpAny_notedAt ?_
  unfold compStart
  show wpAny _ _ (ask >>= _) _ _ s
  refine wpAny_bind (wpAny_askSetting (wpAny_ite ?_))
  split
  · first | exact wpAny_bind (wpAny_pure (wpAny_pure (And.intro rfl h0))) | exact wpAny_pure (And.intro rfl h0)
  · refine wpAny_bind (wpAny_rule ?_)
    show wpAny _ _ (standAt iter.pos >>= _) _ _ s
    exact wpAny_bind (wpAny_standAt (wpAny_bind (wpAny_mono h (fun it' s' h'=>wpAny_pure (And.intro rfl h')) fun _ _ x=>x)))
end
section
variable {X : Cx} {N' : List Str} {ix : List (Option Nat)} {scope : Scope} {elt tg iter : Expr} {ifs : List Expr} {pos : Pos} {wi : TI} {g : TG} {ti : TT} {te : TE}
def tSComp (w : World) (ix : List (Option Nat)) (wi : TI) (g : TG) (ti : TT) (te : TE) : TE:=fun σ H Q=>wi σ H fun J H1=>∀ D,H1 D=none→∃ W : Nat→Nat→Hp→Prop,(∃ m,W 0 m (upd H1 D (HS w D [])))∧∀ i m H,W i m H→
  (J.stop i H∧Q (.ref D) H)∨(J.go i H∧∀ x H',J.yld i H x H'→g x (compSt ix σ) H' fun σ2 H2=>(∀ (k : Nat) v,(compSt ix σ)[k]? = some (some v)→σ2[k]? = some (some v))∧ti σ2 H2 fun b H3=>
    if b=true then te σ2 H3 fun y H4=>∃ ns x,H4 D=some (HS w D ns)∧y = .int x∧ns.length + 1 < scanBound∧∃ m',m' < m∧W (i + 1) m' (upd H4 D (HS w D (if x∈ns then ns else ns ++ [x]))) else ∃ m',m' < m∧W (i + 1) m' H3)
theorem scomp_loop {X' : Cx} {σ₀ : St} {H : Hp} {s : Shared} {Q : VK} {it D : Addr} {fp : List Addr} {tn : Nat→Heap→Prop} {J : It} {W : Nat→Nat→Hp→Prop} {m0 : Nat} (I : Inv X' [] σ₀ H s) (hcalm : X'.calm=true) (hxe : X'.xe=fun _ _=>False)
    (T : Turn X'.prog X'.w X'.K tg J fp it tn) (st : tn 0 s.heap) (hf : ∀ b∈fp,FpOk X' [] H b) (hg : PG X' tg g) (hi : PIfs X' ifs ti) (he : PE X' elt te) (w0 : W 0 m0 H)
    (turn : ∀ i m H,W i m H→(J.stop i H∧Q (.ref D) H)∨(J.go i H∧∀ x H',J.yld i H x H'→g x σ₀ H' fun σ2 H2=>(∀ (k : Nat) v,σ₀[k]? = some (some v)→σ2[k]? = some (some v))∧ti σ2 H2 fun b H3=>
        if b=true then te σ2 H3 fun y H4=>∃ ns x,H4 D=some (HS X'.w D ns)∧y = .int x∧ns.length + 1 < scanBound∧∃ m',m' < m∧W (i + 1) m' (upd H4 D (HS X'.w D (if x∈ns then ns else ns ++ [x]))) else ∃ m',m' < m∧W (i + 1) m' H3)) :
    codeAny (model X'.prog X'.w) X'.A (.compStart (.SetComp elt [⟨tg,iter,ifs,0⟩] scope pos) 0 (.ref it) (.ref D) X'.env) (fun r s'=>(∃ f,r = .ok f)∧∃ H',Inv X' [] σ₀ H' s'∧Q (.ref D) H') s:=by
  have stat : ∀ {H' : Hp},(∀ b∈fp,H' b=none)→∀ b∈fp,FpOk X' [] H' b:=fun hn b hb=>⟨hn b hb,(hf b hb).2⟩
  have loop : codeAny (model X'.prog X'.w) X'.A (.compLoop (.SetComp elt [⟨tg,iter,ifs,0⟩] scope pos) 0 (.ref it) (.ref D) X'.env) (fun r s'=>(∃ f,r = .ok f)∧∃ H',Inv X' [] σ₀ H' s'∧Q (.ref D) H') s:=by
    refine codeAny_loop rfl (fun n s'=>∃ i H',Inv X' [] σ₀ H' s'∧tn i s'.heap∧(∀ b∈fp,H' b=none)∧W i n H') ?_ m0 ⟨0,H,I,st,fun b hb=>(hf b hb).1,w0⟩
    rintro n s1 ⟨i,H1,I1,st1,fr1,w1⟩
    show wpAny _ X'.A ((compTurn (.SetComp elt [⟨tg,iter,ifs,0⟩] scope pos) 0 (.ref it) (.ref D) X'.env).onRaise (fun x=>do noteFrame x X'.env; theTreesLotGoes x)) _ _ s1
    refine wpAny_noted ?_
    have noE : ∀ {α : Type} {t : Sem α} {P : α→Shared→Prop} {F : Value→Shared→Prop} {s : Shared},wpAny (model X'.prog X'.w) X'.A t P X'.xe s→wpAny (model X'.prog X'.w) X'.A t P F s:=fun h=>wpAny_mono h (fun _ _ x=>x) fun e s' x=>by rw [hxe] at x; exact x.elim
    rw [compTurn_set]
    refine wpAny_bind (wpAny_standAt (wpAny_bind ?_))
    rcases turn i n H1 w1 with ⟨stop,qn⟩ | ⟨go,step⟩
    · refine thn (T.done X' rfl rfl rfl hcalm i [] s1 σ₀ H1 _ I1 (stat fr1) st1 stop) fun r s2 ⟨hr,I2⟩=>?_
      subst hr
      exact wpAny_pure ⟨⟨_,rfl⟩,H1,I2,qn⟩
    · refine thn (T.item X' rfl rfl rfl hcalm i [] s1 σ₀ H1 _ I1 (stat fr1) st1 go) fun r s2 ⟨u,hr,h2⟩=>?_
      subst hr
      refine wpAny_bind (thn h2 fun _ s3 ⟨x,H3,I3,r3,y3,st3,fr3⟩=>?_)
      have I3':=I3.pinned (stat fr3) (T.obj _ _ st3)
      refine wpAny_bind (noE (thn (hg _ s3 σ₀ H3 x u _ I3' r3 (step x H3 y3)) fun _ s4 ⟨σ4,H4,I4,hk4,q4⟩=>?_))
      refine wpAny_bind (noE (thn (hi _ s4 σ4 H4 _ I4 q4) fun ok s5 ⟨H5,I5,q5⟩=>?_))
      have again' : ∀ {s7 : Shared} {H7 : Hp} {m' : Nat},Inv X' ([] ++ pinsAt fp s3.heap) σ4 H7 s7→m' < n→W (i + 1) m' H7→∃ m,m < n∧∃ i H',Inv X' [] σ₀ H' s7∧tn i s7.heap∧(∀ b∈fp,H' b=none)∧W i m H':=fun {s7 H7 m'} I7 hm w7=>by
        refine ⟨m',hm,i + 1,H7,I7.unpinned.weak (by rw [I3.len,I7.len]) hk4,T.keep _ _ _ st3 fun b hb o e=>(I7.pin (b,o) (List.mem_append_right _ (List.mem_append_right _ (mem_pinsAt hb e)))).1,fun b hb=>?_,w7⟩
        obtain ⟨o,e,d⟩:=T.obj _ _ st3 b hb
        exact (I7.pin (b,o) (List.mem_append_right _ (List.mem_append_right _ (mem_pinsAt hb e)))).2.1
      cases ok with
      | false=>
        obtain ⟨m',hm,w7⟩:=q5
        exact wpAny_pure ⟨rfl,again' I5 hm w7⟩
      | true=>
        refine wpAny_bind (wpAny_bind (noE (thn (he _ s5 σ4 H5 _ I5 q5) fun y s6 ⟨yv,H6,I6,r6,ns,x6,hD,ey,hz,m',hm,w7⟩=>?_)))
        subst ey
        obtain ⟨tx,rfl⟩:=r6
        refine wpAny_bind (wpAny_standAt (wpAny_bind ?_))
        exact s_add I6 hD hz fun s8 I8=>wpAny_pure (wpAny_pure ⟨rfl,again' I8 hm w7⟩)
  refine compStart_set loop (T.self _ 0 s _ _ st loop)
theorem scomp_block {pins : List (Addr×Obj)} {σ : St} {H : Hp} {s : Shared} {Q : VK} {it : Addr} {fp : List Addr} {tn : Nat→Heap→Prop} {J : It} {E : Value→Shared→Prop} (I : Inv X pins σ H s) (hcalm : X.calm=true) (S : CompScope X N' ix scope)
    (T : Turn X.prog X.w X.K tg J fp it tn) (st : tn 0 s.heap) (hf : ∀ b∈fp,FpOk X pins H b)
    (hg : ∀ C s H fp,PG (cxComp X N' scope C s H fp) tg g) (hi : ∀ C s H fp,PIfs (cxComp X N' scope C s H fp) ifs ti) (he : ∀ C s H fp,PE (cxComp X N' scope C s H fp) elt te)
    (h : ∀ D,H D=none→∃ W : Nat→Nat→Hp→Prop,(∃ m,W 0 m (upd H D (HS X.w D [])))∧∀ i m H,W i m H→
      (J.stop i H∧Q (.ref D) H)∨(J.go i H∧∀ x H',J.yld i H x H'→g x (compSt ix σ) H' fun σ2 H2=>(∀ (k : Nat) v,(compSt ix σ)[k]? = some (some v)→σ2[k]? = some (some v))∧ti σ2 H2 fun b H3=>
        if b=true then te σ2 H3 fun y H4=>∃ ns x,H4 D=some (HS X.w D ns)∧y = .int x∧ns.length + 1 < scanBound∧∃ m',m' < m∧W (i + 1) m' (upd H4 D (HS X.w D (if x∈ns then ns else ns ++ [x]))) else ∃ m',m' < m∧W (i + 1) m' H3)) :
    wpAny (model X.prog X.w) X.A (newSet (.type "set")) (fun acc s3=>wpAny (model X.prog X.w) X.A (newFunctionEnv scope X.env.globals (clOf X.env scope.names []) [] X.env.qual none .none (some X.env)) (fun cenv s4 =>
      codeAny (model X.prog X.w) X.A (.compStart (.SetComp elt [⟨tg,iter,ifs,0⟩] scope pos) 0 (.ref it) acc { cenv with scope:=relabel scope X.env }) (CompEnd X pins σ Q acc cenv.locals) s4) E s3) E s:=by
  refine set_new (w:=X.w) fun h3 kk hsz S3=>?_
  have fresh0 : H s.heap.objs.size=none:=I.hok.fresh (Nat.le_refl _)
  obtain ⟨W,⟨m0,w0⟩,turn⟩:=h s.heap.objs.size fresh0
  have lt0 : ∀ b∈fp,b < s.heap.objs.size:=fun b hb=>by obtain ⟨o,e,_⟩:=T.obj 0 _ st b hb; exact Heap.lt_size e
  generalize hD : s.heap.objs.size=D at *
  have I3 : Inv X pins σ (upd H D (HS X.w D [])) { s with heap:=h3 }:=I.laid (a:=D) (o:=HS X.w D []) (t':=s.toks) kk (Nat.le_of_eq hD) (hs_ok S3)
  have hf3 : ∀ b∈fp,FpOk X pins (upd H D (HS X.w D [])) b:=fun b hb=>by
    obtain ⟨f0,fr⟩:=hf b hb
    exact ⟨by rw [upd_ne (Nat.ne_of_lt (lt0 b hb))]; exact f0,fr⟩
  have st3 : tn 0 h3:=T.keep _ _ _ st fun b hb o e=>kk b o e
  have lt3 : ∀ b∈fp,b < h3.objs.size:=fun b hb=>by obtain ⟨o,e,_⟩:=T.obj 0 _ st3 b hb; exact Heap.lt_size e
  refine wpAny_newFunctionEnv S.nocell (fun x hx=>nomatch hx) (fun h4 hns hsb=>?_) S.kind
  have k4 : ∀ b o,h3.get? b=some o→h4.get? b=some o:=fun b o e=>(hsb.2 b (Nat.ne_of_lt (Heap.lt_size e))).trans (Heap.get?_push_of_some _ e)
  have J4 : Inv (cxComp X N' scope h3.objs.size { s with heap:=h3 } (upd H D (HS X.w D [])) fp) [] (compSt ix σ) (upd H D (HS X.w D [])) { s with heap:=h4,toks:=s.toks + ([] : List (Str×Value)).length }:=
    inv_comp (s:={ s with heap:=h3 }) (tk:=s.toks + ([] : List (Str×Value)).length) I3 hcalm S hf3 lt3 hns k4
  have st4 : tn 0 ({ s with heap:=h4,toks:=s.toks + ([] : List (Str×Value)).length } : Shared).heap:=T.keep _ _ _ st3 fun b hb o e=>k4 b o e
  have fr4 : ∀ b∈fp,upd H D (HS X.w D []) b=none:=fun b hb=>(hf3 b hb).1
  revert J4 st4
  generalize ({ s with heap:=h4,toks:=s.toks + ([] : List (Str×Value)).length } : Shared)=s4
  intro J4 st4
  have hf4 : ∀ b∈fp,FpOk (cxComp X N' scope h3.objs.size { s with heap:=h3 } (upd H D (HS X.w D [])) fp) [] (upd H D (HS X.w D [])) b:=fun b hb=>
    ⟨fr4 b hb,Nat.ne_of_lt (lt3 b hb),J4.ok.exfs b hb,.inl hb,fun x c e=>(J4.ok.exf b hb).2 x c e,fun p hp=>nomatch hp⟩
  refine codeAny_mono (scomp_loop (X':=cxComp X N' scope h3.objs.size { s with heap:=h3 } (upd H D (HS X.w D [])) fp) (Q:=Q) (D:=D) J4 rfl rfl T st4 hf4 (hg _ _ _ _) (hi _ _ _ _) (he _ _ _ _) w0 turn) fun r s' ⟨hr,H',J',q'⟩=>?_
  refine ⟨D,H',rfl,hr,I3.call' J'.os J'.base J'.hok J'.bare fun b hb=>?_,?_,?_,q'⟩
  · obtain ⟨_,f1,_,f3,f4,f5⟩:=hf3 b hb
    exact ⟨f3,f1,f4,f5⟩
  · exact I3.fpOk (H':=H') (Nat.le_refl _) J'.free
  · obtain ⟨m,hn,_⟩:=J'.loc
    exact ⟨m,hn⟩
theorem pe_scomp (hcalm : X.calm=true) (S : CompScope X N' ix scope) (hit : PI X tg iter wi)
    (hg : ∀ C s H fp,PG (cxComp X N' scope C s H fp) tg g) (hi : ∀ C s H fp,PIfs (cxComp X N' scope C s H fp) ifs ti) (he : ∀ C s H fp,PE (cxComp X N' scope C s H fp) elt te)
    (hs : ∀ x,foldedSetIterable iter X.env x=pure x:=by intro _; rfl) : PE X (.SetComp elt [⟨tg,iter,ifs,0⟩] scope pos) (tSComp X.w ix wi g ti te):=by
  intro pins s σ H Q I h
  show wpAny _ X.A (comprehension (.SetComp elt [⟨tg,iter,ifs,0⟩] scope pos) scope X.env _ (newSet (.type "set")) false (eval iter X.env)) _ _ s
  refine wpAny_comprehension_free (use:=none) rfl hs (comp_closure I S) S.kind S.loc (thn (hit pins s σ H _ I h) fun v s1 h1=>thn h1 fun itv s2 h2=>?_)
  obtain ⟨it,fp,tn,J,H2,rfl,I2,T,st2,f2,q2⟩:=h2
  refine thn (scomp_block (E:=X.xe) (elt:=elt) (iter:=iter) (pos:=pos) I2 hcalm S T st2 f2 hg hi he q2) fun acc s3 h3=>thn h3 fun cenv s4 h4=>codeAny_mono h4 fun r s' hr=>?_
  obtain ⟨D,H',rfl,⟨f,rfl⟩,I',⟨g0,g1,_,g3,g4,g5⟩,⟨m,hm⟩,q'⟩:=hr
  exact ⟨m,hm,fun h' hsb=>⟨.ref D,H',I'.turned (t':=s'.toks) (fun b o hb e=>(hsb.2 b hb).trans e) g0 g1 g3 g4 g5,rfl,q'⟩⟩
end
end L2
namespace L2
open PySem PySem.Spec PyProof.Rows
theorem erase_perm {α : Type} : ∀ {l : List α} {i : Nat} (hi : i < l.length),(l[i] :: l.eraseIdx i).Perm l
  | x :: r,0,_=>List.Perm.refl _
  | x :: r,i + 1,hi=>by
    have hi' : i < r.length:=by simpa using hi
    have h:=erase_perm hi'
    show (r[i] :: x :: r.eraseIdx i).Perm (x :: r)
    exact (List.Perm.swap x r[i] _).trans (h.cons x)
theorem pick_go {α : Type} (next : Nat→Nat) : ∀ (fuel k : Nat) (left : List α) (out : Array α),left.length=fuel→(pickOrder.go next fuel k left out).toList.Perm (out.toList ++ left):=by
  intro fuel
  induction fuel with
  | zero=>
    intro k left out h
    rw [List.length_eq_zero_iff.mp h,List.append_nil]
    exact List.Perm.refl _
  | succ n ih=>
    intro k left out h
    unfold pickOrder.go
    have hi : next k % left.length < left.length:=Nat.mod_lt _ (by omega)
    rw [List.getElem?_eq_getElem hi]
    dsimp only
    refine (ih _ _ _ (by rw [List.length_eraseIdx,if_pos hi]; omega)).trans ?_
    rw [Array.toList_push,List.append_assoc]
    refine List.Perm.append_left _ ?_
    exact erase_perm hi
theorem pick_perm {α : Type} (next : Nat→Nat) (xs : Array α) : (pickOrder next xs).toList.Perm xs.toList:=by
  have:=pick_go next xs.size 0 xs.toList #[] (by simp)
  simpa [pickOrder] using this
section
variable {prog : Program} {w : World} {A : Around} {E : Value→Shared→Prop} {s : Shared}
theorem wpAny_choose {src : Source} {n : Nat} {Q : Nat→Shared→Prop} (hn : n≠0) (h : ∀ i d,i < n→Q i { s with drawn:=d }) : wpAny (model prog w) A (choose src n) Q E s:=
  fun _ _ _=>⟨hn,h _ _ (Nat.mod_lt _ (Nat.pos_of_ne_zero hn))⟩
theorem wpAny_drawOrder {α : Type} : ∀ (n : Nat) (xs : List α) (s : Shared) {Q : List α→Shared→Prop},xs.length=n→(∀ ys d,ys.Perm xs→Q ys { s with drawn:=d })→wpAny (model prog w) A (drawOrder n xs) Q E s:=by
  intro n
  induction n with
  | zero=>
    intro xs s Q h q
    unfold drawOrder
    rw [List.length_eq_zero_iff.mp h] at q
    exact wpAny_pure (q [] s.drawn (List.Perm.refl _))
  | succ n ih=>
    intro xs s Q h q
    cases xs with
    | nil=>cases h
    | cons x r=>
      unfold drawOrder
      refine wpAny_bind (wpAny_choose (by simp) fun i d hi=>?_)
      rw [List.getElem?_eq_getElem hi]
      dsimp only
      refine wpAny_bind (ih _ _ (by rw [List.length_eraseIdx,if_pos hi]; omega) fun ys d' hp=>wpAny_pure (q _ d' ?_))
      exact (hp.cons _).trans (erase_perm hi)
end
theorem slot_set_iterator_next : Slot "set_iterator" "__next__" "set_iterator.__next__" :=
  .of (owner := "set_iterator") (n := "__next__") (by rw [typeLookup_type,builtinLookup_eq_fast]; kernel_rfl) (by decide +kernel) (by decide +kernel) (by decide +kernel) (by first | exact .inl (by decide +kernel) | exact .inr (by decide +kernel)) (by rw [isSubtype_type]; kernel_rfl)
theorem entry_set_iterator_next : entryFor table "set_iterator.__next__" = some Builtin.«set_iterator.__next__»:=entryFor_of_tree (by kernel_rfl)
theorem args_set_iterator_next (a : Value) : argsOk "set_iterator.__next__" ⟨[a],[]⟩:=by unfold argsOk; kernel_rfl
theorem entry_set_iter : entryFor table "set.__iter__" = some Builtin.«frozenset.__iter__»:=entryFor_alias (by kernel_rfl) rfl (id' := "frozenset.__iter__") (by decide +kernel) (by kernel_rfl)
def SIter (h : Heap) (I : Addr) (first : Value) (i : Nat) (a : Addr) (n ep : Nat) : Prop:=h.get? I=some { cls:=.type "set_iterator",data:=.fields #[first,.int i 0,.ref a,.int n 0,.int ep 0] }
inductive Way (w : World) (a : Addr) (es : Array (Int×Value)) (ep : Nat) (t : SetTable) : List Value→(Nat→Heap→Value→Prop)→List Addr→Prop
  | led (h : byT w=false) (hl : t.led=true) (hp : (t.plain || decide (es.size≤1))=true) : Way w a es ep t (es.toList.map (·.2)) (fun i _ f=>f=rawInt ((if i=0 then 0 else t.place.getD (i - 1) 0 + 1 : Nat) : Int)) []
  | text (h : byT w=true) : Way w a es ep t ((pickOrder (w.params.setOrder a ep) es).toList.map (·.2)) (fun _ _ f=>f=rawInt 0) []
  | drawn {ps : List Nat} {tp : Addr} (h : ps.Perm (List.range es.size)) : Way w a es ep t (ps.filterMap fun i=>(es[i]?).map (·.2)) (fun _ hp f=>f = .ref tp∧∃ o n,hp.get? tp=some o∧o.data = .seq (ps.map fun (i : Nat)=>rawInt i).toArray n) [tp]
theorem Way.perm {w : World} {a : Addr} {es : Array (Int×Value)} {ep : Nat} {t : SetTable} {vals : List Value} {F : Nat→Heap→Value→Prop} {ex : List Addr} (y : Way w a es ep t vals F ex) : vals.Perm (es.toList.map (·.2)):=by
  cases y with
  | led=>exact List.Perm.refl _
  | text=>exact (pick_perm _ es).map _
  | drawn h=>
    refine (h.filterMap _).trans ?_
    have : (List.range es.size).filterMap (fun i=>(es[i]?).map (·.2))=es.toList.map (·.2):=by
      have e:=PySem.filterMap_getElem?_range es
      rw [← e,List.map_filterMap]
    rw [this]
section
variable {prog : Program} {w : World} {A : Around} {E : Value→Shared→Prop} {s : Shared}
theorem set_iter {a : Addr} {o : Obj} {es : Array (Int×Value)} {ep : Nat} {t : SetTable} {Q : Value→Shared→Prop} (ho : s.heap.get? a=some o) (hex : o.ExactSet) (hd : o.data = .set es ep t) (hf : t.fits es.size=true) (hled : t.led = !byT w) (hb : es.size < scanBound)
    (h : ∀ I h' d vals F ex first,Way w a es ep t vals F ex→F 0 h' first→SIter h' I first 0 a es.size ep→(∀ b o,s.heap.get? b=some o→h'.get? b=some o)→s.heap.objs.size≤I→(∀ b∈ex,s.heap.objs.size≤b∧b < I)→I < h'.objs.size→Q (.ref I) { s with heap:=h',drawn:=d }) : wpAny (model prog w) A (pyIter (.ref a)) Q E s:=by
  have hT : s.TypeIs (.ref a) "set" := ⟨o,ho,hex.1⟩
  refine wpAny_pyIter_slot hT PySem.F.slot_set_iter (wpAny_call_entry PySem.F.slot_set_iter hT entry_set_iter ?_ (PySem.F.args_set_iter_1 _))
  unfold Builtin.«frozenset.__iter__» Builtin.Frozenset.slot0 slotArgs
  simp only [List.isEmpty_nil,Bool.not_true,Bool.false_eq_true,↓reduceIte,bind_assoc,List.length_nil,bne_self_eq_false]
  unfold Builtin.Frozenset.addrOf Builtin.Frozenset.sizeOf
  refine wpAny_bind (wpAny_pure (wpAny_bind (wpAny_pure (wpAny_bind (wpAny_bind (wpAny_setEntries_of ho hd hf (wpAny_pure ?_)))))))
  refine wpAny_bind ?_
  unfold setDrawn setsByText
  refine wpAny_bind (wpAny_setState_of ho hd hf ?_)
  dsimp only
  refine wpAny_bind (wpAny_bind (wpAny_askSetting (wpAny_pure (wpAny_pure ?_))))
  have fin : ∀ (first : Value) (s1 : Shared) (d : Drawn) (h1 : Heap),s1 = { s with heap:=h1,drawn:=d }→(∀ b o,s.heap.get? b=some o→h1.get? b=some o)→(∀ I h',I=h1.objs.size→(∀ b o,h1.get? b=some o→h'.get? b=some o)→SIter h' I first 0 a es.size ep→I < h'.objs.size→Q (.ref I) { s with heap:=h',drawn:=d })→
      wpAny (model prog w) A.in1 (do let e ← setEpoch a; let x ← newFields "set_iterator" [first,rawInt 0,Value.ref a,rawInt es.size,rawInt e]; ret x) (fun fin s'=>∃ v,fin=Fin.done (Flow.ret v)∧∃ T' r,s'.TypeIs v T'∧typeLookup (Value.type T') (Str.ofString "__next__")=pure (some r)∧Q v s') E s1:=by
    intro first s1 d h1 e1 k1 q
    subst e1
    refine wpAny_bind (wpAny_setEpoch_of (k1 _ _ ho) hd hf ?_)
    refine wpAny_bind (wpAny_newObj_type (wpAny_pure ⟨_,rfl,"set_iterator",_,⟨_,Heap.get?_push_size _ rfl,rfl⟩,slot_set_iterator_next.lookup,?_⟩))
    exact q h1.objs.size _ rfl (fun b o e=>Heap.get?_push_of_some _ e) (Heap.get?_push_size _ rfl) (by rw [Heap.size_push]; exact Nat.lt_succ_self _)
  split
  · rename_i c0
    refine wpAny_bind (wpAny_drawOrder _ _ _ (List.length_range ..) fun ys d hp=>?_)
    have hlen : ys.length=es.size:=by rw [hp.length_eq,List.length_range]
    refine wpAny_bind (wpAny_newTuple ?_ (by rw [List.length_map,hlen]; exact fits_of_scanBound hb))
    refine fin _ _ d (s.heap.push { cls:=.type "tuple",data:=.seq (ys.map fun (i : Nat)=>rawInt i).toArray }) rfl (fun b o e=>Heap.get?_push_of_some _ e) fun I h' eI kI si lI=>?_
    have sz:=Heap.size_push s.heap ({ cls:=.type "tuple",data:=.seq (ys.map fun (i : Nat)=>rawInt i).toArray } : Obj)
    refine h I h' d _ _ _ _ (.drawn (tp:=s.heap.objs.size) hp) ⟨rfl,_,_,kI _ _ (Heap.get?_push_size _ rfl),rfl⟩ si (fun b o e=>kI _ _ (Heap.get?_push_of_some _ e)) (by omega) (fun b hb=>?_) lI
    rw [List.mem_singleton.mp hb]
    exact ⟨Nat.le_refl _,by rw [eI]; exact Nat.lt_of_lt_of_eq (Nat.lt_succ_self _) sz.symm⟩
  · rename_i c0
    have c : ¬ (!byT w && (!t.plain && decide (es.size > 1)))=true:=c0
    refine wpAny_bind (wpAny_pure ?_)
    refine fin _ _ s.drawn s.heap rfl (fun b o e=>e) fun I h' eI kI si lI=>?_
    cases bt : byT w with
    | true=>exact h I h' s.drawn _ _ _ _ (.text bt) rfl si kI (by omega) (fun b hb=>by cases hb) lI
    | false=>
      refine h I h' s.drawn _ _ _ _ (.led bt (by rw [hled,bt]; rfl) ?_) rfl si kI (by omega) (fun b hb=>by cases hb) lI
      rw [bt] at c
      cases hp : t.plain with
      | true=>rfl
      | false=>
        rw [hp] at c
        have : ¬ es.size > 1:=fun z=>c (by simp [z])
        simp
        omega
end
end L2
namespace L2
open PySem PySem.Spec PyProof.Rows
theorem below_next {place : Array Nat} (h : Rise place) {i : Nat} (hi : i≤place.size) : SetTable.below place (if i=0 then 0 else place.getD (i - 1) 0 + 1)=i:=by
  obtain ⟨b1,b2,b3⟩:=below_at h (if i=0 then 0 else place.getD (i - 1) 0 + 1)
  generalize SetTable.below place (if i=0 then 0 else place.getD (i - 1) 0 + 1)=b at *
  by_cases c : i=0
  · rw [if_pos c] at b2
    by_cases z : b=0
    · omega
    · have:=b2 0 (by omega) (by omega)
      omega
  · rw [if_neg c] at b2 b3
    have hm : i - 1 < place.size:=by omega
    have eg : place.getD (i - 1) 0=place[i - 1]:=by rw [Array.getD_eq_getD_getElem?,Array.getElem?_eq_getElem hm]; rfl
    rw [eg] at b2 b3
    rcases Nat.lt_trichotomy b i with z | z | z
    · have:=b3 (i - 1) hm (by omega)
      omega
    · exact z
    · have h1:=b2 i (by omega) z
      have h2:=h (i - 1) i hm (by omega) (by omega)
      omega
section
variable {prog : Program} {w : World} {A : Around} {E : Value→Shared→Prop} {s : Shared}
def SRaw (w : World) (h : Heap) (a : Addr) (es : Array (Int×Value)) (ep : Nat) (t : SetTable) : Prop:=(∃ o,h.get? a=some o∧o.data = .set es ep t)∧t.fits es.size=true∧Rise t.place
theorem next_led {a : Addr} {es : Array (Int×Value)} {ep i g e' : Nat} {t : SetTable} {Q : Option (Value×Nat)→Shared→Prop} (hS : SRaw w s.heap a es ep t) (bt : byT w=false) (hl : t.led=true) (hp : (t.plain || decide (es.size≤1))=true) (hi : i≤es.size)
    (h1 : ∀ hlt : i < es.size,Q (some (es[i].2,t.place.getD i 0 + 1)) s) (h2 : i=es.size→Q none s) : wpAny (model prog w) A (setNext a (if i=0 then 0 else t.place.getD (i - 1) 0 + 1) g e') Q E s:=by
  obtain ⟨⟨o,ho,hd⟩,hf,hr⟩:=hS
  have hz : t.place.size=es.size:=by
    simp only [SetTable.fits,Bool.and_eq_true,beq_iff_eq] at hf
    exact hf.1
  unfold setNext setsByText
  refine wpAny_bind (wpAny_setState_of ho hd hf ?_)
  dsimp only
  refine wpAny_bind (wpAny_bind (wpAny_askSetting (wpAny_pure ?_)))
  have bt' : ¬ (⟨(model prog w).prog,(model prog w).w.params⟩ : Setting).params.followText "set-order" = true:=fun z=>by have : byT w=true:=z; rw [bt] at this; cases this
  rw [if_neg bt']
  split
  · rename_i c0
    have c : (!t.plain && decide (es.size > 1))=true:=c0
    simp only [Bool.and_eq_true,Bool.not_eq_true',decide_eq_true_eq] at c
    rw [c.1] at hp
    simp at hp
    omega
  · refine wpAny_bind ?_
    show wpAny _ _ (if (!t.led && !es.isEmpty)=true then unsupported "set:maker-not-led" else pure ()) _ _ s
    rw [if_neg (by rw [hl]; simp)]
    refine wpAny_pure ?_
    rw [below_next hr (by omega)]
    by_cases c : i < es.size
    · rw [Array.getElem?_eq_getElem c,Array.getElem?_eq_getElem (by omega)]
      have e1 : t.place.getD i 0=t.place[i]'(by omega):=by rw [Array.getD_eq_getD_getElem?,Array.getElem?_eq_getElem (by omega)]; rfl
      rw [e1] at h1
      exact wpAny_pure (h1 c)
    · rw [Array.getElem?_eq_none (by omega)]
      exact wpAny_pure (h2 (by omega))
theorem next_text {a : Addr} {es : Array (Int×Value)} {ep i sl : Nat} {t : SetTable} {Q : Option (Value×Nat)→Shared→Prop} (hS : SRaw w s.heap a es ep t) (bt : byT w=true) (h : Q (((pickOrder (w.params.setOrder a ep) es)[i]?).map fun e=>(e.2,sl)) s) : wpAny (model prog w) A (setNext a sl i ep) Q E s:=by
  obtain ⟨⟨o,ho,hd⟩,hf,hr⟩:=hS
  unfold setNext setsByText
  refine wpAny_bind (wpAny_setState_of ho hd hf ?_)
  dsimp only
  refine wpAny_bind (wpAny_bind (wpAny_askSetting (wpAny_pure ?_)))
  have bt' : (⟨(model prog w).prog,(model prog w).w.params⟩ : Setting).params.followText "set-order" = true:=bt
  rw [if_pos bt',if_neg (by simp)]
  refine wpAny_bind ?_
  first | refine wpAny_pure ?_ | skip
  unfold setWalk setsByText
  refine wpAny_bind (wpAny_setState_of ho hd hf ?_)
  dsimp only
  refine wpAny_bind (wpAny_bind (wpAny_askSetting (wpAny_pure ?_)))
  rw [if_pos bt']
  exact wpAny_bind (wpAny_askSetting (wpAny_pure (wpAny_pure h)))
theorem next_drawn {a : Addr} {es : Array (Int×Value)} {ep k : Nat} {t : SetTable} {Q : Value→Shared→Prop} (hS : SRaw w s.heap a es ep t) (hk : k < es.size) (h : Q es[k].2 s) : wpAny (model prog w) A (setNextDrawn a k ep) Q E s:=by
  obtain ⟨⟨o,ho,hd⟩,hf,hr⟩:=hS
  unfold setNextDrawn
  refine wpAny_bind (wpAny_setState_of ho hd hf ?_)
  dsimp only
  rw [if_neg (by simp),Array.getElem?_eq_getElem hk]
  exact wpAny_pure h
theorem set_item {I a : Addr} {es : Array (Int×Value)} {ep : Nat} {t : SetTable} {vals : List Value} {F : Nat→Heap→Value→Prop} {ex : List Addr} {first : Value} {i : Nat} {Q : Option Value→Shared→Prop} (y : Way w a es ep t vals F ex) (hS : SRaw w s.heap a es ep t) (hit : SIter s.heap I first i a es.size ep) (hF : F i s.heap first) (nI : ∀ b∈ex,b≠I) (naI : a≠I) (hi : i < es.size)
    (hQ : ∀ h' first' v,vals[i]? = some v→SIter h' I first' (i + 1) a es.size ep→F (i + 1) h' first'→(∀ b o,b≠I→s.heap.get? b=some o→h'.get? b=some o)→Q (some v) { s with heap:=h' }) : wpAny (model prog w) A (pyNext (.ref I)) Q E s:=by
  obtain ⟨⟨o,ho,hd⟩,hf,hr⟩:=id hS
  have hT : s.TypeIs (.ref I) "set_iterator" := ⟨_,hit,rfl⟩
  unfold pyNext
  refine wpAny_bind (wpAny_attempt (wpAny_callSpecial?_slot (name:=Str.ofString "__next__") hT slot_set_iterator_next (wpAny_call_entry slot_set_iterator_next hT entry_set_iterator_next ?_ (args_set_iterator_next _))))
  unfold Builtin.«set_iterator.__next__»
  refine wpAny_bind (wpAny_pure ?_)
  refine wpAny_bind (wpAny_fieldsOf hit rfl ?_)
  dsimp only
  refine wpAny_bind (wpAny_setEntries_of ho hd hf ?_)
  rw [if_neg (by simp)]
  have set0 : ∀ {h1 : Heap} {f : Value} {k : Nat} (v : Value) {R : Unit→Shared→Prop} {E' : Value→Shared→Prop},SIter h1 I f k a es.size ep→(∀ h2,SIter h2 I v k a es.size ep→Heap.SameBut I h1 h2→R () { s with heap:=h2 })→wpAny (model prog w) A.in1 (setField (.ref I) 0 v) R E' { s with heap:=h1 }:=fun {h1 f k} v {R E'} x q=>wpAny_setField_rec x (by simp) fun h2 x2 y2=>q h2 x2 y2
  have set1 : ∀ {h1 : Heap} {f : Value} {k : Nat} {R : Unit→Shared→Prop} {E' : Value→Shared→Prop},SIter h1 I f k a es.size ep→(∀ h2,SIter h2 I f (k + 1) a es.size ep→Heap.SameBut I h1 h2→R () { s with heap:=h2 })→wpAny (model prog w) A.in1 (setField (.ref I) 1 (rawInt ((k : Int) + 1))) R E' { s with heap:=h1 }:=fun {h1 f k R E'} x q=>wpAny_setField_rec x (by simp) fun h2 x2 y2=>q h2 (by
    unfold SIter
    rw [show ((k + 1 : Nat) : Int)=(k : Int) + 1 from by omega]
    simpa [rawInt] using x2) y2
  cases y with
  | led bt hl hp=>
    have hF' : first=rawInt (if i=0 then 0 else t.place.getD (i - 1) 0 + 1 : Nat):=hF
    subst hF'
    show wpAny _ _ (do let r ← setNext a ((if i=0 then 0 else t.place.getD (i - 1) 0 + 1 : Nat) : Int).toNat (i : Int).toNat (ep : Int).toNat; _) _ _ s
    rw [Int.toNat_natCast,Int.toNat_natCast,Int.toNat_natCast]
    refine wpAny_bind (next_led hS bt hl hp (Nat.le_of_lt hi) (fun hlt=>?_) fun z=>absurd z (by omega))
    dsimp only
    refine wpAny_bind (set0 _ hit fun h2 x2 y2=>wpAny_bind (set1 x2 fun h3 x3 y3=>?_))
    refine wpAny_pure ⟨_,rfl,wpAny_pure (hQ h3 _ _ ?_ x3 ?_ fun b o hb e=>y3.extBut b o hb (y2.extBut b o hb e))⟩
    · rw [List.getElem?_map,Array.getElem?_toList,Array.getElem?_eq_getElem hi]; rfl
    · show rawInt _=rawInt _
      rw [if_neg (by omega),Nat.add_sub_cancel]
  | text bt=>
    have hF' : first=rawInt 0:=hF
    subst hF'
    show wpAny _ _ (do let r ← setNext a (0 : Int).toNat (i : Int).toNat (ep : Int).toNat; _) _ _ s
    rw [Int.toNat_natCast,Int.toNat_natCast]
    refine wpAny_bind (next_text hS bt ?_)
    have hz : (pickOrder (w.params.setOrder a ep) es).size=es.size:=by rw [← Array.length_toList,(pick_perm _ es).length_eq,Array.length_toList]
    rw [Array.getElem?_eq_getElem (by omega)]
    dsimp only [Option.map]
    refine wpAny_bind (set0 _ hit fun h2 x2 y2=>wpAny_bind (set1 x2 fun h3 x3 y3=>?_))
    refine wpAny_pure ⟨_,rfl,wpAny_pure (hQ h3 _ _ ?_ x3 rfl fun b o hb e=>y3.extBut b o hb (y2.extBut b o hb e))⟩
    rw [List.getElem?_map,Array.getElem?_toList,Array.getElem?_eq_getElem (by omega)]; rfl
  | @drawn ps tp hp=>
    obtain ⟨rfl,ot,nt,h1,h2⟩:=hF
    dsimp only
    refine wpAny_bind ?_
    unfold seqItems?
    refine wpAny_bind (wpAny_load h1 ?_)
    rw [h2]
    refine wpAny_pure ?_
    dsimp only
    have hl : ps.length=es.size:=by rw [hp.length_eq,List.length_range]
    rw [Int.toNat_natCast,List.getElem?_toArray,List.getElem?_map,List.getElem?_eq_getElem (by omega)]
    have hk : ps[i]'(by omega) < es.size:=List.mem_range.mp (hp.mem_iff.mp (List.getElem_mem _))
    dsimp only [Option.map,rawInt]
    rw [Int.toNat_natCast,Int.toNat_natCast]
    refine wpAny_bind (next_drawn hS hk ?_)
    refine wpAny_bind (set1 hit fun h3 x3 y3=>?_)
    refine wpAny_pure ⟨_,rfl,wpAny_pure (hQ h3 _ _ ?_ x3 ⟨rfl,ot,nt,y3.extBut _ _ (nI tp (by simp)) h1,h2⟩ fun b o hb e=>y3.extBut b o hb e)⟩
    have all : ∀ (l : List Nat),(∀ k∈l,k < es.size)→l.filterMap (fun k=>(es[k]?).map (·.2))=l.map fun k=>(es.getD k (0,.none)).2:=by
      intro l
      induction l with
      | nil=>intro _; rfl
      | cons x r ih=>
        intro h
        have hx:=h x (.head _)
        rw [List.filterMap_cons,Array.getElem?_eq_getElem hx,Option.map_some]
        show es[x].2 :: _=_
        rw [ih fun k hk=>h k (.tail _ hk),List.map_cons,Array.getD_eq_getD_getElem?,Array.getElem?_eq_getElem hx]
        rfl
    rw [all ps fun k hk'=>List.mem_range.mp (hp.mem_iff.mp hk'),List.getElem?_map,List.getElem?_eq_getElem (by omega)]
    show some (es.getD (ps[i]'(by omega)) (0,.none)).2=_
    rw [Array.getD_eq_getD_getElem?,Array.getElem?_eq_getElem hk]
    rfl
theorem set_end {I a : Addr} {es : Array (Int×Value)} {ep : Nat} {t : SetTable} {vals : List Value} {F : Nat→Heap→Value→Prop} {ex : List Addr} {first : Value} {Q : Option Value→Shared→Prop} (hh : A.handled=none) (y : Way w a es ep t vals F ex) (hS : SRaw w s.heap a es ep t) (hit : SIter s.heap I first es.size a es.size ep) (hF : F es.size s.heap first)
    (hQ : ∀ h',(∀ b o,b≠I→s.heap.get? b=some o→h'.get? b=some o)→Q none { s with heap:=h' }) : wpAny (model prog w) A (pyNext (.ref I)) Q E s:=by
  obtain ⟨⟨o,ho,hd⟩,hf,hr⟩:=id hS
  have hT : s.TypeIs (.ref I) "set_iterator" := ⟨_,hit,rfl⟩
  unfold pyNext
  refine wpAny_bind (wpAny_attempt (wpAny_callSpecial?_slot (name:=Str.ofString "__next__") hT slot_set_iterator_next (wpAny_call_entry slot_set_iterator_next hT entry_set_iterator_next ?_ (args_set_iterator_next _))))
  unfold Builtin.«set_iterator.__next__»
  refine wpAny_bind (wpAny_pure ?_)
  refine wpAny_bind (wpAny_fieldsOf hit rfl ?_)
  dsimp only
  refine wpAny_bind (wpAny_setEntries_of ho hd hf ?_)
  rw [if_neg (by simp)]
  have stop : ∀ (h1 : Heap),(∃ vs,h1.get? I=some { cls:=.type "set_iterator",data:=.fields vs }∧2 < vs.size)→(∀ b o,b≠I→s.heap.get? b=some o→h1.get? b=some o)→wpAny (model prog w) A.in1 (do setField (.ref I) 2 .none; let x ← newExc (.type "StopIteration") []; raiseNew x) (fun fin s'=>∃ v,fin=Fin.done (Flow.ret v)∧wpAny (model prog w) A (pure (some v)) Q E s')
      (fun e s'=>wpAny (model prog w) A (do let b ← isInstance e (.type "StopIteration"); if b=true then pure none else throw e) Q E s') { s with heap:=h1 }:=by
    rintro h1 ⟨vs,e1,e2⟩ k1
    refine wpAny_bind (wpAny_setField e1 rfl e2 ?_)
    refine wpAny_bind ?_
    simp only [newExc,newTuple]
    refine wpAny_bind (wpAny_newObj_type ?_ (by size_fits))
    refine wpAny_bind (m:=firstArgMember _ _) (wpAny_of_eq (a:=Value.none) (by first | rfl | (simp only [firstArgMember]; rfl)) ?_)
    refine wpAny_newObj_type ?_ (by size_fits)
    simp only [raiseNew]
    refine wpAny_bind (wpAny_handled ?_)
    rw [show A.in1.handled=none from hh]
    refine wpAny_bind (wpAny_pure (wpAny_throw ?_))
    refine wpAny_bind (wpAny_isInstance (b:=true) (T := "StopIteration") ⟨_,Heap.get?_push_size _ rfl,rfl⟩ isSubtype_stop ?_)
    have u:=((Heap.SameBut.update h1 I (Obj.mapFields (·.setIfInBounds 2 Value.none))).extBut.push ({ cls:=.type "tuple",data:=.seq ([] : List Value).toArray } : Obj))
    exact wpAny_pure (hQ _ fun b o hb e=>Heap.get?_push_of_some _ (u b o hb (k1 b o hb e)))
  cases y with
  | led bt hl hp=>
    have hF' : first=rawInt (if es.size=0 then 0 else t.place.getD (es.size - 1) 0 + 1 : Nat):=hF
    subst hF'
    show wpAny _ _ (do let r ← setNext a ((if es.size=0 then 0 else t.place.getD (es.size - 1) 0 + 1 : Nat) : Int).toNat (es.size : Int).toNat (ep : Int).toNat; _) _ _ s
    rw [Int.toNat_natCast,Int.toNat_natCast,Int.toNat_natCast]
    refine wpAny_bind (next_led hS bt hl hp (Nat.le_refl _) (fun hlt=>absurd hlt (Nat.lt_irrefl _)) fun _=>?_)
    exact stop s.heap ⟨_,hit,by simp⟩ fun b o _ e=>e
  | text bt=>
    have hF' : first=rawInt 0:=hF
    subst hF'
    show wpAny _ _ (do let r ← setNext a (0 : Int).toNat (es.size : Int).toNat (ep : Int).toNat; _) _ _ s
    rw [Int.toNat_natCast,Int.toNat_natCast]
    refine wpAny_bind (next_text hS bt ?_)
    have hz : (pickOrder (w.params.setOrder a ep) es).size=es.size:=by rw [← Array.length_toList,(pick_perm _ es).length_eq,Array.length_toList]
    rw [Array.getElem?_eq_none (by omega)]
    exact stop s.heap ⟨_,hit,by simp⟩ fun b o _ e=>e
  | @drawn ps tp hp=>
    obtain ⟨rfl,ot,nt,h1,h2⟩:=hF
    dsimp only
    refine wpAny_bind ?_
    unfold seqItems?
    refine wpAny_bind (wpAny_load h1 ?_)
    rw [h2]
    refine wpAny_pure ?_
    dsimp only
    have hl : ps.length=es.size:=by rw [hp.length_eq,List.length_range]
    rw [Int.toNat_natCast,List.getElem?_toArray,List.getElem?_map,List.getElem?_eq_none (by omega)]
    dsimp only [Option.map]
    refine wpAny_bind (wpAny_setField_rec hit (by simp) fun h3 x3 y3=>?_)
    exact stop h3 ⟨_,x3,by simp⟩ fun b o hb e=>y3.extBut b o hb e
end
end L2
namespace L2
open PySem PySem.Spec PySem.W PyProof.Rows
variable {X : Cx}
def rMin (K : PySem.W.Frag) : List V→Hp→VK→Prop:=fun xs H Q=>∃ (p : Addr) (ns : List Int),xs=[.ref p]∧SqL K H p (ns.map V.int)∧0 < ns.length∧∀ M,M∈ns→(∀ a∈ns,M≤a)→Q (.int M) H
theorem call_minI (hc : X.calm=true) : CallR X (.builtin "min") (rMin X.K):=by
  intro pins s σ H xs us Q I r h
  obtain ⟨p,ns,rfl,hq,hne,q⟩:=h
  obtain ⟨u,rfl,ru⟩:=r.one
  cases ru
  obtain ⟨its,rv,pl,hz⟩:=I.list hq
  have ia:=ints_of rv
  obtain ⟨ys,ey⟩:=ia.allInts.items
  have hl:=pl.isList
  have e2 : ns=ys.toList.map (·.1):=by rw [← ia.numsOf,← nums_intItems,← ey]
  have hsz : 0 < ys.size:=by rw [e2,List.length_map,Array.length_toList] at hne; exact hne
  rw [ey] at hl
  refine min_intList (I.ok.hd hc) hl hsz fun v h' tk hv hk=>?_
  obtain ⟨t,rfl⟩:=intItems_at hv
  obtain ⟨h1,h2⟩:=argBest_lt (numAt ys) (ys.size - 1)
  refine ⟨.int _,H,I.kept (t':=tk) hk,⟨t,rfl⟩,q _ ?_ fun a ha=>?_⟩
  · rw [e2,numAt_eq]; exact getD_mem (by rw [List.length_map,Array.length_toList]; omega)
  · rw [e2] at ha
    obtain ⟨j,hj,rfl⟩:=mem_getD ha
    rw [List.length_map,Array.length_toList] at hj
    rw [← numAt_eq]; exact h2 j (by omega)
end L2
namespace L2
open PySem PySem.Spec PySem.W PyProof.Rows
theorem sub_set_self : isSubtype (.type "set") (.type "set")=pure true:=by rw [isSubtype_type]; kernel_rfl
theorem slot_set_iterator_iter : Slot "set_iterator" "__iter__" "set_iterator.__iter__" :=
  .of (owner := "set_iterator") (n := "__iter__") (by rw [typeLookup_type,builtinLookup_eq_fast]; kernel_rfl) (by decide +kernel) (by decide +kernel) (by decide +kernel) (by first | exact .inl (by decide +kernel) | exact .inr (by decide +kernel)) (by rw [isSubtype_type]; kernel_rfl)
theorem entry_set_iterator_iter : entryFor table "set_iterator.__iter__" = some Builtin.«dict_keyiterator.__iter__»:=entryFor_alias (by kernel_rfl) rfl (id' := "dict_keyiterator.__iter__") (by decide +kernel) (by kernel_rfl)
theorem args_set_iterator_iter (a : Value) : argsOk "set_iterator.__iter__" ⟨[a],[]⟩:=by unfold argsOk; kernel_rfl
def intOf : Value→Int
  | .int k _=>k
  | _=>0
theorem ints_all : ∀ {l : List Value},(∀ v∈l,∃ k t,v = .int k t)→IntsAre l (l.map intOf)
  | [],_=>.nil
  | v :: r,h=>by
    obtain ⟨k,t,rfl⟩:=h v (.head _)
    exact .cons k t (ints_all fun u hu=>h u (.tail _ hu))
section
variable {prog : Program} {w : World} {A : Around} {E : Value→Shared→Prop} {s : Shared}
theorem Way.stay {a : Addr} {es : Array (Int×Value)} {ep : Nat} {t : SetTable} {vals : List Value} {F : Nat→Heap→Value→Prop} {ex : List Addr} (y : Way w a es ep t vals F ex) {i : Nat} {h h' : Heap} {f : Value} (hF : F i h f) (k : ∀ b∈ex,∀ o,h.get? b=some o→h'.get? b=some o) : F i h' f:=by
  cases y with
  | led=>exact hF
  | text=>exact hF
  | drawn hp=>
    obtain ⟨e,o,n,h1,h2⟩:=hF
    exact ⟨e,o,n,k _ (by simp) o h1,h2⟩
theorem walk_set (hh : A.handled=none) {I a : Addr} {es : Array (Int×Value)} {ep : Nat} {t : SetTable} {vals : List Value} {F : Nat→Heap→Value→Prop} {ex : List Addr} (y : Way w a es ep t vals F ex) (nI : ∀ b∈ex,b≠I) (naI : a≠I) :
    WalksS prog w A I (I :: a :: ex) [I] Eq es.size (fun i v=>vals[i]? = some v) (fun i s=>SRaw w s.heap a es ep t∧∃ first,SIter s.heap I first i a es.size ep∧F i s.heap first) where
  sub:=fun b hb=>by rw [List.mem_singleton.mp hb]; exact .head _
  grefl:=fun _=>rfl
  gtrans:=fun _ _ _ h1 h2=>h1.trans h2
  frame:=fun i s h' tk ⟨⟨⟨o,ho,hd⟩,r⟩,first,hi,hF⟩ _ k=>⟨⟨⟨o,k a (.tail _ (.head _)) o ho,hd⟩,r⟩,first,k I (.head _) _ hi,y.stay hF fun b hb o e=>k b (.tail _ (.tail _ hb)) o e⟩
  item:=fun i s Q E hi ⟨hS,first,hit,hF⟩ hQ=>set_item y hS hit hF nI naI hi fun h' f' v hv x1 x2 k=>by
    obtain ⟨⟨o,ho,hd⟩,r⟩:=hS
    exact hQ v _ hv ⟨⟨⟨o,k a o naI ho,hd⟩,r⟩,f',x1,x2⟩ ⟨fun b o hb e=>k b o (fun z=>hb (by rw [z]; exact .head _)) e,rfl,rfl,rfl,Nat.le_refl _⟩
  done:=fun s Q E ⟨hS,first,hit,hF⟩ hQ=>set_end hh y hS hit hF fun h' k=>hQ _ ⟨fun b o hb e=>k b o (fun z=>hb (by rw [z]; exact .head _)) e,rfl,rfl,rfl,Nat.le_refl _⟩
  self:=fun i s Q E ⟨_,first,hit,_⟩ h=>by
    have hT : s.TypeIs (.ref I) "set_iterator" := ⟨_,hit,rfl⟩
    refine wpAny_pyIter_slot hT slot_set_iterator_iter (wpAny_call_entry slot_set_iterator_iter hT entry_set_iterator_iter ?_ (args_set_iterator_iter _))
    show wpAny _ _ (ret (.ref I)) _ _ s
    exact wpAny_pure ⟨_,rfl,"set_iterator",_,hT,slot_set_iterator_next.lookup,h⟩
theorem set_collect {a : Addr} {ns : List Int} {Q : List Value→Shared→Prop} (hh : A.handled=none) (S : SetI w a ns s.heap)
    (hQ : ∀ vals ms h' d tk,IntsAre vals ms→ms.Perm ns→(∀ b o,s.heap.get? b=some o→h'.get? b=some o)→s.toks≤tk→Q vals { s with heap:=h',drawn:=d,toks:=tk }) : wpAny (model prog w) A (collect (.ref a)) Q E s:=by
  obtain ⟨o,es,ep,t,ho,hex,hd,hel,hpm,hb,hf,hled,hrise⟩:=id S
  have hSa : s.heap.objs.size≠a:=Nat.ne_of_gt (Heap.lt_size ho)
  have hT : s.TypeIs (.ref a) "set" := ⟨o,ho,hex.1⟩
  unfold collect
  refine wpAny_bind (wpAny_runValue (codeAny_builtin PySem.F.entry_proto_collect ?_))
  rw [Around.under_plainId PySem.F.plain_proto_collect _]
  show wpAny _ A.in1 (newList [] >>= fun l=>again (.builtin "list.__iadd__" ⟨[l,.ref a],[]⟩)) _ _ s
  refine wpAny_bind (wpAny_newObj_type ?_)
  refine wpAny_pure ⟨plainId_quiet PySem.F.plain_list_iadd _,codeAny_builtin PySem.F.entry_list_iadd ?_⟩
  rw [Around.under_plainId PySem.F.plain_list_iadd _]
  have hS1 : (s.heap.push { cls:=.type "list",data:=.seq ([] : List Value).toArray }).get? s.heap.objs.size=some { cls:=.type "list",data:=.seq ([] : List Value).toArray }:=Heap.get?_push_size _ rfl
  have k1 : ∀ b o,s.heap.get? b=some o→(s.heap.push { cls:=.type "list",data:=.seq ([] : List Value).toArray }).get? b=some o:=fun b o e=>Heap.get?_push_of_some _ e
  have z1 : (s.heap.push { cls:=.type "list",data:=.seq ([] : List Value).toArray }).objs.size=s.heap.objs.size + 1:=Heap.size_push ..
  show wpAny _ A.in1 (Builtin.List.listExtendWith (.ref s.heap.objs.size) (.ref a) (.ref s.heap.objs.size)) _ _ _
  generalize s.heap.push { cls:=.type "list",data:=.seq ([] : List Value).toArray } = h1 at *
  generalize hL : s.heap.objs.size=L at *
  have ho1:=k1 _ _ ho
  unfold Builtin.List.listExtendWith
  refine wpAny_bind (wpAny_typeOf (s:={ s with heap:=h1 }) ⟨o,ho1,hex.1⟩ ?_)
  rw [if_neg (by simp [Builtin.List.listSameRef,hSa])]
  refine wpAny_bind (set_iter (s:={ s with heap:=h1 }) ho1 hex hd hf hled hb fun I h2 d vals F ex first y hF hit k2 lI lex lt=>?_)
  refine wpAny_bind (wpAny_holding ?_)
  have ho2:=k2 _ _ ho1
  have hS2:=k2 _ _ hS1
  have hT2 : Shared.TypeIs { s with heap:=h2,drawn:=d } (.ref a) "set" := ⟨o,ho2,hex.1⟩
  unfold Builtin.List.listLengthHint
  refine wpAny_bind (wpAny_specialOf hT2 PySem.F.slot_set_len.lookup ?_)
  have hsp : splitId "set.__len__" = some ("set","__len__"):=by decide +kernel
  dsimp only
  rw [hsp]
  dsimp only
  refine wpAny_bind (wpAny_isInstance (b:=true) hT2 sub_set_self ?_)
  rw [if_neg (by decide),if_pos (by kernel_rfl)]
  refine wpAny_bind (wpAny_typeOf hT2 ?_)
  refine wpAny_pure ?_
  rw [if_pos (by kernel_rfl)]
  refine wpAny_bind (wpAny_rule ?_)
  unfold Builtin.List.listTouch
  refine wpAny_bind (wpAny_bind (listUpdate_at (s:={ s with heap:=h2,drawn:=d }) hS2 rfl ?_ (by show 0≤sizeLine; decide) (by show 1≤sizeLine + 1; decide)))
  have hS3 : (h2.update L (Obj.mapSeq fun x=>x.push Value.none)).get? L=some { cls:=.type "list",data:=.seq (#[].push Value.none) 1 }:=Heap.get?_update_self _ hS2 rfl
  refine listUpdate_at (s:={ s with heap:=h2.update L (Obj.mapSeq fun x=>x.push Value.none),drawn:=d }) hS3 rfl ?_ (by show 1≤sizeLine; decide) (by show 0≤sizeLine + 1; decide)
  have hS4 : ((h2.update L (Obj.mapSeq fun x=>x.push Value.none)).update L (Obj.mapSeq fun x=>x.pop)).get? L=some { cls:=.type "list",data:=.seq #[] 2 }:=Heap.get?_update_self _ hS3 rfl
  have k4 : ∀ b o,b≠L→h2.get? b=some o→((h2.update L (Obj.mapSeq fun x=>x.push Value.none)).update L (Obj.mapSeq fun x=>x.pop)).get? b=some o:=fun b o hb e=>(Heap.get?_update_other _ _ (Ne.symm hb)).trans ((Heap.get?_update_other _ _ (Ne.symm hb)).trans e)
  show wpAny _ _ _ _ _ { s with heap:=(h2.update L (Obj.mapSeq fun x=>x.push Value.none)).update L (Obj.mapSeq fun x=>x.pop),drawn:=d }
  generalize (h2.update L (Obj.mapSeq fun x=>x.push Value.none)).update L (Obj.mapSeq fun x=>x.pop)=h4 at hS4 k4 ⊢
  have lI' : L + 1≤I:=by rw [← z1]; exact lI
  have lex' : ∀ b∈ex,L + 1≤b∧b < I:=fun b hb=>⟨by rw [← z1]; exact (lex b hb).1,(lex b hb).2⟩
  have naL : a < L:=by rw [← hL]; exact Heap.lt_size ho
  have naI : a≠I:=Nat.ne_of_lt (Nat.lt_trans naL lI')
  have nI : ∀ b∈ex,b≠I:=fun b hb=>Nat.ne_of_lt (lex' b hb).2
  have nLI : I≠L:=Nat.ne_of_gt lI'
  have nLx : ∀ b∈ex,b≠L:=fun b hb=>Nat.ne_of_gt (lex' b hb).1
  have hLf : L ∉ I :: a :: ex:=fun m=>by
    rcases List.mem_cons.mp m with z | m
    · exact nLI z.symm
    · rcases List.mem_cons.mp m with z | m
      · exact hSa z
      · exact nLx L m rfl
  have Wk : WalksS prog w A.in1 I (I :: a :: ex) [I] Eq es.size (fun i v=>vals[i]? = some v) (fun i s=>SRaw w s.heap a es ep t∧∃ first,SIter s.heap I first i a es.size ep∧F i s.heap first):=walk_set (A:=A.in1) hh y nI naI
  refine wpAny_pure ⟨plainId_quiet PySem.F.plain_extend_loop _,codeAny_extend_loopS Wk (fits_of_scanBound hb) L hLf _ es.size 0 { s with heap:=h4,drawn:=d } #[] 2 rfl (Nat.zero_le _) ⟨⟨⟨o,k4 _ _ (Ne.symm hSa) ho2,hd⟩,hf,hrise⟩,first,k4 _ _ nLI hit,y.stay hF fun b hb o e=>k4 _ _ (nLx b hb) e⟩ hS4 (ItemsOf.nil _) fun s' acc' c' hm hS' hacc=>?_⟩
  show wpAny _ A (load L >>= _) _ _ s'
  refine wpAny_bind (wpAny_load hS' (wpAny_pure ?_))
  have hp:=y.perm
  have hlen : vals.length=es.size:=by rw [hp.length_eq,List.length_map,Array.length_toList]
  have eacc : acc'.toList=vals:=by
    refine List.ext_getElem? fun j=>?_
    by_cases hj : j < acc'.size
    · rw [Array.getElem?_toList,Array.getElem?_eq_getElem hj]
      exact (hacc.2 j _ (Array.getElem?_eq_getElem hj)).symm
    · rw [List.getElem?_eq_none (by rw [Array.length_toList]; omega),List.getElem?_eq_none (by rw [hlen,← hacc.1]; omega)]
  rw [eacc]
  obtain ⟨sh,sg,sd,st,so⟩:=s'
  have m2 : s.gens=sg:=hm.gens
  have m4 : so=s.os:=hm.os
  subst m2 m4
  refine hQ vals (vals.map intOf) sh sd st (ints_all fun v hv=>?_) ?_ (fun b o e=>?_) hm.toks
  · obtain ⟨e,he,rfl⟩:=List.mem_map.mp (hp.mem_iff.mp hv)
    obtain ⟨k,t,rfl⟩:=hel e he
    exact ⟨k,t,rfl⟩
  · refine (hp.map intOf).trans ?_
    rw [List.map_map]
    exact hpm
  · have lt : b < L:=by rw [← hL]; exact Heap.lt_size e
    refine hm.heap b o (fun z=>?_) (k4 _ _ (Nat.ne_of_lt lt) (k2 _ _ (k1 _ _ e)))
    rcases List.mem_cons.mp z with z | z
    · exact Nat.ne_of_lt lt z
    · exact Nat.ne_of_lt (Nat.lt_trans lt lI') (List.mem_singleton.mp z)
end
end L2
namespace L2
open PySem PySem.Spec PySem.W PyProof.Rows
section
variable {X : Cx}
theorem Inv.drawn {pins : List (Addr×Obj)} {σ : St} {H : Hp} {s : Shared} (I : Inv X pins σ H s) (d : Drawn) : Inv X pins σ H { s with drawn:=d }:=
  I.step (g':=s.gens) (d':=d) (t':=s.toks) (h':=s.heap) (ch:=[]) (fun _ z=>nomatch z) (fun b o _ _ _ e _=>e) (fun b o _ _ _ e _=>⟨o.slots,e⟩) (fun _ _ _ _ n=>n) (fun b o _ e=>⟨o,e⟩) (fun _ _ e=>e) (fun _ _ _ e=>e) (fun b ps e=>⟨#[],by rw [e]; simp⟩) (fun m hm=>hm) I.hok I.bare
def rSortS (w : World) : List V→Hp→VK→Prop:=fun xs H Q=>∃ (p : Addr) (ns : List Int),xs=[.ref p]∧H p=some (HS w p ns)∧ns.length < 64∧∀ (l : Addr) (ms : List Int),H l=none→ms.Perm ns→ms.Pairwise (·≤·)→Q (.ref l) (upd H l (.lst (ms.map V.int)))
theorem call_sortS (hc : X.calm=true) : CallR X (.builtin "sorted") (rSortS X.w):=by
  intro pins s σ H xs us Q I r h
  obtain ⟨p,ns,rfl,hq,h64,q⟩:=h
  obtain ⟨u,rfl,ru⟩:=r.one
  cases ru
  refine Calls.call_function_entry kind_sorted plain_sorted entry_sorted (args_sorted1 _) ?_
  unfold Builtin.«sorted»
  refine wpAny_bind (m:=checkCount "sorted" 1 1 _) (wpAny_pure ?_)
  refine wpAny_bind (set_collect (w:=X.w) (show X.A.in1.handled=none from I.ok.hd hc) (hs_at I hq) fun vals ms h1 d tk ia pm k1 htk=>?_)
  have I1 : Inv X pins σ H { s with heap:=h1,drawn:=d,toks:=tk }:=(I.kept (h':=h1) (t':=tk) k1).drawn d
  have lv : vals.length < 64:=by rw [IntsAre.length ia,pm.length_eq]; exact h64
  revert I1
  generalize ({ s with heap:=h1,drawn:=d,toks:=tk } : Shared)=s1
  intro I1
  refine wpAny_bind (wpAny_newList ?_ (by rw [sizeLine_eq]; omega))
  have hoL : (s1.heap.push (seqObj "list" vals.toArray 0)).get? s1.heap.objs.size=some (seqObj "list" vals.toArray 0):=Heap.get?_push_size _ rfl
  show wpAny _ _ _ _ _ { s1 with heap:=s1.heap.push (seqObj "list" vals.toArray 0) }
  refine wpAny_bind (wpAny_holding (wpAny_call_entry slot_list_sort ⟨_,hoL,rfl⟩ entry_list_sort (list_sort_tree (s:={ s1 with heap:=s1.heap.push (seqObj "list" vals.toArray 0) }) hoL ia lv fun out ms' i1 i2 i3=>⟨_,rfl,?_⟩) (args_list_sort _)))
  refine wpAny_pure ⟨_,rfl,?_⟩
  obtain ⟨e,he⟩:=sortedHeap_at (out:=out) hoL
  refine ⟨.ref s1.heap.objs.size,_,I1.laid (t':=s1.toks) (a:=s1.heap.objs.size) (o:=.lst (ms'.map V.int)) (fun b o e=>?_) (Nat.le_refl _) ⟨?_,out.toList,e,ints_to i1,?_⟩,rfl,q _ ms' (I1.hok.fresh (Nat.le_refl _)) (i2.trans pm) i3⟩
  · have lt:=Heap.lt_size e
    show (sortedHeap _ _ _ _).get? b=some o
    rw [sortedHeap_old (Nat.ne_of_lt lt) (by rw [size_push']; exact Nat.lt_succ_of_lt lt)]
    exact Heap.get?_push_of_some _ e
  · rw [List.length_map,i2.length_eq,pm.length_eq,sizeLine_eq]; omega
  · rw [he]
end
end L2
namespace L2
open PySem PySem.Spec PySem.W PyProof.Rows
theorem for_items {o : Obj} {kvs : List (List Key×V)} {a : Addr} {g : TG} {tb : TS} {D : Ends} {σ : St} {H : Hp} (Pv : Nat→St→Hp→Prop) (h0 : Pv 0 σ H) (hl : ∀ i σ H,Pv i σ H→H a=some (.frz o (.dT kvs)))
    (hs : ∀ i k x σ H p b,kvs[i]? = some (k,x)→Pv i σ H→H p=none→H b=some (.tup (k.map kV))→g (.ref p) σ (upd H p (.tup [.ref b,x])) fun σ2 H2=>tb { D with nx:=Pv (i + 1),ct:=Pv (i + 1),bk:=D.nx } σ2 H2) (hd : ∀ σ H,Pv kvs.length σ H→D.nx σ H) :
    ∃ W : Nat→Nat→St→Hp→Prop,(∃ m,W 0 m σ H)∧∀ i m σ H,W i m σ H→
      ((Itd o kvs a).stop i H∧D.nx σ H)∨((Itd o kvs a).go i H∧∃ N : St→Hp→Prop,(∀ σ' H',N σ' H'→∃ m',m' < m∧W (i + 1) m' σ' H')∧∀ x H',(Itd o kvs a).yld i H x H'→g x σ H' fun σ2 H2=>tb { D with nx:=N,ct:=N,bk:=D.nx } σ2 H2):=by
  refine ⟨fun i m σ H=>m=kvs.length - i∧i≤kvs.length∧Pv i σ H,⟨kvs.length,by simp,Nat.zero_le _,h0⟩,?_⟩
  rintro i m σ H ⟨rfl,hi,p⟩
  have q:=hl i σ H p
  by_cases hlt : i < kvs.length
  · refine .inr ⟨⟨q,hlt⟩,Pv (i + 1),fun σ' H' p'=>⟨kvs.length - (i + 1),by omega,rfl,hlt,p'⟩,?_⟩
    rintro x H' ⟨pp,b,k,v,rfl,hp,rfl,e,hb⟩
    exact hs i k v σ H pp b e p hp hb
  · have e : i=kvs.length:=by omega
    subst e
    exact .inl ⟨⟨q,Nat.le_refl _⟩,hd σ H p⟩
section
variable {o : Obj} {kvs : List (List Key×V)} {a D : Addr} {g : TG} {ti : TT} {te tk tv : TE} {σ₀ : St} {H1 : Hp} {R : Hp→Prop}
theorem comp_items (P : Nat→List V→Hp→Prop) (hD : H1 D=none) (hx : H1 a=some (.frz o (.dT kvs))) (hn : kvs.length≤1000)
    (st : ∀ i zs H H',P i zs H→(∀ b o,b≠D→H b=some o→H' b=some o)→P i zs H') (h0 : P 0 [] H1)
    (step : ∀ i k v zs H p b,kvs[i]? = some (k,v)→Same H1 H→P i zs H→H p=none→H b=some (.tup (k.map kV))→∀ (K1 : V→Hp→Prop) (K2 : Hp→Prop),(∀ y H4,Same (upd H p (.tup [.ref b,v])) H4→P (i + 1) (zs ++ [y]) H4→K1 y H4)→(∀ H3,Same (upd H p (.tup [.ref b,v])) H3→P (i + 1) zs H3→K2 H3)→
      g (.ref p) σ₀ (upd H p (.tup [.ref b,v])) fun σ2 H2=>(∀ (k : Nat) v,σ₀[k]? = some (some v)→σ2[k]? = some (some v))∧ti σ2 H2 fun b H3=>if b=true then te σ2 H3 K1 else K2 H3)
    (fin : ∀ zs H,Same H1 H→P kvs.length zs H→zs.length≤kvs.length→H D=some (.lst zs)→R H) :
    ∃ W : Nat→Nat→Hp→Prop,(∃ m,W 0 m (upd H1 D (.lst [])))∧∀ i m H,W i m H→((Itd o kvs a).stop i H∧R H)∨((Itd o kvs a).go i H∧∀ x H',(Itd o kvs a).yld i H x H'→g x σ₀ H' fun σ2 H2=>(∀ (k : Nat) v,σ₀[k]? = some (some v)→σ2[k]? = some (some v))∧ti σ2 H2 fun b H3=>
      if b=true then te σ2 H3 fun y H4=>∃ zs,H4 D=some (.lst zs)∧zs.length < sizeLine∧∃ m',m' < m∧W (i + 1) m' (upd H4 D (.lst (zs ++ [y]))) else ∃ m',m' < m∧W (i + 1) m' H3):=by
  refine ⟨fun i m H=>i + m=kvs.length∧Same H1 H∧∃ zs,H D=some (.lst zs)∧zs.length≤i∧P i zs H,⟨kvs.length,by omega,same_new hD _,[],upd_same,Nat.le_refl _,st _ _ _ _ h0 fun b o hb e=>by rw [upd_ne hb]; exact e⟩,?_⟩
  rintro i m H ⟨him,s1,zs,hz,hl,hp⟩
  have ex:=s1 _ _ hx
  by_cases hi : i < kvs.length
  · refine .inr ⟨⟨ex,hi⟩,?_⟩
    rintro x H' ⟨p,b,k,v,rfl,hpn,rfl,e,hb⟩
    have sN:=same_new hpn (.tup [.ref b,v])
    exact step i k v zs H p b e s1 hp hpn hb _ _ (fun y H4 s4 p4=>⟨zs,s4 _ _ (sN _ _ hz),small1000 (by omega),m - 1,by omega,by omega,((s1.trans sN).trans s4).young hD,zs ++ [y],upd_same,by rw [List.length_append,List.length_singleton]; omega,st _ _ _ _ p4 fun b o hb e=>by rw [upd_ne hb]; exact e⟩) fun H3 s3 p3=>⟨m - 1,by omega,by omega,(s1.trans sN).trans s3,zs,s3 _ _ (sN _ _ hz),by omega,p3⟩
  · have e : i=kvs.length:=by omega
    subst e
    exact .inl ⟨⟨ex,Nat.le_refl _⟩,fin zs H s1 hp hl hz⟩
theorem dcomp_by {K : PySem.W.Frag} {xs : List V} (P : Nat→List (List Key×V)→Hp→Prop) (hD : H1 D=none) (hx : H1 a=some (.lst xs)) (hn : xs.length≤1000)
    (st : ∀ i zs H H',P i zs H→(∀ b o,b≠D→H b=some o→H' b=some o)→P i zs H') (h0 : P 0 [] H1)
    (step : ∀ i x zs H,xs[i]? = some x→Same H1 H→P i zs H→∀ (K1 : V→Hp→V→Hp→Prop) (K2 : Hp→Prop),(∀ y H4 z H5,Same H H5→(∃ k bb,y = .ref bb∧H5 bb=some (.tup (k.map kV))∧P (i + 1) (putK zs k z) H5)→K1 y H4 z H5)→(∀ H3,Same H H3→P (i + 1) zs H3→K2 H3)→
      g x σ₀ H fun σ2 H2=>(∀ (k : Nat) v,σ₀[k]? = some (some v)→σ2[k]? = some (some v))∧ti σ2 H2 fun b H3=>if b=true then tk σ2 H3 fun y H4=>tv σ2 H4 fun z H5=>K1 y H4 z H5 else K2 H3)
    (fin : ∀ zs H,Same H1 H→P xs.length zs H→H D=some (.dT zs)→R H) :
    ∃ W : Nat→Nat→Hp→Prop,(∃ m,W 0 m (upd H1 D (.dT [])))∧∀ i m H,W i m H→((Itl K a).stop i H∧R H)∨((Itl K a).go i H∧∀ x H',(Itl K a).yld i H x H'→g x σ₀ H' fun σ2 H2=>(∀ (k : Nat) v,σ₀[k]? = some (some v)→σ2[k]? = some (some v))∧ti σ2 H2 fun b H3=>
      if b=true then tk σ2 H3 fun y H4=>tv σ2 H4 fun z H5=>∃ kvs k bb,H5 D=some (.dT kvs)∧y = .ref bb∧H5 bb=some (.tup (k.map kV))∧kvs.length < sizeLine∧∃ m',m' < m∧W (i + 1) m' (upd H5 D (.dT (putK kvs k z))) else ∃ m',m' < m∧W (i + 1) m' H3):=by
  refine ⟨fun i m H=>i + m=xs.length∧Same H1 H∧∃ zs,H D=some (.dT zs)∧zs.length≤i∧P i zs H,⟨xs.length,by omega,same_new hD _,[],upd_same,Nat.le_refl _,st _ _ _ _ h0 fun b o hb e=>by rw [upd_ne hb]; exact e⟩,?_⟩
  rintro i m H ⟨him,s1,zs,hz,hl,hp⟩
  have ex:=s1 _ _ hx
  by_cases hi : i < xs.length
  · refine .inr ⟨⟨xs,_,SqL.of ex,List.getElem?_eq_getElem hi⟩,?_⟩
    rintro x H' ⟨rfl,hy⟩
    refine step i x zs H' (hy _ (SqL.of ex)) s1 hp (fun y _ z H5=>∃ kvs k bb,H5 D=some (.dT kvs)∧y = .ref bb∧H5 bb=some (.tup (k.map kV))∧kvs.length < sizeLine∧∃ m',m' < m∧(i + 1 + m' = xs.length∧Same H1 (upd H5 D (.dT (putK kvs k z)))∧∃ zs,upd H5 D (.dT (putK kvs k z)) D=some (.dT zs)∧zs.length≤i + 1∧P (i + 1) zs (upd H5 D (.dT (putK kvs k z))))) _ (fun y H4 z H5 s5 ⟨k,bb,ey,hb,p5⟩=>?_) fun H3 s3 p3=>⟨m - 1,by omega,by omega,s1.trans s3,zs,s3 _ _ hz,by omega,p3⟩
    have lp:=length_putK zs k z
    exact ⟨zs,k,bb,s5 _ _ hz,ey,hb,small1000 (by omega),m - 1,by omega,by omega,(s1.trans s5).young hD,_,upd_same,by omega,st _ _ _ _ p5 fun b o hb e=>by rw [upd_ne hb]; exact e⟩
  · have e : i=xs.length:=by omega
    subst e
    exact .inl ⟨⟨xs,SqL.of ex,Nat.le_refl _⟩,fin zs H s1 hp hz⟩
theorem scomp_by {K : PySem.W.Frag} {w : World} {xs : List V} (P : Nat→List Int→Prop) (hD : H1 D=none) (hx : H1 a=some (.lst xs)) (hn : xs.length≤1000) (h0 : P 0 [])
    (step : ∀ i x ns H,xs[i]? = some x→Same H1 H→P i ns→∀ (K1 : V→Hp→Prop) (K2 : Hp→Prop),(∀ y z H4,y = .int z→Same H H4→P (i + 1) (if z∈ns then ns else ns ++ [z])→K1 y H4)→(∀ H3,Same H H3→P (i + 1) ns→K2 H3)→
      g x σ₀ H fun σ2 H2=>(∀ (k : Nat) v,σ₀[k]? = some (some v)→σ2[k]? = some (some v))∧ti σ2 H2 fun b H3=>if b=true then te σ2 H3 K1 else K2 H3)
    (fin : ∀ ns H,Same H1 H→P xs.length ns→ns.length≤xs.length→H D=some (HS w D ns)→R H) :
    ∃ W : Nat→Nat→Hp→Prop,(∃ m,W 0 m (upd H1 D (HS w D [])))∧∀ i m H,W i m H→((Itl K a).stop i H∧R H)∨((Itl K a).go i H∧∀ x H',(Itl K a).yld i H x H'→g x σ₀ H' fun σ2 H2=>(∀ (k : Nat) v,σ₀[k]? = some (some v)→σ2[k]? = some (some v))∧ti σ2 H2 fun b H3=>
      if b=true then te σ2 H3 fun y H4=>∃ ns x,H4 D=some (HS w D ns)∧y = .int x∧ns.length + 1 < scanBound∧∃ m',m' < m∧W (i + 1) m' (upd H4 D (HS w D (if x∈ns then ns else ns ++ [x]))) else ∃ m',m' < m∧W (i + 1) m' H3):=by
  refine ⟨fun i m H=>i + m=xs.length∧Same H1 H∧∃ ns,H D=some (HS w D ns)∧ns.length≤i∧P i ns,⟨xs.length,by omega,same_new hD _,[],upd_same,Nat.le_refl _,h0⟩,?_⟩
  rintro i m H ⟨him,s1,ns,hz,hl,hp⟩
  have ex:=s1 _ _ hx
  by_cases hi : i < xs.length
  · refine .inr ⟨⟨xs,_,SqL.of ex,List.getElem?_eq_getElem hi⟩,?_⟩
    rintro x H' ⟨rfl,hy⟩
    refine step i x ns H' (hy _ (SqL.of ex)) s1 hp _ _ (fun y z H4 ey s4 p4=>⟨ns,z,s4 _ _ hz,ey,by have : scanBound=4096:=rfl; omega,m - 1,by omega,by omega,(s1.trans s4).young hD,_,upd_same,?_,p4⟩) fun H3 s3 p3=>⟨m - 1,by omega,by omega,s1.trans s3,ns,s3 _ _ hz,by omega,p3⟩
    split
    · omega
    · rw [List.length_append,List.length_singleton]; omega
  · have e : i=xs.length:=by omega
    subst e
    exact .inl ⟨⟨xs,SqL.of ex,Nat.le_refl _⟩,fin ns H s1 hp hl hz⟩
end
end L2
namespace L2
open PySem PySem.Spec PySem.W PyProof.Rows
def stKey (f l : Int) : List Key:=[.inl f,.inl l]
def slk (ks : List (Int×Int)) (v : Int→Int→Int) : List (List Key×V):=ks.map fun p=>(stKey p.1 p.2,.int (v p.1 p.2))
def SlAt (H : Hp) (d : Addr) (ks : List (Int×Int)) (v : Int→Int→Int) : Prop:=∃ o,H d=some (.frz o (.dT (slk ks v)))
theorem SlAt.same {H H' : Hp} {d : Addr} {ks : List (Int×Int)} {v : Int→Int→Int} (h : SlAt H d ks v) (s : Same H H') : SlAt H' d ks v:=by
  obtain ⟨o,e⟩:=h
  exact ⟨o,s _ _ e⟩
def DaysOf (rs : List (List Int)) (ds : List Int) : Prop:=ds.Pairwise (· < ·)∧(∀ d,d∈ds↔∃ r∈rs,r.getD 0 0=d)∧ds.length≤rs.length
def strOf (ds : List Int) : List (Int×Int):=ds.flatMap fun f=>(ds.filter fun l=>decide (f≤l)).map fun l=>(f,l)
def spDaysOf : Sp:=fun vs H Q _=>∃ (a : Addr) (rs : List (List Int)),vs=[.ref a]∧Rows H a rs∧(∀ r∈rs,r.length=3)∧rs.length≤60∧∀ l ds H',H l=none→DaysOf rs ds→Same H H'→IntsAt H' l ds→Q (.ref l) H'
def spStretchesOf : Sp:=fun vs H Q _=>∃ (a : Addr) (rs : List (List Int)),vs=[.ref a]∧Rows H a rs∧(∀ r∈rs,r.length=3)∧rs.length≤31∧∀ l ds H',H l=none→DaysOf rs ds→Same H H'→Rows H' l ((strOf ds).map fun p=>[p.1,p.2])→Q (.ref l) H'
def spAgainstEach : Sp:=fun vs H Q _=>∃ (a b : Addr) (tm : Int) (rs os : List (List Int)),vs=[.ref a,.ref b,.int tm]∧Rows H a rs∧(∀ r∈rs,r.length=3)∧rs.length≤31∧Rows H b os∧(∀ r∈os,r.length=2)∧os.length≤100∧∀ d ds H',H d=none→DaysOf rs ds→Same H H'→SlAt H' d (strOf ds) (goingOf os tm)→Q (.ref d) H'
def lessF (v : Int→Int→Int) (day u : Int) : Int→Int→Int:=fun f l=>if f≤day∧day≤l then v f l - u else v f l
def spLessened : Sp:=fun vs H Q _=>∃ (d : Addr) (day u : Int) (ks : List (Int×Int)) (v : Int→Int→Int),vs=[.ref d,.int day,.int u]∧SlAt H d ks v∧ks.Nodup∧ks.length≤1000∧∀ d' H',H d' = none→Same H H'→SlAt H' d' ks (lessF v day u)→Q (.ref d') H'
def FreeIs (ks : List (Int×Int)) (v : Int→Int→Int) (day left M : Int) : Prop:=M≤left∧(∀ p∈ks,p.1≤day→day≤p.2→M≤v p.1 p.2)∧(M=left∨∃ p∈ks,p.1≤day∧day≤p.2∧M=v p.1 p.2)
def spFreeAt : Sp:=fun vs H Q _=>∃ (d p : Addr) (u day c du : Int) (ks : List (Int×Int)) (v : Int→Int→Int),vs=[.ref d,.ref p,.int u]∧SlAt H d ks v∧ks.length≤961∧H p=some (.tup [.int day,.int c,.int du])∧∀ M H',Same H H'→FreeIs ks v day (c - u) M→Q (.int M) H'
theorem nodup_of_lt {ds : List Int} (h : ds.Pairwise (· < ·)) : ds.Nodup:=h.imp fun z=>Int.ne_of_lt z
theorem str_nodup {ds : List Int} (h : ds.Pairwise (· < ·)) : (strOf ds).Nodup:=by
  have nd:=nodup_of_lt h
  unfold strOf
  suffices hh : ∀ es : List Int,es.Nodup→(es.flatMap fun f=>(ds.filter fun l=>decide (f≤l)).map fun l=>(f,l)).Nodup from hh ds nd
  intro es
  induction es with
  | nil=>intro _; exact List.nodup_nil
  | cons f r ih=>
    intro hn
    obtain ⟨h1,h2⟩:=List.nodup_cons.mp hn
    rw [List.flatMap_cons,List.nodup_append]
    refine ⟨?_,ih h2,fun p hp q hq e=>?_⟩
    · exact List.Pairwise.map _ (fun a b hab z=>hab (congrArg Prod.snd z)) (nd.filter _)
    · obtain ⟨l,_,rfl⟩:=List.mem_map.mp hp
      obtain ⟨f',hf',hq'⟩:=List.mem_flatMap.mp hq
      obtain ⟨l',_,rfl⟩:=List.mem_map.mp hq'
      cases e
      exact h1 hf'
theorem str_len {ds : List Int} (h : ds.length≤31) : (strOf ds).length≤961:=by
  unfold strOf
  have : ∀ es : List Int,(es.flatMap fun f=>(ds.filter fun l=>decide (f≤l)).map fun l=>(f,l)).length≤es.length * 31:=by
    intro es
    induction es with
    | nil=>exact Nat.le_refl _
    | cons f r ih=>
      rw [List.flatMap_cons,List.length_append,List.length_map,List.length_cons]
      have:=List.length_filter_le (fun l=>decide (f≤l)) ds
      omega
  have:=this ds
  omega
theorem mem_str {ds : List Int} {f l : Int} : (f,l)∈strOf ds↔f∈ds∧l∈ds∧f≤l:=by
  unfold strOf
  constructor
  · intro h
    obtain ⟨f',hf,h'⟩:=List.mem_flatMap.mp h
    obtain ⟨l',hl,e⟩:=List.mem_map.mp h'
    cases e
    obtain ⟨h1,h2⟩:=List.mem_filter.mp hl
    exact ⟨hf,h1,of_decide_eq_true h2⟩
  · rintro ⟨h1,h2,h3⟩
    exact List.mem_flatMap.mpr ⟨f,h1,List.mem_map.mpr ⟨l,List.mem_filter.mpr ⟨h2,decide_eq_true h3⟩,rfl⟩⟩
theorem key_inj {f l f' l' : Int} (h : stKey f l=stKey f' l') : f=f'∧l=l':=by
  unfold stKey at h
  simp only [List.cons.injEq,Sum.inl.injEq,and_true] at h
  exact h
theorem put_slk {ks : List (Int×Int)} {v : Int→Int→Int} {f l : Int} (h : (f,l) ∉ ks) : putK (slk ks v) (stKey f l) (.int (v f l))=slk (ks ++ [(f,l)]) v:=by
  have hn : valV (slk ks v) (stKey f l)=none:=by
    unfold valV slk
    rw [Option.map_eq_none_iff,List.find?_eq_none]
    intro x hx z
    obtain ⟨p,hp,rfl⟩:=List.mem_map.mp hx
    obtain ⟨e1,e2⟩:=key_inj (of_decide_eq_true z)
    exact h (by rw [← e1,← e2]; exact hp)
  rw [putK_new _ hn]
  unfold slk
  rw [List.map_append]; rfl
end L2
namespace L2
def strOf' (ds : List Int) (i j : Nat) : List (List Int):=((ds.take i).flatMap fun f=>(ds.filter fun l=>decide (f≤l)).map fun l=>[f,l]) ++ ((((ds.take j).filter fun l=>decide (ds.getD i 0≤l)).map fun l=>[ds.getD i 0,l]))
theorem str'_len {ds : List Int} {i j : Nat} (h : ds.length≤31) : (strOf' ds i j).length≤1000:=by
  unfold strOf'
  have : ∀ es : List Int,(es.flatMap fun f=>(ds.filter fun l=>decide (f≤l)).map fun l=>[f,l]).length≤es.length * 31:=by
    intro es
    induction es with
    | nil=>exact Nat.le_refl _
    | cons f r ih=>
      rw [List.flatMap_cons,List.length_append,List.length_map,List.length_cons]
      have:=List.length_filter_le (fun l=>decide (f≤l)) ds
      omega
  have h1:=this (ds.take i)
  have h2:=List.length_filter_le (fun l=>decide (ds.getD i 0≤l)) (ds.take j)
  rw [List.length_append,List.length_map]
  rw [List.length_take] at h1 h2
  omega
end L2
namespace K11
open PySem L2
abbrev s_days_of : Stmt:=top 27
abbrev n_days_of : List Str:=["lots"]
abbrev p_days_of : List Str:=["lots"]
theorem sc_days_of : FnScope n_days_of p_days_of (defScope s_days_of):=⟨rfl,rfl,rfl,by decide +kernel,rfl,by decide +kernel,by decide +kernel⟩
abbrev s_stretches_of : Stmt:=top 28
abbrev n_stretches_of : List Str:=["lots","days"]
abbrev p_stretches_of : List Str:=["lots"]
theorem sc_stretches_of : FnScope n_stretches_of p_stretches_of (defScope s_stretches_of):=⟨rfl,rfl,rfl,by decide +kernel,rfl,by decide +kernel,by decide +kernel⟩
abbrev s_against_each : Stmt:=top 29
abbrev n_against_each : List Str:=["lots","outs","term"]
abbrev p_against_each : List Str:=["lots","outs","term"]
theorem sc_against_each : FnScope n_against_each p_against_each (defScope s_against_each):=⟨rfl,rfl,rfl,by decide +kernel,rfl,by decide +kernel,by decide +kernel⟩
abbrev s_lessened : Stmt:=top 30
abbrev n_lessened : List Str:=["slacks","day","units","told","first","last","slack"]
abbrev p_lessened : List Str:=["slacks","day","units"]
theorem sc_lessened : FnScope n_lessened p_lessened (defScope s_lessened):=⟨rfl,rfl,rfl,by decide +kernel,rfl,by decide +kernel,by decide +kernel⟩
abbrev s_free_at : Stmt:=top 31
abbrev n_free_at : List Str:=["slacks","lot","units","day","count","duty","around"]
abbrev p_free_at : List Str:=["slacks","lot","units"]
theorem sc_free_at : FnScope n_free_at p_free_at (defScope s_free_at):=⟨rfl,rfl,rfl,by decide +kernel,rfl,by decide +kernel,by decide +kernel⟩
section
variable {P : Program} {w : World} {K : PySem.W.Frag} {mg : Str→Option Value} {base : Heap} {f : Addr} {fd : FuncData} {cl : Nat→Addr} (T : Txt K mg cl) (B : Bn mg)
include T B
theorem ok_days_of (F : Fun K "days_of" "days_of" s_days_of f fd) : FnOk P w K mg base CX0 1 f fd p_days_of spDaysOf:=by
  refine F.ok sc_days_of (fun vs H Q E h=>?_) (fun cdv A outer s H vs Q E hr h=>?_)
  · obtain ⟨a,rs,rfl,_⟩:=h; rfl
  obtain ⟨a,rs,rfl,hR,h3,hn,q⟩:=h
  refine ⟨_,(pss_one (ps_ret (pe_callB (call_sortS rfl) rfl B.sorted PyProof.Rows.boot_sorted (pa_c (pe_scomp (N':=["day","count","duty"]) (ix:=[none,none,none]) (g:=(gTup K 3 (gCons (gName 0) (gCons (gName 1) (gCons (gName 2) gNil))))) (ti:=tIf0) (te:=(tVar 0)) rfl (comp_scope (N:=n_days_of) (D:=defScope s_days_of) (by decide +kernel)) (pi_list (pv 0)) (fun C s H fp=>(pg_tup rfl (pgs_cons (pg_name (i:=0) (show (["day","count","duty"] : List Str).Nodup by decide +kernel) rfl (Or.inl rfl)) (pgs_cons (pg_name (i:=1) (show (["day","count","duty"] : List Str).Nodup by decide +kernel) rfl (Or.inl rfl)) (pgs_cons (pg_name (i:=2) (show (["day","count","duty"] : List Str).Nodup by decide +kernel) rfl (Or.inl rfl)) pgs_nil))))) (fun C s H fp=>pifs_nil) (fun C s H fp=>(pv 0))) pa_nil)))),?_⟩
  obtain ⟨xs,ex,ht⟩:=hR.tups
  refine ⟨_,rfl,a,rfl,⟨xs,SqL.of ex⟩,fun D hD=>?_⟩
  refine scomp_by (fun i ns=>ns.Nodup∧∀ d,d∈ns↔∃ r∈rs.take i,r.getD 0 0=d) hD ex (by rw [ht.1]; omega) ⟨List.nodup_nil,fun d=>⟨fun z=>(by cases z),fun ⟨r,hr,_⟩=>(by cases hr)⟩⟩ ?_ ?_
  · rintro i x ns H1 ei s1 ⟨nd,hm⟩ K1 K2 q1 q2
    obtain ⟨p,r,rfl,er,hp⟩:=ht.at ei
    obtain ⟨d,c,u,rfl⟩:=len3 (h3 r (List.mem_of_getElem? er))
    refine ⟨p,_,rfl,SqT.of (s1 _ _ hp),rfl,_,_,rfl,_,_,rfl,_,_,rfl,rfl,keep_set (keep_set (keep_set keep_refl rfl) rfl) rfl,?_⟩
    refine ⟨_,rfl,q1 _ d _ rfl (Same.refl _) ⟨?_,fun e=>?_⟩⟩
    · split
      · exact nd
      · rename_i z
        exact List.nodup_append.mpr ⟨nd,by simp,fun a ha b hb e=>z (by rw [← List.mem_singleton.mp hb,← e]; exact ha)⟩
    · rw [getElem_next er]
      have key : (∃ r∈rs.take i ++ [[d,c,u]],r.getD 0 0=e)↔(e∈ns∨e=d):=by
        rw [hm e]
        constructor
        · rintro ⟨r,hr,e'⟩
          rcases List.mem_append.mp hr with z | z
          · exact .inl ⟨r,z,e'⟩
          · rw [List.mem_singleton.mp z] at e'; exact .inr e'.symm
        · rintro (⟨r,z,e'⟩ | z)
          · exact ⟨r,List.mem_append_left _ z,e'⟩
          · exact ⟨_,List.mem_append_right _ (.head _),z.symm⟩
      rw [key]
      split
      · rename_i z
        exact ⟨.inl,fun y=>y.elim id fun y=>by rw [y]; exact z⟩
      · rw [List.mem_append,List.mem_singleton]
  · rintro ns H1 s1 ⟨nd,hm⟩ hl hz
    rw [ht.1,List.take_length] at hm
    have h1:=ht.1
    refine ⟨D,ns,rfl,hz,by omega,fun l ms hl' hp hs=>?_⟩
    refine q l ms _ (s1.free hl') ⟨?_,fun d=>by rw [hp.mem_iff]; exact hm d,by rw [hp.length_eq]; omega⟩ (s1.trans (same_new hl' _)) upd_same
    exact (hs.and (hp.nodup_iff.mpr nd)).imp fun ⟨z1,z2⟩=>by omega
theorem ok_stretches_of (G_days_of : Cal P w K mg base CX0 1 "days_of" p_days_of spDaysOf) (F : Fun K "stretches_of" "stretches_of" s_stretches_of f fd) : FnOk P w K mg base CX0 2 f fd p_stretches_of spStretchesOf:=by
  refine F.ok sc_stretches_of (fun vs H Q E h=>?_) (fun cdv A outer s H vs Q E hr h=>?_)
  · obtain ⟨a,rs,rfl,_⟩:=h; rfl
  obtain ⟨a,rs,rfl,hR,h3,hn,q⟩:=h
  refine ⟨_,(pss_cons (ps_set (i:=1) sc_stretches_of.nd rfl (Or.inr rfl) (pe_cal G_days_of hr rfl pass0 (pa_c (pv 0) pa_nil)))
    (pss_one (ps_ret (pe_comp2 (N':=["first","last","days"]) (ix:=[none,none,some 1]) (g:=(gName 0)) (wi1:=iList K (tVar 2)) (g1:=(gName 1)) (ti:=(tTest (tOp (rI0 fun i j=>.bl (decide (i≤j))) (tVar 0) (tVar 1)))) (te:=(tTup (tCons (tVar 0) (tCons (tVar 1) tNil)))) rfl (comp_scope (N:=n_stretches_of) (D:=defScope s_stretches_of) (by decide +kernel)) (pi_list (pv 1)) (fun C s H fp=>(pg_name (i:=0) (show (["first","last","days"] : List Str).Nodup by decide +kernel) rfl (Or.inl rfl))) (fun C s H fp=>(pi_list (pv 2))) (fun C s H fp=>(pg_name (i:=1) (show (["first","last","days"] : List Str).Nodup by decide +kernel) rfl (Or.inl rfl))) (fun C s H fp=>(pifs_one (pt_cmpR op_le (pv 0) (pv 1) (nomark _)))) (fun C s H fp=>(pe_tup (pa_c (pv 0) (pa_c (pv 1) pa_nil)))))))),?_⟩
  refine ⟨_,rfl,a,rs,rfl,hR,h3,by omega,fun dl ds H1 hdl hds s1 e1=>?_⟩
  have ld : ds.length≤31:=Nat.le_trans hds.2.2 hn
  refine ⟨_,rfl,dl,rfl,⟨_,SqL.of e1⟩,fun D hD=>?_⟩
  have part : ∀ i j,strOf' ds i j=((ds.take i).flatMap fun f=>(ds.filter fun l=>decide (f≤l)).map fun l=>[f,l]) ++ ((((ds.take j).filter fun l=>decide (ds.getD i 0≤l)).map fun l=>[ds.getD i 0,l])):=fun i j=>rfl
  refine ⟨fun i m H2=>i + m=ds.length∧Same H1 H2∧Rows H2 D (strOf' ds i 0),⟨ds.length,by omega,same_new hD _,Rows.nil upd_same⟩,?_⟩
  rintro i m H2 ⟨him,s2,R2⟩
  have e2 : IntsAt H2 dl ds:=s2 _ _ e1
  by_cases hi : i < ds.length
  · refine .inr ⟨⟨_,_,SqL.of e2,List.getElem?_eq_getElem (by rw [List.length_map]; exact hi)⟩,?_⟩
    rintro x H' ⟨rfl,hx⟩
    obtain ⟨fi,rfl,efi⟩:=ints_at (hx _ (SqL.of e2))
    have gfi : ds.getD i 0=fi:=by rw [List.getD_eq_getElem?_getD,efi]; rfl
    refine ⟨keep_set keep_refl rfl,?_⟩
    refine ⟨_,rfl,dl,rfl,⟨_,SqL.of e2⟩,?_⟩
    refine ⟨fun j m1 H3=>j + m1=ds.length∧Same H1 H3∧Rows H3 D (strOf' ds i j),⟨ds.length,by omega,s2,R2⟩,?_⟩
    rintro j m1 H3 ⟨hjm,s3,R3⟩
    have e3 : IntsAt H3 dl ds:=s3 _ _ e1
    by_cases hj : j < ds.length
    · refine .inr ⟨⟨_,_,SqL.of e3,List.getElem?_eq_getElem (by rw [List.length_map]; exact hj)⟩,?_⟩
      rintro y H4 ⟨rfl,hy⟩
      obtain ⟨la,rfl,ela⟩:=ints_at (hy _ (SqL.of e3))
      refine ⟨keep_set keep_refl rfl,?_⟩
      refine ⟨_,rfl,_,rfl,_,_,rfl,rfl,_,rfl,?_⟩
      have ft:=filter_take (rs:=ds) (fun l=>decide (fi≤l)) ela
      by_cases c1 : fi≤la
      · rw [decide_eq_true c1]
        refine iteT ⟨_,rfl,_,rfl,by show 2≤sizeLine; decide,fun t ht=>?_⟩
        obtain ⟨ys,ey,eyl,_⟩:=R3.get
        have e4 : strOf' ds i (j + 1)=strOf' ds i j ++ [[fi,la]]:=by
          rw [part,part,gfi,ft,if_pos (decide_eq_true c1),List.map_append,← List.append_assoc]; rfl
        refine ⟨ys,by rw [upd_ne (ne_of_none ey ht)]; exact ey,small1000 (by rw [eyl]; exact str'_len ld),m1 - 1,by omega,by omega,(s3.trans (same_new ht _)).young hD,?_⟩
        rw [e4]
        exact R3.push (r:=[fi,la]) ey ht
      · rw [decide_eq_false c1]
        refine iteF ⟨m1 - 1,by omega,by omega,s3,?_⟩
        have e4 : strOf' ds i (j + 1)=strOf' ds i j:=by
          rw [part,part,gfi,ft,if_neg (fun z=>c1 (of_decide_eq_true z)),List.append_nil]
        rw [e4]
        exact R3
    · refine .inl ⟨⟨_,SqL.of e3,by rw [List.length_map]; omega⟩,m - 1,by omega,by omega,s3,?_⟩
      have e4 : strOf' ds (i + 1) 0=strOf' ds i j:=by
        rw [part,part,gfi,getElem_next efi,List.flatMap_append,List.take_of_length_le (by omega : ds.length≤j)]
        simp
      rw [e4]
      exact R3
  · refine .inl ⟨⟨_,SqL.of e2,by rw [List.length_map]; omega⟩,?_⟩
    refine q D ds H2 (s1.free hD) hds (s1.trans s2) ?_
    have e4 : strOf' ds i 0=(strOf ds).map fun p=>[p.1,p.2]:=by
      rw [part,List.take_of_length_le (by omega : ds.length≤i)]
      unfold strOf
      rw [List.map_flatMap]
      simp
      rfl
    rw [← e4]
    exact R2
theorem ok_against_each (G_stretches_of : Cal P w K mg base CX0 2 "stretches_of" p_stretches_of spStretchesOf) (G_going : Cal P w K mg base CX0 1 "going" p_going spGoing) (F : Fun K "against_each" "against_each" s_against_each f fd) : FnOk P w K mg base CX0 3 f fd p_against_each spAgainstEach:=by
  refine F.ok sc_against_each (fun vs H Q E h=>?_) (fun cdv A outer s H vs Q E hr h=>?_)
  · obtain ⟨a,b,tm,rs,os,rfl,_⟩:=h; rfl
  obtain ⟨a,b,tm,rs,os,rfl,hR,h3,rn,hO,h2,on,q⟩:=h
  refine ⟨_,(pss_one (ps_ret (pe_frz (pe_dcomp (N':=["stretch","outs","term"]) (ix:=[none,some 1,some 2]) (g:=(gName 0)) (ti:=tIf0) (tk:=(tVar 0)) (tv:=(tCall spGoing [] E0 (tCons (tVar 1) (tCons (tVar 2) (tCons (tVar 0) tNil))))) (Nat.lt_of_le_of_lt (Nat.le_add_right _ _) hr.units) rfl (comp_scope (N:=n_against_each) (D:=defScope s_against_each) (by decide +kernel)) (pi_list (pe_cal G_stretches_of hr rfl pass0 (pa_c (pv 0) pa_nil))) (fun C s H fp=>(pg_name (i:=0) (show (["stretch","outs","term"] : List Str).Nodup by decide +kernel) rfl (Or.inl rfl))) (fun C s H fp=>pifs_nil) (fun C s H fp=>(pv 0)) (fun C s H fp=>(pe_cal G_going hr rfl pass0 (pa_c (pv 1) (pa_c (pv 2) (pa_c (pv 0) pa_nil))))))))),?_⟩
  refine ⟨_,rfl,a,rs,rfl,hR,h3,rn,fun sl ds H1 hsl hds s1 R1=>?_⟩
  obtain ⟨xs,ex,ht⟩:=R1.tups
  have ld : ds.length≤31:=Nat.le_trans hds.2.2 rn
  have sn:=str_len ld
  have nd:=str_nodup hds.1
  have O1:=hO.same s1
  refine ⟨sl,rfl,⟨xs,SqL.of ex⟩,fun D hD=>?_⟩
  have lx : xs.length=(strOf ds).length:=by rw [ht.1,List.length_map]
  refine dcomp_by (fun i zs _=>zs=slk ((strOf ds).take i) (goingOf os tm)) hD ex (by omega) (fun i zs H1 H2 h k=>h) rfl ?_ ?_
  · rintro i x zs H2 ei s2 rfl K1 K2 q1 q2
    obtain ⟨p,r,rfl,er,hp⟩:=ht.at ei
    rw [List.getElem?_map] at er
    cases ep : (strOf ds)[i]? with
    | none=>rw [ep] at er; cases er
    | some pr=>
      rw [ep] at er
      cases er
      obtain ⟨ff,la⟩:=pr
      refine ⟨keep_set keep_refl rfl,_,rfl,_,rfl,_,rfl,_,rfl,b,p,tm,ff,la,os,rfl,O1.same s2,h2,on,s2 _ _ hp,fun H3 s3=>?_⟩
      refine q1 _ _ _ _ s3 ⟨stKey ff la,p,rfl,s3 _ _ (s2 _ _ hp),?_⟩
      have hni : (ff,la) ∉ (strOf ds).take i:=fun z=>by
        obtain ⟨hi,e'⟩:=List.getElem?_eq_some_iff.mp ep
        have:=List.nodup_append.mp (by rw [← List.take_append_drop i (strOf ds)] at nd; exact nd)
        exact this.2.2 _ z _ (by rw [List.drop_eq_getElem_cons hi,e']; exact .head _) rfl
      rw [getElem_next ep]
      exact put_slk hni
  · rintro zs H2 s2 rfl hz
    rw [lx,List.take_length] at hz
    refine ⟨D,_,rfl,hz,fun o=>?_⟩
    exact q D ds _ (s1.free hD) hds ((s1.trans s2).young (s1.free hD)) ⟨o,upd_same⟩
theorem ok_lessened (F : Fun K "lessened" "lessened" s_lessened f fd) : FnOk P w K mg base CX0 1 f fd p_lessened spLessened:=by
  refine F.ok sc_lessened (fun vs H Q E h=>?_) (fun cdv A outer s H vs Q E hr h=>?_)
  · obtain ⟨d,day,u,ks,v,rfl,_⟩:=h; rfl
  obtain ⟨d,day,u,ks,v,rfl,⟨o,ho⟩,nd,kn,q⟩:=h
  refine ⟨_,(pss_cons (ps_set (i:=3) sc_lessened.nd rfl (Or.inl rfl) pe_dnewT)
    (pss_cons (ps_for PassesOwn.never rfl (pi_items (pv 0)) (pg_tup rfl (pgs_cons (pg_tup rfl (pgs_cons (pg_name (i:=4) sc_lessened.nd rfl (Or.inl rfl)) (pgs_cons (pg_name (i:=5) sc_lessened.nd rfl (Or.inl rfl)) pgs_nil))) (pgs_cons (pg_name (i:=6) sc_lessened.nd rfl (Or.inl rfl)) pgs_nil))) (pss_one (ps_dput (hu_of hr) (pv 3) (pe_tup (pa_c (pv 4) (pa_c (pv 5) pa_nil))) (pe_ifExp (pt_chain op_le op_le (pv 4) (pv 1) (pv 5)) (pe_op op_sub (pv 6) (pv 2)) (pv 6)) rfl)))
    (pss_one (ps_ret (pe_frz (pv 3)))))),?_⟩
  refine fun t ht=>?_
  have s1:=same_new ht (.dT [])
  refine ⟨_,rfl,d,o,_,rfl,s1 _ _ ho,?_⟩
  refine for_items (fun i σ H3=>∃ o4 o5 o6,σ=[some (.ref d),some (.int day),some (.int u),some (.ref t),o4,o5,o6]∧Same H H3∧H3 t=some (.dT (slk (ks.take i) (lessF v day u)))) ⟨_,_,_,rfl,s1,upd_same⟩ ?_ ?_ ?_
  · rintro i σ H3 ⟨o4,o5,o6,rfl,s3,_⟩
    exact s3 _ _ ho
  · rintro i k x σ H3 p b ei ⟨o4,o5,o6,rfl,s3,e3⟩ hp hb
    unfold slk at ei
    rw [List.getElem?_map] at ei
    cases ep : ks[i]? with
    | none=>rw [ep] at ei; cases ei
    | some pr=>
      rw [ep] at ei
      cases ei
      obtain ⟨ff,la⟩:=pr
      have sN:=same_new hp (.tup [.ref b,.int (v ff la)])
      have hb':=sN _ _ hb
      refine ⟨p,_,rfl,SqT.of upd_same,rfl,_,_,rfl,b,_,rfl,SqT.of hb',rfl,_,_,rfl,_,_,rfl,rfl,_,_,rfl,rfl,?_⟩
      have s4:=s3.trans sN
      have e4:=sN _ _ e3
      generalize L2.upd H3 p (.tup [.ref b,.int (v ff la)])=H4 at *
      have hni : (ff,la) ∉ ks.take i:=fun z=>by
        obtain ⟨hi,e'⟩:=List.getElem?_eq_some_iff.mp ep
        have:=List.nodup_append.mp (by rw [← List.take_append_drop i ks] at nd; exact nd)
        exact this.2.2 _ z _ (by rw [List.drop_eq_getElem_cons hi,e']; exact .head _) rfl
      have put : ∀ z : Int,z=lessF v day u ff la→∃ x H5,V.ref t=V.ref x∧True∧H5=H5:=fun z _=>⟨t,H4,rfl,trivial,rfl⟩
      have fin : ∀ z : Int,z=lessF v day u ff la→∀ (tp : Addr) (htp : H4 tp=none),∃ a H5,V.ref t = .ref a∧DPut (L2.upd H4 tp (.tup [.int ff,.int la])) a (.ref tp) (.int z) H5∧(∃ o4 o5 o6,([some (.ref d),some (.int day),some (.int u),some (.ref t),some (.int ff),some (.int la),some (.int (v ff la))] : St)=[some (.ref d),some (.int day),some (.int u),some (.ref t),o4,o5,o6]∧Same H H5∧H5 t=some (.dT (slk (ks.take (i + 1)) (lessF v day u)))):=fun z ez tp htp=>by
        have sT:=same_new htp (.tup [.int ff,.int la])
        refine ⟨t,_,rfl,DPut.t (k:=stKey ff la) (sT _ _ e4) upd_same (small1000 (by unfold slk; rw [List.length_map,List.length_take]; omega)),_,_,_,rfl,(s4.trans sT).young ht,?_⟩
        rw [upd_same,getElem_next ep,ez,put_slk hni]
      refine ⟨_,rfl,_,rfl,_,_,rfl,rfl,_,rfl,?_⟩
      by_cases c1 : ff≤day
      · rw [decide_eq_true c1]
        refine iteT ⟨_,rfl,_,_,rfl,rfl,_,rfl,?_⟩
        by_cases c2 : day≤la
        · rw [decide_eq_true c2]
          refine iteT ⟨_,rfl,_,rfl,_,_,rfl,rfl,_,rfl,_,rfl,_,rfl,by show 2≤sizeLine; decide,fun tp htp=>?_⟩
          exact fin _ (by unfold lessF; rw [if_pos ⟨c1,c2⟩]) tp htp
        · rw [decide_eq_false c2]
          refine iteF ⟨_,rfl,_,rfl,_,rfl,_,rfl,by show 2≤sizeLine; decide,fun tp htp=>?_⟩
          exact fin _ (by unfold lessF; rw [if_neg fun z=>c2 z.2]) tp htp
      · rw [decide_eq_false c1]
        refine iteF ⟨_,rfl,iteF ⟨_,rfl,_,rfl,_,rfl,_,rfl,by show 2≤sizeLine; decide,fun tp htp=>?_⟩⟩
        exact fin _ (by unfold lessF; rw [if_neg fun z=>c1 z.1]) tp htp
  · rintro σ H3 ⟨o4,o5,o6,rfl,s3,e3⟩
    have lk : (slk ks v).length=ks.length:=by unfold slk; rw [List.length_map]
    rw [lk,List.take_length] at e3
    exact ⟨_,rfl,t,_,rfl,e3,fun o'=>q t _ ht (s3.young ht) ⟨o',upd_same⟩⟩
theorem ok_free_at (F : Fun K "free_at" "free_at" s_free_at f fd) : FnOk P w K mg base CX0 1 f fd p_free_at spFreeAt:=by
  refine F.ok sc_free_at (fun vs H Q E h=>?_) (fun cdv A outer s H vs Q E hr h=>?_)
  · obtain ⟨d,p,u,day,c,du,ks,v,rfl,_⟩:=h; rfl
  obtain ⟨d,p,u,day,c,du,ks,v,rfl,⟨o,ho⟩,kn,hp,q⟩:=h
  refine ⟨_,(pss_cons (ps_asg (pv 1) (pg_tup rfl (pgs_cons (pg_name (i:=3) sc_free_at.nd rfl (Or.inr rfl)) (pgs_cons (pg_name (i:=4) sc_free_at.nd rfl (Or.inl rfl)) (pgs_cons (pg_name (i:=5) sc_free_at.nd rfl (Or.inl rfl)) pgs_nil)))))
    (pss_cons (ps_setComp (i:=6) sc_free_at.nd rfl (Or.inl rfl) (N':=["first","last","slack","day"]) (ix:=[none,none,none,some 3]) (g:=(gTup K 2 (gCons (gTup K 2 (gCons (gName 0) (gCons (gName 1) gNil))) (gCons (gName 2) gNil)))) (ti:=(tTest (tChain (rI0 fun i j=>.bl (decide (i≤j))) (rI0 fun i j=>.bl (decide (i≤j))) (tVar 0) (tVar 3) (tVar 1)))) (te:=(tVar 2)) rfl (comp_scope (N:=n_free_at) (D:=defScope s_free_at) (by decide +kernel)) (pi_items (pv 0)) (fun C s H fp=>(pg_tup rfl (pgs_cons (pg_tup rfl (pgs_cons (pg_name (i:=0) (show (["first","last","slack","day"] : List Str).Nodup by decide +kernel) rfl (Or.inl rfl)) (pgs_cons (pg_name (i:=1) (show (["first","last","slack","day"] : List Str).Nodup by decide +kernel) rfl (Or.inl rfl)) pgs_nil))) (pgs_cons (pg_name (i:=2) (show (["first","last","slack","day"] : List Str).Nodup by decide +kernel) rfl (Or.inl rfl)) pgs_nil)))) (fun C s H fp=>(pifs_one (pt_chain op_le op_le (pv 0) (pv 3) (pv 1)))) (fun C s H fp=>(pv 2)))
    (pss_one (ps_ret (pe_callB (call_minI rfl) rfl B.min PyProof.Rows.boot_min (pa_c (pe_op op_cat (pe_lst (pa_c (pe_op op_sub (pv 4) (pv 2)) pa_nil)) (pv 6)) pa_nil)))))),?_⟩
  have lk : (slk ks v).length=ks.length:=by unfold slk; rw [List.length_map]
  refine ⟨_,rfl,p,_,rfl,SqT.of hp,rfl,_,_,rfl,_,_,rfl,_,_,rfl,rfl,?_⟩
  refine ⟨_,rfl,d,o,_,rfl,ho,fun D hD=>?_⟩
  have arB : ∀ q : Int×Int,(q.1≤day∧day≤q.2)↔(decide (q.1≤day∧day≤q.2))=true:=fun q=>by rw [decide_eq_true_iff]
  refine comp_items (fun i zs _=>zs=(((ks.take i).filter fun q=>decide (q.1≤day∧day≤q.2)).map fun q=>v q.1 q.2).map V.int) hD ho (by rw [lk]; omega) (fun i zs H1 H2 h k=>h) rfl ?_ ?_
  · rintro i k x zs H1 pp b ei s1 rfl hpp hb K1 K2 q1 q2
    unfold slk at ei
    rw [List.getElem?_map] at ei
    cases ep : ks[i]? with
    | none=>rw [ep] at ei; cases ei
    | some pr=>
      rw [ep] at ei
      cases ei
      obtain ⟨ff,la⟩:=pr
      have hb':=same_new hpp (.tup [.ref b,.int (v ff la)]) _ _ hb
      have ft:=filter_take (rs:=ks) (fun q=>decide (q.1≤day∧day≤q.2)) ep
      refine ⟨pp,_,rfl,SqT.of upd_same,rfl,_,_,rfl,b,_,rfl,SqT.of hb',rfl,_,_,rfl,_,_,rfl,rfl,_,_,rfl,rfl,keep_set (keep_set (keep_set keep_refl rfl) rfl) rfl,?_⟩
      generalize L2.upd H1 pp (.tup [.ref b,.int (v ff la)])=H2 at *
      have no : ¬ (ff≤day∧day≤la)→K2 H2:=fun z=>q2 _ (Same.refl _) (by rw [ft,if_neg (fun y=>z (of_decide_eq_true y)),List.append_nil])
      refine ⟨_,rfl,_,rfl,_,_,rfl,rfl,_,rfl,?_⟩
      by_cases c1 : ff≤day
      · rw [decide_eq_true c1]
        refine iteT ⟨_,rfl,_,_,rfl,rfl,_,rfl,?_⟩
        by_cases c2 : day≤la
        · rw [decide_eq_true c2]
          refine iteT ⟨_,rfl,q1 _ _ (Same.refl _) ?_⟩
          rw [ft,if_pos (decide_eq_true ⟨c1,c2⟩),List.map_append,List.map_append]; rfl
        · rw [decide_eq_false c2]
          exact iteF (no fun z=>c2 z.2)
      · rw [decide_eq_false c1]
        exact iteF ⟨_,rfl,iteF (no fun z=>c1 z.1)⟩
  · rintro zs H1 s1 rfl hl hz
    rw [lk,List.take_length] at hz
    refine ⟨_,rfl,_,rfl,_,_,rfl,rfl,by show 1≤sizeLine; decide,fun l1 hl1=>?_⟩
    have s2:=same_new (H:=H1) hl1 (.lst [.int (c - u)])
    refine ⟨_,rfl,l1,D,_,_,rfl,rfl,upd_same,s2 _ _ hz,Nat.le_of_lt (small1000 ?_),fun l2 hl2=>?_⟩
    · rw [List.length_map,List.length_map,List.length_singleton]
      have:=List.length_filter_le (fun q : Int×Int=>decide (q.1≤day∧day≤q.2)) ks
      omega
    · refine ⟨l2,(c - u) :: ((ks.filter fun q=>decide (q.1≤day∧day≤q.2)).map fun q=>v q.1 q.2),rfl,SqL.of upd_same,Nat.succ_pos _,fun M hM hle=>?_⟩
      refine q M _ ((s1.trans s2).trans (same_new hl2 _)) ⟨hle _ (.head _),fun pr hpr z1 z2=>?_,?_⟩
      · exact hle _ (.tail _ (List.mem_map.mpr ⟨pr,List.mem_filter.mpr ⟨hpr,decide_eq_true ⟨z1,z2⟩⟩,rfl⟩))
      · rcases List.mem_cons.mp hM with z | z
        · exact .inl z
        · obtain ⟨pr,hpr,e⟩:=List.mem_map.mp z
          obtain ⟨h1,h2⟩:=List.mem_filter.mp hpr
          have h2':=of_decide_eq_true h2
          exact .inr ⟨pr,h1,h2'.1,h2'.2,e.symm⟩
end
end K11
namespace L2
open PySem PySem.Spec PySem.W PyProof.Rows
def freeF (v : Int→Int→Int) (day left : Int) : List (Int×Int)→Int
  | []=>left
  | p :: ks=>if p.1≤day∧day≤p.2∧v p.1 p.2 < freeF v day left ks then v p.1 p.2 else freeF v day left ks
theorem freeF_is (v : Int→Int→Int) (day left : Int) : ∀ ks,FreeIs ks v day left (freeF v day left ks)
  | []=>⟨Int.le_refl _,fun p hp=>(by cases hp),.inl rfl⟩
  | p :: ks=>by
    obtain ⟨h1,h2,h3⟩:=freeF_is v day left ks
    unfold freeF
    split
    · rename_i c
      refine ⟨by omega,fun q hq a b=>?_,.inr ⟨p,.head _,c.1,c.2.1,rfl⟩⟩
      rcases List.mem_cons.mp hq with e | e
      · subst e; exact Int.le_refl _
      · have:=h2 q e a b; omega
    · rename_i c
      refine ⟨h1,fun q hq a b=>?_,?_⟩
      · rcases List.mem_cons.mp hq with e | e
        · subst e
          exact Int.not_lt.mp fun z=>c ⟨a,b,z⟩
        · exact h2 q e a b
      · rcases h3 with z | ⟨q,hq,a,b,e⟩
        · exact .inl z
        · exact .inr ⟨q,.tail _ hq,a,b,e⟩
theorem FreeIs.uniq {ks : List (Int×Int)} {v : Int→Int→Int} {day left M M' : Int} (h : FreeIs ks v day left M) (h' : FreeIs ks v day left M') : M=M':=by
  obtain ⟨a1,a2,a3⟩:=h
  obtain ⟨b1,b2,b3⟩:=h'
  refine Int.le_antisymm ?_ ?_
  · rcases b3 with z | ⟨p,hp,x,y,e⟩
    · rw [z]; exact a1
    · rw [e]; exact a2 p hp x y
  · rcases a3 with z | ⟨p,hp,x,y,e⟩
    · rw [z]; exact b1
    · rw [e]; exact b2 p hp x y
def stepN (ks : List (Int×Int)) (rs : List (List Int)) (v : Int→Int→Int) (i : Int) : Int:=freeF v (colAt rs 0 i) (colAt rs 1 i) ks
def bestGo (ks : List (Int×Int)) (rs : List (List Int)) : List Int→(Int→Int→Int)→List Int→(Int→Int→Int)×List Int
  | [],v,cs=>(v,cs)
  | i :: os,v,cs=>bestGo ks rs os (lessF v (colAt rs 0 i) (stepN ks rs v i)) (cs.set i.toNat (stepN ks rs v i))
theorem bestGo_append (ks : List (Int×Int)) (rs : List (List Int)) : ∀ (os ps : List Int) (v : Int→Int→Int) (cs : List Int),bestGo ks rs (os ++ ps) v cs=bestGo ks rs ps (bestGo ks rs os v cs).1 (bestGo ks rs os v cs).2
  | [],ps,v,cs=>rfl
  | i :: os,ps,v,cs=>bestGo_append ks rs os ps _ _
theorem bestGo_len (ks : List (Int×Int)) (rs : List (List Int)) : ∀ (os : List Int) (v : Int→Int→Int) (cs : List Int),(bestGo ks rs os v cs).2.length=cs.length
  | [],v,cs=>rfl
  | i :: os,v,cs=>by
    show (bestGo ks rs os _ _).2.length=_
    rw [bestGo_len,List.length_set]
def nN (ks : List (Int×Int)) (v : Int→Int→Int) : Prop:=∀ p∈ks,0≤v p.1 p.2
def Within (rs : List (List Int)) (cs : List Int) : Prop:=∀ (j : Nat) u,cs[j]? = some u→0≤u∧u≤colAt rs 1 (j : Int)
theorem step_in {ks : List (Int×Int)} {rs : List (List Int)} {v : Int→Int→Int} {i : Int} (hv : nN ks v) (hc : 0≤colAt rs 1 i) : 0≤stepN ks rs v i∧stepN ks rs v i≤colAt rs 1 i∧nN ks (lessF v (colAt rs 0 i) (stepN ks rs v i)):=by
  obtain ⟨h1,h2,h3⟩:=freeF_is v (colAt rs 0 i) (colAt rs 1 i) ks
  refine ⟨?_,h1,fun p hp=>?_⟩
  · rcases h3 with z | ⟨p,hp,_,_,e⟩
    · unfold stepN; rw [z]; exact hc
    · unfold stepN; rw [e]; exact hv p hp
  · unfold lessF
    split
    · rename_i c
      have:=h2 p hp c.1 c.2
      unfold stepN
      omega
    · exact hv p hp
theorem bestGo_in {ks : List (Int×Int)} {rs : List (List Int)} : ∀ (os : List Int) (v : Int→Int→Int) (cs : List Int),(∀ i∈os,0≤i∧0≤colAt rs 1 i)→nN ks v→Within rs cs→nN ks (bestGo ks rs os v cs).1∧Within rs (bestGo ks rs os v cs).2
  | [],v,cs,_,hv,hc=>⟨hv,hc⟩
  | i :: os,v,cs,ho,hv,hc=>by
    obtain ⟨i0,i1⟩:=ho i (.head _)
    obtain ⟨a1,a2,a3⟩:=step_in hv i1
    refine bestGo_in os _ _ (fun j hj=>ho j (.tail _ hj)) a3 fun j u e=>?_
    rw [List.getElem?_set] at e
    split at e
    · rename_i z
      split at e
      · cases e
        have : ((j : Nat) : Int)=i:=by omega
        rw [this]
        exact ⟨a1,a2⟩
      · cases e
    · exact hc j u e
def BestIs (rs os : List (List Int)) (tm : Int) (cs : List Int) : Prop:=∃ ds ord,DaysOf rs ds∧Ordered (keyD rs) rs.length ord∧cs=(bestGo (strOf ds) rs ord (goingOf os tm) (List.replicate rs.length 0)).2
theorem BestIs.len {rs os : List (List Int)} {tm : Int} {cs : List Int} (h : BestIs rs os tm cs) : cs.length=rs.length:=by
  obtain ⟨ds,ord,_,_,rfl⟩:=h
  rw [bestGo_len,List.length_replicate]
theorem days_uniq {rs rs' : List (List Int)} {ds ds' : List Int} (h : DaysOf rs ds) (h' : DaysOf rs' ds') (e : ∀ d,(∃ r∈rs,r.getD 0 0=d)↔∃ r∈rs',r.getD 0 0=d) : ds=ds':=by
  refine List.Perm.eq_of_pairwise (le:=(· < ·)) (fun a b _ _ x y=>by omega) h.1 h'.1 ?_
  refine (List.perm_ext_iff_of_nodup (nodup_of_lt h.1) (nodup_of_lt h'.1)).mpr fun d=>?_
  rw [h.2.1 d,h'.2.1 d]
  exact e d
theorem lex_keyD {rs : List (List Int)} {i j : Int} : lexB (keyD rs i) (keyD rs j)=true↔(colAt rs 2 j < colAt rs 2 i∨(colAt rs 2 j=colAt rs 2 i∧(colAt rs 0 i < colAt rs 0 j∨(colAt rs 0 i=colAt rs 0 j∧i < j)))):=by
  show (if -(colAt rs 2 i) = -(colAt rs 2 j) then (if colAt rs 0 i=colAt rs 0 j then (if i=j then false else decide (i < j)) else decide (colAt rs 0 i < colAt rs 0 j)) else decide (-(colAt rs 2 i) < -(colAt rs 2 j)))=true↔_
  generalize colAt rs 2 i=a
  generalize colAt rs 2 j=b
  generalize colAt rs 0 i=c
  generalize colAt rs 0 j=d
  by_cases h1 : -a = -b
  · rw [if_pos h1]
    by_cases h2 : c=d
    · rw [if_pos h2]
      by_cases h3 : i=j
      · rw [if_pos h3]; simp; omega
      · rw [if_neg h3,decide_eq_true_iff]; omega
    · rw [if_neg h2,decide_eq_true_iff]; omega
  · rw [if_neg h1,decide_eq_true_iff]; omega
theorem going_nn {os : List (List Int)} (h : ∀ r∈os,0≤r.getD 1 0) (tm f l : Int) : 0≤goingOf os tm f l:=by
  unfold goingOf
  have : ∀ qs : List (List Int),(∀ r∈qs,0≤r.getD 1 0)→0≤(qs.map fun r=>r.getD 1 0).sum:=by
    intro qs
    induction qs with
    | nil=>intro _; exact Int.le_refl _
    | cons r qs ih=>
      intro hh
      rw [List.map_cons,List.sum_cons]
      have:=hh r (.head _)
      have:=ih fun r hr=>hh r (.tail _ hr)
      omega
  exact this _ fun r hr=>h r (List.mem_filter.mp hr).1
theorem col_nn {rs : List (List Int)} (h : ∀ r∈rs,0≤r.getD 1 0) (i : Int) : 0≤colAt rs 1 i:=by
  unfold colAt
  rw [List.getD_eq_getElem?_getD (l:=rs)]
  cases e : rs[i.toNat]? with
  | none=>exact Int.le_refl _
  | some r=>exact h r (List.mem_of_getElem? e)
theorem BestIs.taken {rs os : List (List Int)} {tm : Int} {cs : List Int} (h : BestIs rs os tm cs) (hr : ∀ r∈rs,0≤r.getD 1 0) (ho : ∀ r∈os,0≤r.getD 1 0) : TakenOk rs cs:=by
  refine ⟨h.len,fun j r u hj er eu=>?_⟩
  obtain ⟨ds,ord,_,hord,rfl⟩:=h
  have w:=(bestGo_in (rs:=rs) (ks:=strOf ds) ord (goingOf os tm) (List.replicate rs.length 0) (fun i hi=>⟨(uptoN_mem.mp (hord.1.mem_iff.mp hi)).1,col_nn hr i⟩) (fun p _=>going_nn ho _ _ _) (fun j u e=>by
    have:=List.mem_of_getElem? e
    rw [(List.mem_replicate.mp this).2]
    exact ⟨Int.le_refl _,col_nn hr _⟩)).2 j u eu
  rw [show colAt rs 1 (j : Int)=r.getD 1 0 by unfold colAt; rw [row_at er]] at w
  exact w
def spBestOf : Sp:=fun vs H Q _=>∃ (a b : Addr) (tm : Int) (rs os : List (List Int)),vs=[.ref a,.ref b,.int tm]∧Rows H a rs∧(∀ r∈rs,r.length=3)∧rs.length≤31∧Rows H b os∧(∀ r∈os,r.length=2)∧os.length≤100∧∀ l cs H',H l=none→BestIs rs os tm cs→Same H H'→IntsAt H' l cs→Q (.ref l) H'
def spBest (cl : Nat→Addr) : Sp:=fun vs H Q E=>∃ (a b : Addr) (tm : Int) (rs os : List (List Int)),vs=[.ref a,.ref b,.int tm]∧Rows H a rs∧(∀ r∈rs,r.length=3)∧Rows H b os∧(∀ r∈os,r.length=2)∧
  (∀ n,bothNo rs os tm=some n→∀ H',Same H H'→E (.ref (cl n)) none H')∧(bothNo rs os tm=none→∀ l cs H',H l=none→BestIs rs os tm cs→Same H H'→IntsAt H' l cs→Q (.ref l) H')
theorem both_ok {rs os : List (List Int)} {tm : Int} (h : bothNo rs os tm=none) : rs.length≤30∧os.length≤30∧rowsBad rs=none∧rowsBad os=none:=by
  have one : ∀ {qs : List (List Int)},rowsNo qs=none→qs.length≤30∧rowsBad qs=none:=by
    intro qs e
    unfold rowsNo at e
    split at e
    · cases e
    · rename_i z
      exact ⟨by omega,Option.map_eq_none_iff.mp e⟩
  unfold bothNo at h
  cases e1 : rowsNo rs with
  | some n=>rw [e1] at h; cases h
  | none=>
    rw [e1] at h
    cases e2 : rowsNo os with
    | some n=>rw [e2] at h; cases h
    | none=>exact ⟨(one e1).1,(one e2).1,(one e1).2,(one e2).2⟩
end L2
namespace K11
open PySem L2
abbrev s_dearest : Stmt:=top 24
abbrev n_dearest : List Str:=["lots","ranks"]
abbrev p_dearest : List Str:=["lots"]
theorem sc_dearest : FnScope n_dearest p_dearest (defScope s_dearest):=⟨rfl,rfl,rfl,by decide +kernel,rfl,by decide +kernel,by decide +kernel⟩
abbrev s_best_of : Stmt:=top 33
abbrev n_best_of : List Str:=["lots","outs","term","counts","slacks","at"]
abbrev p_best_of : List Str:=["lots","outs","term"]
theorem sc_best_of : FnScope n_best_of p_best_of (defScope s_best_of):=⟨rfl,rfl,rfl,by decide +kernel,rfl,by decide +kernel,by decide +kernel⟩
abbrev s_best : Stmt:=top 34
abbrev n_best : List Str:=["lots","outs","term","goods","gone"]
abbrev p_best : List Str:=["lots","outs","term"]
theorem sc_best : FnScope n_best p_best (defScope s_best):=⟨rfl,rfl,rfl,by decide +kernel,rfl,by decide +kernel,by decide +kernel⟩
section
variable {P : Program} {w : World} {K : PySem.W.Frag} {mg : Str→Option Value} {base : Heap} {f : Addr} {fd : FuncData} {cl : Nat→Addr} (T : Txt K mg cl) (B : Bn mg)
include T B
theorem ok_dearest (F : Fun K "dearest" "dearest" s_dearest f fd) : FnOk P w K mg base CX0 1 f fd p_dearest (spOrd keyD okD):=by
  refine F.ok sc_dearest (fun vs H Q E h=>?_) (fun cdv A outer s H vs Q E hr h=>?_)
  · obtain ⟨a,rs,rfl,_⟩:=h; rfl
  obtain ⟨a,rs,rfl,hR,h60,hok,q⟩:=h
  refine ⟨_,(pss_cons (ps_setComp (i:=1) sc_dearest.nd rfl (Or.inl rfl) (N':=["at","day","count","duty"]) (ix:=[none,none,none,none]) (g:=(gTup K 2 (gCons (gName 0) (gCons (gTup K 3 (gCons (gName 1) (gCons (gName 2) (gCons (gName 3) gNil)))) gNil)))) (ti:=tIf0) (te:=(tTup (tCons (tUn (rU fun i=>.int (-i)) (tVar 3)) (tCons (tVar 1) (tCons (tVar 0) tNil))))) rfl (comp_scope (N:=n_dearest) (D:=defScope s_dearest) (by decide +kernel)) (pi_enum rfl B.enumerate (pa_c (pv 0) pa_nil)) (fun C s H fp=>(pg_tup rfl (pgs_cons (pg_name (i:=0) (show (["at","day","count","duty"] : List Str).Nodup by decide +kernel) rfl (Or.inl rfl)) (pgs_cons (pg_tup rfl (pgs_cons (pg_name (i:=1) (show (["at","day","count","duty"] : List Str).Nodup by decide +kernel) rfl (Or.inl rfl)) (pgs_cons (pg_name (i:=2) (show (["at","day","count","duty"] : List Str).Nodup by decide +kernel) rfl (Or.inl rfl)) (pgs_cons (pg_name (i:=3) (show (["at","day","count","duty"] : List Str).Nodup by decide +kernel) rfl (Or.inl rfl)) pgs_nil)))) pgs_nil)))) (fun C s H fp=>pifs_nil) (fun C s H fp=>(pe_tup (pa_c (pe_un un_neg (pv 3)) (pa_c (pv 1) (pa_c (pv 0) pa_nil))))))
    (pss_one (ps_ret (pe_comp (N':=["duty","day","at"]) (ix:=[none,none,none]) (g:=(gTup K 3 (gCons (gName 0) (gCons (gName 1) (gCons (gName 2) gNil))))) (ti:=tIf0) (te:=(tVar 2)) rfl (comp_scope (N:=n_dearest) (D:=defScope s_dearest) (by decide +kernel)) (pi_list (pe_callB call_sortT rfl B.sorted PyProof.Rows.boot_sorted (pa_c (pv 1) pa_nil))) (fun C s H fp=>(pg_tup rfl (pgs_cons (pg_name (i:=0) (show (["duty","day","at"] : List Str).Nodup by decide +kernel) rfl (Or.inl rfl)) (pgs_cons (pg_name (i:=1) (show (["duty","day","at"] : List Str).Nodup by decide +kernel) rfl (Or.inl rfl)) (pgs_cons (pg_name (i:=2) (show (["duty","day","at"] : List Str).Nodup by decide +kernel) rfl (Or.inl rfl)) pgs_nil))))) (fun C s H fp=>pifs_nil) (fun C s H fp=>(pv 2)))))),?_⟩
  obtain ⟨xs,ex,exl,exi⟩:=hR.get
  refine ⟨_,rfl,a,xs,rfl,SqL.of ex,fun D1 hD1=>⟨fun i m H3=>i + m=xs.length∧Same H H3∧Rows H3 D1 ((uptoN i).map (keyD rs)),⟨xs.length,by omega,same_new hD1 _,Rows.nil upd_same⟩,?_⟩⟩
  rintro i m H3 ⟨him,sm,R3⟩
  by_cases hi : i < xs.length
  · refine .inr ⟨⟨xs,xs[i],SqL.of (sm _ _ ex),List.getElem?_eq_getElem hi⟩,?_⟩
    rintro x H' ⟨p,x',rfl,hp,rfl,hx⟩
    have e1:=hx xs (SqL.of (sm _ _ ex))
    obtain ⟨pr,r,rfl,er,hpr⟩:=exi i x' e1
    obtain ⟨d,c,u,rfl⟩:=len3 (hok r (List.mem_of_getElem? er))
    have hpr' : L2.upd H3 p (.tup [.int (i : Int),.ref pr]) pr=some (.tup ([d,c,u].map V.int)):=same_new hp _ _ _ (sm _ _ hpr)
    refine ⟨p,_,rfl,SqT.of upd_same,rfl,_,_,rfl,_,_,rfl,⟨pr,_,rfl,SqT.of hpr',rfl,_,_,rfl,_,_,rfl,_,_,rfl,rfl,rfl,?_,?_⟩⟩
    · intro k v e
      match k,e with
      | 0,e=>cases e
      | 1,e=>cases e
      | 2,e=>cases e
      | 3,e=>cases e
      | k + 4,e=>cases e
    · refine ⟨_,rfl,_,rfl,_,rfl,_,rfl,by show 3≤sizeLine; decide,fun t ht=>?_⟩
      obtain ⟨ys,ey,eyl,_⟩:=(R3.same (same_new hp (.tup [.int (i : Int),.ref pr]))).get
      refine ⟨ys,same_new ht _ _ _ ey,small1000 (by rw [eyl,List.length_map,uptoN_length]; omega),m - 1,by omega,by omega,((sm.trans (same_new hp _)).trans (same_new ht _)).young hD1,?_⟩
      have e2 : keyD rs ((i : Nat) : Int)=[-u,d,(i : Int)]:=by
        unfold keyD colAt
        rw [row_at er]; rfl
      rw [uptoN_succ,List.map_append,List.map_singleton,e2]
      exact (R3.same (same_new hp _)).push (r:=[-u,d,(i : Int)]) ey ht
  · refine .inl ⟨⟨xs,SqL.of (sm _ _ ex),by omega⟩,?_⟩
    have ei : i=rs.length:=by omega
    subst ei
    refine ⟨_,rfl,D1,_,3,rfl,R3,by rw [List.length_map,uptoN_length]; omega,fun r hr=>?_,by decide,fun l ss H4 hl4 hp4 ho4 s4 R4=>?_⟩
    · obtain ⟨j,_,rfl⟩:=List.mem_map.mp hr
      rfl
    have lss : ss.length=rs.length:=by rw [hp4.length_eq,List.length_map,uptoN_length]
    have wss : ∀ r∈ss,∃ x y z : Int,r=[x,y,z]:=fun r hr=>by
      obtain ⟨j,_,rfl⟩:=List.mem_map.mp (hp4.mem_iff.mp hr)
      exact ⟨_,_,_,rfl⟩
    obtain ⟨zs,ez,ezl,ezi⟩:=R4.get
    refine ⟨l,rfl,⟨zs,SqL.of ez⟩,fun D2 hD2=>⟨fun i m H5=>i + m=zs.length∧Same H4 H5∧H5 D2=some (.lst ((ss.take i).map fun r=>V.int (r.getD 2 0))),⟨zs.length,by omega,same_new hD2 _,upd_same⟩,?_⟩⟩
    rintro i m H5 ⟨him5,s5,h5⟩
    by_cases hi5 : i < zs.length
    · refine .inr ⟨⟨zs,zs[i],SqL.of (s5 _ _ ez),List.getElem?_eq_getElem hi5⟩,?_⟩
      rintro x H' ⟨rfl,hx⟩
      have e1:=hx zs (SqL.of (s5 _ _ ez))
      obtain ⟨pr,r,rfl,er,hpr⟩:=ezi i x e1
      obtain ⟨x1,x2,x3,rfl⟩:=wss r (List.mem_of_getElem? er)
      refine ⟨pr,_,rfl,SqT.of (s5 _ _ hpr),rfl,_,_,rfl,_,_,rfl,_,_,rfl,rfl,?_,?_⟩
      · intro k v e
        match k,e with
        | 0,e=>cases e
        | 1,e=>cases e
        | 2,e=>cases e
        | k + 3,e=>cases e
      · refine ⟨_,rfl,_,h5,small1000 (by rw [List.length_map,List.length_take]; omega),m - 1,by omega,by omega,s5.young hD2,?_⟩
        rw [upd_same,← take_next er,List.map_append]
        rfl
    · refine .inl ⟨⟨zs,SqL.of (s5 _ _ ez),by omega⟩,?_⟩
      have ei5 : ss.take i=ss:=List.take_of_length_le (by omega)
      rw [ei5] at h5
      refine q D2 (ss.map fun r=>r.getD 2 0) H5 ?_ ((sm.trans s4).trans s5) (ordered_of (lst:=fun r=>r.getD 2 0) (fun _=>rfl) hp4 ho4) (by rw [List.map_map]; exact h5)
      exact (sm.trans s4).free hD2
theorem ok_best_of (G_against_each : Cal P w K mg base CX0 3 "against_each" p_against_each spAgainstEach) (G_dearest : Cal P w K mg base CX0 1 "dearest" p_dearest (spOrd keyD okD)) (G_free_at : Cal P w K mg base CX0 1 "free_at" p_free_at spFreeAt) (G_lessened : Cal P w K mg base CX0 1 "lessened" p_lessened spLessened) (F : Fun K "best_of" "best_of" s_best_of f fd) : FnOk P w K mg base CX0 4 f fd p_best_of spBestOf:=by
  refine F.ok sc_best_of (fun vs H Q E h=>?_) (fun cdv A outer s H vs Q E hr h=>?_)
  · obtain ⟨a,b,tm,rs,os,rfl,_⟩:=h; rfl
  obtain ⟨a,b,tm,rs,os,rfl,hR,h3,rn,hO,h2,on,q⟩:=h
  refine ⟨_,(pss_cons (ps_set (i:=3) sc_best_of.nd rfl (Or.inl rfl) (pe_op op_rep (pe_lst (pa_c pe_int pa_nil)) (pe_callB call_len_seq rfl B.len PySem.boot_len (pa_c (pv 0) pa_nil))))
    (pss_cons (ps_set (i:=4) sc_best_of.nd rfl (Or.inl rfl) (pe_cal G_against_each hr rfl pass0 (pa_c (pv 0) (pa_c (pv 1) (pa_c (pv 2) pa_nil)))))
    (pss_cons (ps_for PassesOwn.never rfl (pi_list (pe_cal G_dearest hr rfl pass0 (pa_c (pv 0) pa_nil))) (pg_name (i:=5) sc_best_of.nd rfl (Or.inl rfl)) (pss_cons (ps_asg (pe_cal G_free_at hr rfl pass0 (pa_c (pv 4) (pa_c (pe_ix ix_list (pv 0) (pv 5) (fun _ _=>rfl)) (pa_c pe_int pa_nil)))) (pg_sub (pv 3) (pv 5) set_list))
      (pss_one (ps_set (i:=4) sc_best_of.nd rfl (Or.inl rfl) (pe_cal G_lessened hr rfl pass0 (pa_c (pv 4) (pa_c (pe_ix ix_tup (pe_ix ix_list (pv 0) (pv 5) (fun _ _=>rfl)) pe_int (fun _ _=>rfl)) (pa_c (pe_ix ix_list (pv 3) (pv 5) (fun _ _=>rfl)) pa_nil))))))))
    (pss_one (ps_ret (pv 3)))))),?_⟩
  obtain ⟨xs,ex,ht⟩:=hR.tups
  have lx:=ht.1
  refine ⟨by show 1≤sizeLine; decide,fun z hz=>?_⟩
  have sz:=same_new (H:=H) hz (.lst [.int 0])
  refine ⟨_,rfl,a,xs,rfl,.inl (SqL.of (sz _ _ ex)),z,(xs.length : Int),_,rfl,rfl,upd_same,by omega,by omega,?_,fun l hl=>?_⟩
  · show 1 * (xs.length : Int).toNat≤sizeLine
    exact Nat.le_of_lt (small1000 (by omega))
  have s1:=sz.trans (same_new hl (.lst (List.replicate (xs.length : Int).toNat [V.int 0]).flatten))
  have hl0 : H l=none:=sz.free hl
  have e1 : IntsAt (L2.upd (L2.upd H z (.lst [.int 0])) l (.lst (List.replicate (xs.length : Int).toNat [V.int 0]).flatten)) l (List.replicate rs.length 0):=by
    unfold IntsAt
    rw [upd_same,List.map_replicate,Int.toNat_natCast,lx]
    congr 2
    induction rs.length with
    | zero=>rfl
    | succ k ih=>rw [List.replicate_succ,List.flatten_cons,ih]; rfl
  generalize L2.upd (L2.upd H z (.lst [.int 0])) l (.lst (List.replicate (xs.length : Int).toNat [V.int 0]).flatten)=H1 at s1 e1 ⊢
  refine ⟨_,rfl,_,rfl,_,rfl,a,b,tm,rs,os,rfl,hR.same s1,h3,rn,hO.same s1,h2,on,fun d ds H2 hd hds s2 S2=>?_⟩
  have ld : ds.length≤31:=Nat.le_trans hds.2.2 rn
  have sn:=str_len ld
  have nd:=str_nodup hds.1
  refine ⟨_,rfl,a,rs,rfl,hR.same (s1.trans s2),by omega,h3,fun dl ord H3 hdl s3 hord e3=>?_⟩
  refine ⟨dl,rfl,⟨_,SqL.of e3⟩,?_⟩
  have s13:=s2.trans s3
  have hdl1 : H1 dl=none:=s2.free hdl
  have nl : l≠dl:=ne_of_none e1 hdl1
  refine for_list (xs:=ord.map V.int) (fun i σ H4=>∃ d4 o5,σ=[some (.ref a),some (.ref b),some (.int tm),some (.ref l),some (.ref d4),o5]∧Same H H4∧H4 dl=some (.lst (ord.map V.int))∧SlAt H4 d4 (strOf ds) (bestGo (strOf ds) rs (ord.take i) (goingOf os tm) (List.replicate rs.length 0)).1∧IntsAt H4 l (bestGo (strOf ds) rs (ord.take i) (goingOf os tm) (List.replicate rs.length 0)).2) ⟨_,_,rfl,s1.trans s13,e3,S2.same s3,s13 _ _ e1⟩ ?_ ?_ ?_
  · rintro i σ H4 hi ⟨d4,o5,rfl,sm,e4,_⟩
    exact SqL.of e4
  · rintro i x σ H4 exi ⟨d4,o5,rfl,sm,e4,S4,I4⟩
    obtain ⟨at',rfl,eat⟩:=ints_at exi
    have hat:=uptoN_mem.mp (hord.1.mem_iff.mp (List.mem_of_getElem? eat))
    obtain ⟨k,rfl⟩ : ∃ k : Nat,at' = (k : Int):=⟨at'.toNat,by omega⟩
    have hk : k < xs.length:=by omega
    obtain ⟨p,r,ep,er,hp⟩:=ht.at (List.getElem?_eq_getElem hk)
    obtain ⟨dd,cc,uu,rfl⟩:=len3 (h3 r (List.mem_of_getElem? er))
    have c0 : colAt rs 0 (k : Int)=dd:=by unfold colAt; rw [row_at er]; rfl
    have c1 : colAt rs 1 (k : Int)=cc:=by unfold colAt; rw [row_at er]; rfl
    have eix : atI xs (k : Int)=some (.ref p):=atI_nat (by rw [List.getElem?_eq_getElem hk,ep])
    have next : bestGo (strOf ds) rs (ord.take (i + 1)) (goingOf os tm) (List.replicate rs.length 0)=(lessF (bestGo (strOf ds) rs (ord.take i) (goingOf os tm) (List.replicate rs.length 0)).1 dd (stepN (strOf ds) rs (bestGo (strOf ds) rs (ord.take i) (goingOf os tm) (List.replicate rs.length 0)).1 (k : Int)),(bestGo (strOf ds) rs (ord.take i) (goingOf os tm) (List.replicate rs.length 0)).2.set k (stepN (strOf ds) rs (bestGo (strOf ds) rs (ord.take i) (goingOf os tm) (List.replicate rs.length 0)).1 (k : Int))):=by
      rw [getElem_next eat,bestGo_append]
      show (lessF _ (colAt rs 0 (k : Int)) _,_)=_
      rw [c0]
      rfl
    rw [next]
    have lc : (bestGo (strOf ds) rs (ord.take i) (goingOf os tm) (List.replicate rs.length 0)).2.length=rs.length:=by rw [bestGo_len,List.length_replicate]
    generalize (bestGo (strOf ds) rs (ord.take i) (goingOf os tm) (List.replicate rs.length 0)).1=v at *
    generalize (bestGo (strOf ds) rs (ord.take i) (goingOf os tm) (List.replicate rs.length 0)).2=cs at *
    clear next
    refine ⟨_,rfl,_,rfl,_,rfl,a,xs,_,.ref p,rfl,rfl,SqL.of (sm _ _ ex),eix,d4,p,0,dd,cc,uu,strOf ds,v,rfl,S4,sn,sm _ _ hp,fun M H5 s5 hM=>?_⟩
    have eM : M=stepN (strOf ds) rs v (k : Int):=by
      rw [Int.sub_zero] at hM
      refine hM.uniq ?_
      unfold stepN
      rw [c0,c1]
      exact freeF_is _ _ _ _
    rw [← eM]
    have I5 : IntsAt H5 l cs:=s5 _ _ I4
    have S5:=S4.same s5
    have ndl : d4≠l:=by
      obtain ⟨o,ho⟩:=S5
      exact ne_of ho I5 (by intro z; cases z)
    refine ⟨_,rfl,_,rfl,l,_,(k : Int),k,rfl,rfl,I5,by unfold ixN; rw [List.length_map,if_pos (by omega),Int.toNat_natCast,if_pos (by omega)],?_⟩
    have s6 : Same H (L2.upd H5 l (.lst ((cs.map V.int).set k (.int M)))):=(sm.trans s5).young hl0
    have S6 : SlAt (L2.upd H5 l (.lst ((cs.map V.int).set k (.int M)))) d4 (strOf ds) v:=by
      obtain ⟨o,ho⟩:=S5
      exact ⟨o,by rw [upd_ne ndl]; exact ho⟩
    have I6 : IntsAt (L2.upd H5 l (.lst ((cs.map V.int).set k (.int M)))) l (cs.set k M):=by
      unfold IntsAt
      rw [upd_same,List.map_set]
    have e6 : L2.upd H5 l (.lst ((cs.map V.int).set k (.int M))) dl=some (.lst (ord.map V.int)):=by
      rw [upd_ne nl.symm]
      exact s5 _ _ e4
    generalize L2.upd H5 l (.lst ((cs.map V.int).set k (.int M)))=H6 at *
    have eiM : atI ((cs.set k M).map V.int) (k : Int)=some (.int M):=atI_nat (by rw [List.getElem?_map,List.getElem?_set_self (by omega)]; rfl)
    refine ⟨_,rfl,_,rfl,_,rfl,a,xs,_,.ref p,rfl,rfl,SqL.of (s6 _ _ ex),eix,p,_,_,.int dd,rfl,rfl,SqT.of (s6 _ _ hp),rfl,_,rfl,_,rfl,l,_,_,.int M,rfl,rfl,SqL.of I6,eiM,d4,dd,M,strOf ds,v,rfl,S6,nd,by omega,fun d5 H7 hd5 s7 S7=>?_⟩
    exact ⟨d5,_,rfl,s6.trans s7,s7 _ _ e6,S7,s7 _ _ I6⟩
  · rintro σ H4 ⟨d4,o5,rfl,sm,e4,S4,I4⟩
    rw [List.length_map,List.take_length] at I4
    exact ⟨_,rfl,q l _ H4 hl0 ⟨ds,ord,hds,hord,rfl⟩ sm I4⟩
theorem ok_best (G_checked_both : Cal P w K mg base (CXE P w) 4 "checked_both" p_checked_both (spBoth cl)) (G_best_of : Cal P w K mg base CX0 4 "best_of" p_best_of spBestOf) (F : Fun K "best" "best" s_best f fd) : FnOk P w K mg base (CXE P w) 5 f fd p_best (spBest cl):=by
  refine F.okE sc_best (fun vs H Q E h=>?_) (fun cdv A outer s H vs Q E hr h=>?_)
  · obtain ⟨a,b,tm,rs,os,rfl,_⟩:=h; rfl
  obtain ⟨a,b,tm,rs,os,rfl,hR,h3,hO,h2,q1,q2⟩:=h
  refine ⟨_,(pss_cons (ps_asg (pe_cal (E:=E) G_checked_both hr rfl (passE fun _ _ z=>z) (pa_c (pv 0) (pa_c (pv 1) (pa_c (pv 2) pa_nil)))) (pg_tup rfl (pgs_cons (pg_name (i:=3) sc_best.nd rfl (Or.inl rfl)) (pgs_cons (pg_name (i:=4) sc_best.nd rfl (Or.inl rfl)) pgs_nil))))
    (pss_one (ps_ret (pe_cal G_best_of hr rfl pass0 (pa_c (pv 3) (pa_c (pv 4) (pa_c (pv 2) pa_nil))))))),?_⟩
  refine ⟨_,rfl,_,rfl,_,rfl,a,b,tm,rs,os,rfl,hR,h3,hO,h2,q1,fun bn t g o H1 ht hg ho s1 R1 O1 e1=>?_⟩
  obtain ⟨rn,on,_,_⟩:=both_ok bn
  refine ⟨t,_,rfl,SqT.of e1,rfl,_,_,rfl,_,_,rfl,rfl,?_⟩
  refine ⟨_,rfl,_,rfl,_,rfl,g,o,tm,rs,os,rfl,R1,h3,by omega,O1,h2,by omega,fun l cs H2 hl hb s2 e2=>?_⟩
  exact q2 bn l cs H2 (s1.free hl) hb (s1.trans s2) e2
end
end K11
namespace L2
open PySem PySem.Spec PySem.W PyProof.Rows
section
variable {X : Cx} {pins : List (Addr×Obj)} {σ : St} {H : Hp} {s : Shared}
end
end L2
namespace L2
open PySem PySem.Spec PySem.W PyProof.Rows
section
variable {X : Cx} {pins : List (Addr×Obj)} {σ : St} {H : Hp} {s : Shared} {N' : List Str} {ix : List (Option Nat)} {p q : Str} {scope : Scope}
end
end L2
namespace L2
open PySem PySem.Spec PySem.W PyProof.Rows
section
variable {X : Cx} {pins : List (Addr×Obj)} {σ : St} {H : Hp} {s : Shared}
end
end L2
namespace L2
open PySem PySem.Spec PySem.W PyProof.Rows
end L2
namespace L2
def S : List (Int×Int)→Int→Int→Int
  | [],_,_=>0
  | p :: r,f,l=>(if f≤p.1∧p.1≤l then p.2 else 0) + S r f l
def give (tm e : Int) : Int→List (Int×Int)→List (Int×Int)
  | _,[]=>[]
  | c,p :: r=>(p.1,p.2 - (if 0 < min c p.2∧e - tm≤p.1∧p.1≤e then min c p.2 else 0)) :: give tm e (c - (if 0 < min c p.2∧e - tm≤p.1∧p.1≤e then min c p.2 else 0)) r
def deal (tm : Int) : List (Int×Int)→List (Int×Int)→List (Int×Int)
  | [],L=>L
  | o :: O,L=>deal tm O (give tm o.1 o.2 L)
def Pos (L : List (Int×Int)) : Prop:=∀ p∈L,0≤p.2
def Up1 (L : List (Int×Int)) : Prop:=L.Pairwise fun p q=>p.1≤q.1
def Hall (L O : List (Int×Int)) (tm : Int) : Prop:=∀ f l,f≤l→S L f l≤S O f (l + tm)
theorem S_nonneg : ∀ {L : List (Int×Int)},Pos L→∀ f l,0≤S L f l
  | [],_,f,l=>Int.le_refl _
  | p :: r,h,f,l=>by
    have h1:=h p (.head _)
    have h2:=S_nonneg (L:=r) (fun q hq=>h q (.tail _ hq)) f l
    show 0≤(if f≤p.1∧p.1≤l then p.2 else 0) + S r f l
    split <;> omega
theorem S_mono : ∀ {L : List (Int×Int)},Pos L→∀ {f l f' l' : Int},f'≤f→l≤l'→S L f l≤S L f' l'
  | [],_,f,l,f',l',_,_=>Int.le_refl _
  | p :: r,h,f,l,f',l',h1,h2=>by
    have h0:=h p (.head _)
    have h3:=S_mono (L:=r) (fun q hq=>h q (.tail _ hq)) h1 h2
    show (if f≤p.1∧p.1≤l then p.2 else 0) + S r f l≤(if f'≤p.1∧p.1≤l' then p.2 else 0) + S r f' l'
    split <;> split <;> omega
theorem S_none : ∀ {L : List (Int×Int)} {f l : Int},(∀ p∈L,¬ (f≤p.1∧p.1≤l))→S L f l=0
  | [],_,_,_=>rfl
  | p :: r,f,l,h=>by
    show (if f≤p.1∧p.1≤l then p.2 else 0) + S r f l=0
    rw [if_neg (h p (.head _)),S_none fun q hq=>h q (.tail _ hq)]
    rfl
theorem give_days {tm e : Int} : ∀ {c : Int} {L : List (Int×Int)},(give tm e c L).map (·.1)=L.map (·.1)
  | _,[]=>rfl
  | c,p :: r=>by show p.1 :: (give tm e _ r).map (·.1)=p.1 :: r.map (·.1); rw [give_days]
theorem up_days {L M : List (Int×Int)} (h : M.map (·.1)=L.map (·.1)) (hL : Up1 L) : Up1 M:=by
  unfold Up1 at *
  rw [← List.pairwise_map (f:=fun p : Int×Int=>p.1) (R:=(·≤·))] at *
  rw [h]; exact hL
theorem give_pos {tm e : Int} : ∀ {c : Int} {L : List (Int×Int)},Pos L→Pos (give tm e c L)
  | _,[],h=>h
  | c,p :: r,h=>fun q hq=>by
    have h0:=h p (.head _)
    rcases List.mem_cons.mp hq with z | z
    · rw [z]
      show 0≤p.2 - (if 0 < min c p.2∧e - tm≤p.1∧p.1≤e then min c p.2 else 0)
      split <;> omega
    · exact give_pos (fun q hq=>h q (.tail _ hq)) q z
theorem give_le {tm e : Int} : ∀ {c : Int} {L : List (Int×Int)},Pos L→∀ f l,S (give tm e c L) f l≤S L f l
  | _,[],_,_,_=>Int.le_refl _
  | c,p :: r,h,f,l=>by
    have h0:=h p (.head _)
    have ih:=give_le (tm:=tm) (e:=e) (c:=c - (if 0 < min c p.2∧e - tm≤p.1∧p.1≤e then min c p.2 else 0)) (L:=r) (fun q hq=>h q (.tail _ hq)) f l
    show (if f≤p.1∧p.1≤l then p.2 - (if 0 < min c p.2∧e - tm≤p.1∧p.1≤e then min c p.2 else 0) else 0) + S (give tm e _ r) f l≤(if f≤p.1∧p.1≤l then p.2 else 0) + S r f l
    split
    · have : 0≤(if 0 < min c p.2∧e - tm≤p.1∧p.1≤e then min c p.2 else 0):=by split <;> omega
      omega
    · omega
theorem give_zero {tm e : Int} : ∀ {L : List (Int×Int)},give tm e 0 L=L
  | []=>rfl
  | p :: r=>by
    show (p.1,p.2 - (if 0 < min 0 p.2∧e - tm≤p.1∧p.1≤e then min 0 p.2 else 0)) :: give tm e (0 - (if 0 < min 0 p.2∧e - tm≤p.1∧p.1≤e then min 0 p.2 else 0)) r=p :: r
    rw [if_neg (by omega)]
    show (p.1,p.2 - 0) :: give tm e (0 - 0) r=p :: r
    rw [Int.sub_zero,Int.sub_zero,give_zero]
theorem give_most {tm e : Int} : ∀ {c : Int} {L : List (Int×Int)},0≤c→Pos L→∀ f l,S L f l≤(if f≤e∧e≤l + tm then c else 0) + S (give tm e c L) f l
  | c,[],hc,_,f,l=>by
    show (0 : Int)≤_ + 0
    split <;> omega
  | c,p :: r,hc,h,f,l=>by
    have h0:=h p (.head _)
    have y0 : 0≤(if 0 < min c p.2∧e - tm≤p.1∧p.1≤e then min c p.2 else 0)∧(if 0 < min c p.2∧e - tm≤p.1∧p.1≤e then min c p.2 else 0)≤c∧((if 0 < min c p.2∧e - tm≤p.1∧p.1≤e then min c p.2 else 0)=0∨(e - tm≤p.1∧p.1≤e)):=by split <;> omega
    show (if f≤p.1∧p.1≤l then p.2 else 0) + S r f l≤(if f≤e∧e≤l + tm then c else 0) + ((if f≤p.1∧p.1≤l then p.2 - (if 0 < min c p.2∧e - tm≤p.1∧p.1≤e then min c p.2 else 0) else 0) + S (give tm e (c - (if 0 < min c p.2∧e - tm≤p.1∧p.1≤e then min c p.2 else 0)) r) f l)
    generalize (if 0 < min c p.2∧e - tm≤p.1∧p.1≤e then min c p.2 else 0)=y at *
    have ih:=give_most (tm:=tm) (e:=e) (c:=c - y) (L:=r) (by omega) (fun q hq=>h q (.tail _ hq)) f l
    split at ih <;> split <;> omega
theorem give_full {tm e : Int} : ∀ {c : Int} {L : List (Int×Int)},0≤c→Pos L→Up1 L→∀ {d x l : Int},(d,x)∈give tm e c L→0 < x→e - tm≤d→d≤e→d≤l→S L (e - tm) l=c + S (give tm e c L) (e - tm) l
  | _,[],_,_,_,d,x,l,hm,_,_,_,_=>by cases hm
  | c,p :: r,hc,h,hu,d,x,l,hm,hx,h1,h2,h3=>by
    have h0:=h p (.head _)
    have hr : Pos r:=fun q hq=>h q (.tail _ hq)
    obtain ⟨hu1,hu2⟩:=List.pairwise_cons.mp hu
    show (if e - tm≤p.1∧p.1≤l then p.2 else 0) + S r (e - tm) l=c + ((if e - tm≤p.1∧p.1≤l then p.2 - (if 0 < min c p.2∧e - tm≤p.1∧p.1≤e then min c p.2 else 0) else 0) + S (give tm e (c - (if 0 < min c p.2∧e - tm≤p.1∧p.1≤e then min c p.2 else 0)) r) (e - tm) l)
    rcases List.mem_cons.mp hm with z | z
    · have e1 : d=p.1:=congrArg Prod.fst z
      have e2 : x=p.2 - (if 0 < min c p.2∧e - tm≤p.1∧p.1≤e then min c p.2 else 0):=congrArg Prod.snd z
      have hy : (if 0 < min c p.2∧e - tm≤p.1∧p.1≤e then min c p.2 else 0)=c:=by
        split at e2 <;> split <;> omega
      rw [hy,Int.sub_self,give_zero,if_pos (by omega),if_pos (by omega)]
      omega
    · have hd : p.1≤d:=by
        have m : d∈(give tm e (c - (if 0 < min c p.2∧e - tm≤p.1∧p.1≤e then min c p.2 else 0)) r).map (·.1):=List.mem_map.mpr ⟨_,z,rfl⟩
        rw [give_days] at m
        obtain ⟨q,hq,e'⟩:=List.mem_map.mp m
        have:=hu1 q hq
        omega
      have y0 : 0≤(if 0 < min c p.2∧e - tm≤p.1∧p.1≤e then min c p.2 else 0)∧(if 0 < min c p.2∧e - tm≤p.1∧p.1≤e then min c p.2 else 0)≤c∧((if 0 < min c p.2∧e - tm≤p.1∧p.1≤e then min c p.2 else 0)=0∨(e - tm≤p.1∧p.1≤e)):=by split <;> omega
      generalize (if 0 < min c p.2∧e - tm≤p.1∧p.1≤e then min c p.2 else 0)=y at *
      have ih:=give_full (tm:=tm) (e:=e) (c:=c - y) (L:=r) (by omega) hr hu2 z hx h1 h2 h3
      split <;> omega
theorem give_keeps {tm e c : Int} {L O : List (Int×Int)} (ht : 0≤tm) (hc : 0≤c) (hL : Pos L) (hu : Up1 L) (hO : Pos O) (he : ∀ o∈O,e≤o.1) (h : Hall L ((e,c) :: O) tm) : Hall (give tm e c L) O tm:=by
  intro f l hfl
  have H : ∀ f l,f≤l→S L f l≤(if f≤e∧e≤l + tm then c else 0) + S O f (l + tm):=fun f l hfl=>h f l hfl
  have gl:=give_le (tm:=tm) (e:=e) (c:=c) hL
  have gp:=give_pos (tm:=tm) (e:=e) (c:=c) hL
  by_cases c0 : f≤e∧e≤l + tm
  · have low : S L f (e - tm - 1)≤0:=by
      by_cases z : f≤e - tm - 1
      · have:=H f (e - tm - 1) z
        rw [if_neg (by omega),S_none (L:=O) (fun o ho y=>by have:=he o ho; omega)] at this
        omega
      · rw [S_none fun p _ y=>by omega]
        exact Int.le_refl _
    by_cases c1 : ∃ d x,(d,x)∈give tm e c L∧0 < x∧e - tm≤d∧d≤e∧f≤d∧d≤l
    · obtain ⟨d,x,hm,hx,h1,h2,h3,h4⟩:=c1
      have full:=give_full hc hL hu hm hx h1 h2 h4
      have h5:=H (e - tm) l (by omega)
      rw [if_pos (by omega)] at h5
      have h6 : S O (e - tm) (l + tm)≤S O f (l + tm):=by
        have : ∀ (O : List (Int×Int)),Pos O→(∀ o∈O,e≤o.1)→S O (e - tm) (l + tm)≤S O f (l + tm):=by
          intro O
          induction O with
          | nil=>intro _ _; exact Int.le_refl _
          | cons o r ih=>
            intro hp hd
            have i1:=ih (fun q hq=>hp q (.tail _ hq)) (fun q hq=>hd q (.tail _ hq))
            have i2:=hd o (.head _)
            have i3:=hp o (.head _)
            show (if e - tm≤o.1∧o.1≤l + tm then o.2 else 0) + S r (e - tm) (l + tm)≤(if f≤o.1∧o.1≤l + tm then o.2 else 0) + S r f (l + tm)
            split <;> split <;> omega
        exact this O hO he
      have h7 : S (give tm e c L) f l≤S (give tm e c L) f (e - tm - 1) + S (give tm e c L) (e - tm) l:=by
        have : ∀ (M : List (Int×Int)),Pos M→S M f l≤S M f (e - tm - 1) + S M (e - tm) l:=by
          intro M
          induction M with
          | nil=>intro _; exact Int.le_refl _
          | cons p r ih=>
            intro hp
            have i1:=ih (fun q hq=>hp q (.tail _ hq))
            have i2:=hp p (.head _)
            show (if f≤p.1∧p.1≤l then p.2 else 0) + S r f l≤((if f≤p.1∧p.1≤e - tm - 1 then p.2 else 0) + S r f (e - tm - 1)) + ((if e - tm≤p.1∧p.1≤l then p.2 else 0) + S r (e - tm) l)
            split <;> split <;> split <;> omega
        exact this _ gp
      have h8:=gl f (e - tm - 1)
      omega
    · have h9 : S (give tm e c L) f l≤S (give tm e c L) f (e - tm - 1) + S (give tm e c L) (e + 1) l:=by
        have : ∀ (M : List (Int×Int)),Pos M→(∀ d x,(d,x)∈M→¬ (0 < x∧e - tm≤d∧d≤e∧f≤d∧d≤l))→S M f l≤S M f (e - tm - 1) + S M (e + 1) l:=by
          intro M
          induction M with
          | nil=>intro _ _; exact Int.le_refl _
          | cons p r ih=>
            intro hp hn
            have i1:=ih (fun q hq=>hp q (.tail _ hq)) (fun d x hm=>hn d x (.tail _ hm))
            have i2:=hp p (.head _)
            have i3:=hn p.1 p.2 (.head _)
            show (if f≤p.1∧p.1≤l then p.2 else 0) + S r f l≤((if f≤p.1∧p.1≤e - tm - 1 then p.2 else 0) + S r f (e - tm - 1)) + ((if e + 1≤p.1∧p.1≤l then p.2 else 0) + S r (e + 1) l)
            split <;> split <;> split <;> omega
        exact this _ gp fun d x hm z=>c1 ⟨d,x,hm,z⟩
      have h10:=gl f (e - tm - 1)
      have h11:=gl (e + 1) l
      have h12 : S L (e + 1) l≤S O f (l + tm):=by
        by_cases z : e + 1≤l
        · have:=H (e + 1) l z
          rw [if_neg (by omega)] at this
          have:=S_mono hO (f:=e + 1) (l:=l + tm) (f':=f) (l':=l + tm) (by omega) (Int.le_refl _)
          omega
        · rw [S_none fun p _ y=>by omega]
          exact S_nonneg hO _ _
      omega
  · have:=H f l hfl
    rw [if_neg c0] at this
    have:=gl f l
    omega
theorem deal_iff {tm : Int} (ht : 0≤tm) : ∀ {O L : List (Int×Int)},Pos O→Up1 O→Pos L→Up1 L→((∀ p∈deal tm O L,p.2=0)↔Hall L O tm)
  | [],L,_,_,hL,_=>by
    constructor
    · intro h f l _
      have : ∀ (M : List (Int×Int)),(∀ p∈M,p.2=0)→S M f l=0:=by
        intro M
        induction M with
        | nil=>intro _; rfl
        | cons p r ih=>
          intro hm
          have i1:=ih fun q hq=>hm q (.tail _ hq)
          have i2:=hm p (.head _)
          show (if f≤p.1∧p.1≤l then p.2 else 0) + S r f l=0
          split <;> omega
      rw [this L h]
      exact Int.le_refl _
    · intro h p hp
      have h1:=h p.1 p.1 (Int.le_refl _)
      have h2 : p.2≤S L p.1 p.1:=by
        have : ∀ (M : List (Int×Int)),Pos M→p∈M→p.2≤S M p.1 p.1:=by
          intro M
          induction M with
          | nil=>intro _ hm; cases hm
          | cons q r ih=>
            intro hp' hm
            show p.2≤(if p.1≤q.1∧q.1≤p.1 then q.2 else 0) + S r p.1 p.1
            have i0:=hp' q (.head _)
            have i1:=S_nonneg (L:=r) (fun q hq=>hp' q (.tail _ hq)) p.1 p.1
            rcases List.mem_cons.mp hm with z | z
            · rw [← z,if_pos ⟨Int.le_refl _,Int.le_refl _⟩]
              omega
            · have:=ih (fun q hq=>hp' q (.tail _ hq)) z
              split <;> omega
        exact this L hL hp
      have h3:=hL p hp
      have h4 : S ([] : List (Int×Int)) p.1 (p.1 + tm)=0:=rfl
      show p.2=0
      omega
  | o :: O,L,hO,hu,hL,huL=>by
    obtain ⟨e,c⟩:=o
    have hO' : Pos O:=fun q hq=>hO q (.tail _ hq)
    obtain ⟨hu1,hu2⟩:=List.pairwise_cons.mp hu
    have hc : 0≤c:=hO (e,c) (.head _)
    have ih:=deal_iff ht (O:=O) (L:=give tm e c L) hO' hu2 (give_pos hL) (up_days give_days huL)
    show (∀ p∈deal tm O (give tm e c L),p.2=0)↔_
    rw [ih]
    constructor
    · intro h f l hfl
      have h1:=give_most (tm:=tm) (e:=e) hc hL f l
      have h2:=h f l hfl
      show S L f l≤(if f≤e∧e≤l + tm then c else 0) + S O f (l + tm)
      omega
    · exact give_keeps ht hc hL huL hO' hu1
end L2
namespace L2
open PySem PySem.Spec PySem.W PyProof.Rows
def slackTo (rs : List (List Int)) (ts : List Int) (v : Int→Int→Int) : Nat→Int→Int→Int
  | 0=>v
  | n + 1=>lessF (slackTo rs ts v n) (colAt rs 0 (n : Int)) (ts.getD n 0)
def takenTo (rs : List (List Int)) (ts : List Int) (f l : Int) : Nat→Int
  | 0=>0
  | n + 1=>takenTo rs ts f l n + if f≤colAt rs 0 (n : Int)∧colAt rs 0 (n : Int)≤l then ts.getD n 0 else 0
theorem slack_taken (rs : List (List Int)) (ts : List Int) (v : Int→Int→Int) (f l : Int) : ∀ n,slackTo rs ts v n f l=v f l - takenTo rs ts f l n
  | 0=>by show v f l=v f l - 0; omega
  | n + 1=>by
    have ih:=slack_taken rs ts v f l n
    show lessF (slackTo rs ts v n) (colAt rs 0 (n : Int)) (ts.getD n 0) f l=v f l - (takenTo rs ts f l n + if f≤colAt rs 0 (n : Int)∧colAt rs 0 (n : Int)≤l then ts.getD n 0 else 0)
    unfold lessF
    split <;> omega
def slackF (rs os : List (List Int)) (tm : Int) (ts : List Int) : Int→Int→Int:=slackTo rs ts (goingOf os tm) rs.length
end L2
namespace L2
open PySem PySem.Spec PySem.W PyProof.Rows
end L2
namespace L2
open PySem PySem.Spec PySem.W PyProof.Rows
end L2
namespace L2
abbrev Quad:=Int×Int×Int×Int
def SX (f l : Int) : List Quad→Int
  | []=>0
  | (d,c,x,y) :: Z=>(if f≤d∧d≤l then x else 0) + SX f l Z
def one (d x : Int) (Ts : List (Int×Int)) : Int:=(Ts.map fun T=>if T.1≤d∧d≤T.2 then x else 0).sum
def CX (Ts : List (Int×Int)) (Z : List Quad) : Int:=(Ts.map fun T=>SX T.1 T.2 Z).sum
def Clos (ks : List (Int×Int)) : Prop:=(∀ p∈ks,p.1≤p.2)∧∀ p∈ks,∀ q∈ks,p.1≤q.2→q.1≤p.2→(min p.1 q.1,max p.2 q.2)∈ks∧(max p.1 q.1,min p.2 q.2)∈ks
def Modu (v : Int→Int→Int) : Prop:=∀ f l f' l',f≤l→f'≤l'→f≤l'→f'≤l→v f l + v f' l' = v (min f f') (max l l') + v (max f f') (min l l')
theorem Modu.less {v : Int→Int→Int} (h : Modu v) (d m : Int) : Modu (lessF v d m):=by
  intro f l f' l' h1 h2 h3 h4
  have e:=h f l f' l' h1 h2 h3 h4
  unfold lessF
  by_cases c1 : f≤d∧d≤l <;> by_cases c2 : f'≤d∧d≤l'
  · rw [if_pos c1,if_pos c2,if_pos (by omega),if_pos (by omega)]; omega
  · rw [if_pos c1,if_neg c2,if_pos (by omega),if_neg (by omega)]; omega
  · rw [if_neg c1,if_pos c2,if_pos (by omega),if_neg (by omega)]; omega
  · rw [if_neg c1,if_neg c2,if_neg (by omega),if_neg (by omega)]; omega
def SO (rs : List (List Int)) (Y : Int→Int) (f l : Int) : List Int→Int
  | []=>0
  | i :: os=>(if f≤colAt rs 0 i∧colAt rs 0 i≤l then Y i else 0) + SO rs Y f l os
def gain (ks : List (Int×Int)) (rs : List (List Int)) (Y : Int→Int) : List Int→(Int→Int→Int)→Int
  | [],_=>0
  | i :: os,v=>(stepN ks rs v i - Y i) * colAt rs 2 i + gain ks rs Y os (lessF v (colAt rs 0 i) (stepN ks rs v i))
end L2
namespace L2
def sumO (g : Int→Int) : List Int→Int
  | []=>0
  | i :: os=>g i + sumO g os
theorem sumO_congr {g g' : Int→Int} : ∀ {os : List Int},(∀ i∈os,g i=g' i)→sumO g os=sumO g' os
  | [],_=>rfl
  | i :: os,h=>by
    show g i + _=g' i + _
    rw [h i (.head _),sumO_congr fun j hj=>h j (.tail _ hj)]
theorem sumO_map (g : Int→Int) : ∀ os : List Int,sumO g os=(os.map g).sum
  | []=>rfl
  | i :: os=>by show g i + _=_; rw [sumO_map g os,List.map_cons,List.sum_cons]
theorem bestGo_keep {ks : List (Int×Int)} {rs : List (List Int)} {j : Nat} : ∀ (os : List Int) (v : Int→Int→Int) (cs : List Int),(∀ i∈os,i.toNat≠j)→(bestGo ks rs os v cs).2[j]? = cs[j]?
  | [],v,cs,_=>rfl
  | i :: os,v,cs,h=>by
    show (bestGo ks rs os _ _).2[j]? = _
    rw [bestGo_keep os _ _ fun k hk=>h k (.tail _ hk),List.getElem?_set_ne (h i (.head _))]
theorem bestGo_fin {ks : List (Int×Int)} {rs : List (List Int)} (Y : Int→Int) : ∀ (os : List Int) (v : Int→Int→Int) (cs : List Int),os.Nodup→(∀ i∈os,0≤i∧i.toNat < cs.length)→
    gain ks rs Y os v=sumO (fun i=>((bestGo ks rs os v cs).2.getD i.toNat 0 - Y i) * colAt rs 2 i) os∧∀ f l,(bestGo ks rs os v cs).1 f l=v f l - SO rs (fun i=>(bestGo ks rs os v cs).2.getD i.toNat 0) f l os
  | [],v,cs,_,_=>⟨rfl,fun f l=>by show v f l=v f l - 0; omega⟩
  | i :: os,v,cs,nd,hi=>by
    obtain ⟨n1,n2⟩:=List.nodup_cons.mp nd
    obtain ⟨i0,i1⟩:=hi i (.head _)
    obtain ⟨a,b⟩:=bestGo_fin Y os (lessF v (colAt rs 0 i) (stepN ks rs v i)) (cs.set i.toNat (stepN ks rs v i)) n2 fun j hj=>⟨(hi j (.tail _ hj)).1,by rw [List.length_set]; exact (hi j (.tail _ hj)).2⟩
    have k : (bestGo ks rs (i :: os) v cs).2.getD i.toNat 0=stepN ks rs v i:=by
      show (bestGo ks rs os _ _).2.getD i.toNat 0=_
      rw [List.getD_eq_getElem?_getD,bestGo_keep os _ _ fun j hj e=>?_,List.getElem?_set_self i1]
      · rfl
      · have : j=i:=by have:=(hi j (.tail _ hj)).1; omega
        subst this
        exact n1 hj
    refine ⟨?_,fun f l=>?_⟩
    · show (stepN ks rs v i - Y i) * colAt rs 2 i + gain ks rs Y os _=((bestGo ks rs (i :: os) v cs).2.getD i.toNat 0 - Y i) * colAt rs 2 i + _
      rw [k,a]
      rfl
    · show (bestGo ks rs os _ _).1 f l=v f l - ((if f≤colAt rs 0 i∧colAt rs 0 i≤l then (bestGo ks rs (i :: os) v cs).2.getD i.toNat 0 else 0) + _)
      rw [k,b f l]
      show lessF v _ _ f l - _=v f l - (_ + SO rs (fun i=>(bestGo ks rs os (lessF v (colAt rs 0 _) (stepN ks rs v _)) (cs.set _ (stepN ks rs v _))).2.getD i.toNat 0) f l os)
      unfold lessF
      split <;> omega
theorem perm_sum {a b : List Int} (h : a.Perm b) : a.sum=b.sum:=by
  induction h with
  | nil=>rfl
  | cons x _ ih=>rw [List.sum_cons,List.sum_cons,ih]
  | swap x y l=>rw [List.sum_cons,List.sum_cons,List.sum_cons,List.sum_cons]; omega
  | trans _ _ a b=>exact a.trans b
theorem upto_nodup (n : Nat) : (uptoN n).Nodup:=by
  unfold uptoN
  exact List.Pairwise.map _ (fun a b h e=>h (by omega)) List.nodup_range
theorem clos_str (ds : List Int) : Clos (strOf ds):=by
  refine ⟨fun p hp=>(mem_str.mp (show (p.1,p.2)∈strOf ds from hp)).2.2,fun p hp q hq h1 h2=>?_⟩
  obtain ⟨a1,a2,a3⟩:=mem_str.mp (show (p.1,p.2)∈strOf ds from hp)
  obtain ⟨b1,b2,b3⟩:=mem_str.mp (show (q.1,q.2)∈strOf ds from hq)
  have mn : ∀ {x y : Int},x∈ds→y∈ds→min x y∈ds:=fun {x y} hx hy=>by
    by_cases c : x≤y
    · rw [Int.min_eq_left c]; exact hx
    · rw [Int.min_eq_right (by omega)]; exact hy
  have mx : ∀ {x y : Int},x∈ds→y∈ds→max x y∈ds:=fun {x y} hx hy=>by
    by_cases c : x≤y
    · rw [Int.max_eq_right c]; exact hy
    · rw [Int.max_eq_left (by omega)]; exact hx
  exact ⟨mem_str.mpr ⟨mn a1 b1,mx a2 b2,by omega⟩,mem_str.mpr ⟨mx a1 b1,mn a2 b2,by omega⟩⟩
theorem going_cons (r : List Int) (os : List (List Int)) (tm f l : Int) : goingOf (r :: os) tm f l=(if f≤r.getD 0 0∧r.getD 0 0≤l + tm then r.getD 1 0 else 0) + goingOf os tm f l:=by
  unfold goingOf
  rw [List.filter_cons]
  by_cases c : f≤r.getD 0 0∧r.getD 0 0≤l + tm
  · rw [if_pos (show goesB tm f l r=true from decide_eq_true c),if_pos c,List.map_cons,List.sum_cons]
  · rw [if_neg (fun z : goesB tm f l r=true=>c (of_decide_eq_true z)),if_neg c]; omega
theorem modu_going {tm : Int} (t0 : 0≤tm) : ∀ os : List (List Int),Modu (goingOf os tm)
  | []=>fun f l f' l' _ _ _ _=>rfl
  | r :: os=>fun f l f' l' h1 h2 h3 h4=>by
    have e:=modu_going t0 os f l f' l' h1 h2 h3 h4
    rw [going_cons,going_cons,going_cons,going_cons]
    generalize r.getD 0 0=o
    generalize r.getD 1 0=n
    by_cases c1 : f≤o∧o≤l + tm <;> by_cases c2 : f'≤o∧o≤l' + tm
    · rw [if_pos c1,if_pos c2,if_pos (by omega),if_pos (by omega)]; omega
    · rw [if_pos c1,if_neg c2,if_pos (by omega),if_neg (by omega)]; omega
    · rw [if_neg c1,if_pos c2,if_pos (by omega),if_neg (by omega)]; omega
    · rw [if_neg c1,if_neg c2,if_neg (by omega),if_neg (by omega)]; omega
end L2
namespace L2
def lotsBy (rs : List (List Int)) (ts : List Int) (is : List Int) : List (Int×Int):=is.map fun i=>(colAt rs 0 i,ts.getD i.toNat 0)
def outsBy (os : List (List Int)) (js : List Int) : List (Int×Int):=js.map fun j=>(colAt os 0 j,colAt os 1 j)
theorem S_sum (g : Int→Int×Int) (f l : Int) : ∀ is : List Int,S (is.map g) f l=(is.map fun i=>if f≤(g i).1∧(g i).1≤l then (g i).2 else 0).sum
  | []=>rfl
  | i :: is=>by
    rw [List.map_cons,List.map_cons,List.sum_cons,← S_sum g f l is]
    rfl
theorem S_perm (g : Int→Int×Int) (f l : Int) {is js : List Int} (h : is.Perm js) : S (is.map g) f l=S (js.map g) f l:=by
  rw [S_sum,S_sum]
  exact perm_sum (h.map _)
theorem S_append (f l : Int) : ∀ (a b : List (Int×Int)),S (a ++ b) f l=S a f l + S b f l
  | [],b=>by show S b f l=0 + S b f l; omega
  | p :: a,b=>by
    show (if f≤p.1∧p.1≤l then p.2 else 0) + S (a ++ b) f l=(if f≤p.1∧p.1≤l then p.2 else 0) + S a f l + S b f l
    rw [S_append f l a b]; omega
theorem S_taken (rs : List (List Int)) (ts : List Int) (f l : Int) : ∀ n,S (lotsBy rs ts (uptoN n)) f l=takenTo rs ts f l n
  | 0=>rfl
  | n + 1=>by
    unfold lotsBy
    rw [uptoN_succ,List.map_append,S_append]
    have ih:=S_taken rs ts f l n
    unfold lotsBy at ih
    rw [ih]
    show _ + ((if f≤colAt rs 0 (n : Int)∧colAt rs 0 (n : Int)≤l then ts.getD (n : Int).toNat 0 else 0) + 0)=_ + (if f≤colAt rs 0 (n : Int)∧colAt rs 0 (n : Int)≤l then ts.getD n 0 else 0)
    rw [Int.toNat_natCast]
    omega
theorem S_rows (f l : Int) : ∀ os : List (List Int),S (os.map fun r=>(r.getD 0 0,r.getD 1 0)) f l=goingOf os 0 f l
  | []=>rfl
  | r :: os=>by
    rw [going_cons,← S_rows f l os,Int.add_zero]
    rfl
theorem going_at (os : List (List Int)) (tm f l : Int) : goingOf os tm f l=goingOf os 0 f (l + tm):=by
  induction os with
  | nil=>rfl
  | cons r os ih=>rw [going_cons,going_cons,ih,Int.add_zero]
theorem outs_rows (os : List (List Int)) : outsBy os (uptoN os.length)=os.map fun r=>(r.getD 0 0,r.getD 1 0):=by
  unfold outsBy uptoN
  rw [List.map_map]
  refine List.ext_getElem? fun i=>?_
  rw [List.getElem?_map,List.getElem?_map]
  by_cases h : i < os.length
  · rw [List.getElem?_range h,List.getElem?_eq_getElem h]
    show some (colAt os 0 (i : Int),colAt os 1 (i : Int))=_
    unfold colAt
    rw [row_at (List.getElem?_eq_getElem h)]
    rfl
  · rw [List.getElem?_eq_none (by rw [List.length_range]; omega),List.getElem?_eq_none (by omega)]; rfl
theorem S_going {os : List (List Int)} {js : List Int} (h : js.Perm (uptoN os.length)) (tm f l : Int) : S (outsBy os js) f (l + tm)=goingOf os tm f l:=by
  unfold outsBy
  rw [S_perm _ _ _ h]
  have:=outs_rows os
  unfold outsBy at this
  rw [this,S_rows,← going_at]
theorem least_of : ∀ (xs : List Int),xs≠[]→(∃ m∈xs,∀ x∈xs,m≤x)∧∃ m∈xs,∀ x∈xs,x≤m
  | [],h=>absurd rfl h
  | [x],_=>⟨⟨x,.head _,fun y hy=>by rw [List.mem_singleton.mp hy]; exact Int.le_refl _⟩,⟨x,.head _,fun y hy=>by rw [List.mem_singleton.mp hy]; exact Int.le_refl _⟩⟩
  | x :: y :: r,_=>by
    obtain ⟨⟨a,ha,h1⟩,⟨b,hb,h2⟩⟩:=least_of (y :: r) (fun z=>by cases z)
    refine ⟨?_,?_⟩
    · by_cases c : x≤a
      · exact ⟨x,.head _,fun z hz=>by
          rcases List.mem_cons.mp hz with e | e
          · omega
          · have:=h1 z e; omega⟩
      · exact ⟨a,.tail _ ha,fun z hz=>by
          rcases List.mem_cons.mp hz with e | e
          · omega
          · exact h1 z e⟩
    · by_cases c : b≤x
      · exact ⟨x,.head _,fun z hz=>by
          rcases List.mem_cons.mp hz with e | e
          · omega
          · have:=h2 z e; omega⟩
      · exact ⟨b,.tail _ hb,fun z hz=>by
          rcases List.mem_cons.mp hz with e | e
          · omega
          · exact h2 z e⟩
theorem S_in {L : List (Int×Int)} {f l f' l' : Int} : (∀ p∈L,f≤p.1→p.1≤l→f'≤p.1∧p.1≤l')→f≤f'→l'≤l→S L f l=S L f' l':=by
  intro h h1 h2
  induction L with
  | nil=>rfl
  | cons p L ih=>
    have e:=ih fun q hq=>h q (.tail _ hq)
    have hp:=h p (.head _)
    show (if f≤p.1∧p.1≤l then p.2 else 0) + S L f l=(if f'≤p.1∧p.1≤l' then p.2 else 0) + S L f' l'
    rw [e]
    by_cases c : f≤p.1∧p.1≤l
    · rw [if_pos c,if_pos (hp c.1 c.2)]
    · rw [if_neg c,if_neg (by omega)]
theorem slack_hall {rs os : List (List Int)} {tm : Int} {ts ds is js : List Int} (hds : DaysOf rs ds) (hi : is.Perm (uptoN rs.length)) (hj : js.Perm (uptoN os.length)) (ho : ∀ r∈os,0≤r.getD 1 0) : (∀ p∈strOf ds,0≤slackF rs os tm ts p.1 p.2)↔Hall (lotsBy rs ts is) (outsBy os js) tm:=by
  have key : ∀ f l,slackF rs os tm ts f l=S (outsBy os js) f (l + tm) - S (lotsBy rs ts is) f l:=fun f l=>by
    unfold slackF
    rw [slack_taken,S_going hj,← S_taken]
    unfold lotsBy
    rw [S_perm _ _ _ hi]
  have posO : Pos (outsBy os js):=fun p hp=>by
    obtain ⟨j,_,rfl⟩:=List.mem_map.mp hp
    exact col_nn ho j
  constructor
  · intro h f l hfl
    by_cases c : (ds.filter fun d=>decide (f≤d∧d≤l))=[]
    · have : S (lotsBy rs ts is) f l=0:=S_none fun p hp z=>by
        obtain ⟨i,hi',rfl⟩:=List.mem_map.mp hp
        obtain ⟨i0,i1⟩:=uptoN_mem.mp (hi.mem_iff.mp hi')
        have hl : i.toNat < rs.length:=by omega
        have hd : colAt rs 0 i∈ds:=(hds.2.1 _).mpr ⟨rs[i.toNat],List.getElem_mem hl,by unfold colAt; rw [List.getD_eq_getElem?_getD (l:=rs),List.getElem?_eq_getElem hl]; rfl⟩
        have : colAt rs 0 i∈ds.filter fun d=>decide (f≤d∧d≤l):=List.mem_filter.mpr ⟨hd,decide_eq_true z⟩
        rw [c] at this
        cases this
      rw [this]
      exact S_nonneg posO _ _
    · obtain ⟨⟨a,ha,h1⟩,⟨b,hb,h2⟩⟩:=least_of _ c
      obtain ⟨a1,a2⟩:=List.mem_filter.mp ha
      obtain ⟨b1,b2⟩:=List.mem_filter.mp hb
      have a3:=of_decide_eq_true a2
      have b3:=of_decide_eq_true b2
      have ab:=h1 b hb
      have e : S (lotsBy rs ts is) f l=S (lotsBy rs ts is) a b:=S_in (fun p hp z1 z2=>by
        obtain ⟨i,hi',rfl⟩:=List.mem_map.mp hp
        obtain ⟨i0,i1⟩:=uptoN_mem.mp (hi.mem_iff.mp hi')
        have hl : i.toNat < rs.length:=by omega
        have hd : colAt rs 0 i∈ds:=(hds.2.1 _).mpr ⟨rs[i.toNat],List.getElem_mem hl,by unfold colAt; rw [List.getD_eq_getElem?_getD (l:=rs),List.getElem?_eq_getElem hl]; rfl⟩
        have hm : colAt rs 0 i∈ds.filter fun d=>decide (f≤d∧d≤l):=List.mem_filter.mpr ⟨hd,decide_eq_true ⟨z1,z2⟩⟩
        exact ⟨h1 _ hm,h2 _ hm⟩) a3.1 b3.2
      have k:=key a b
      have h0:=h (a,b) (mem_str.mpr ⟨a1,b1,ab⟩)
      dsimp only at h0
      have mo : S (outsBy os js) a (b + tm)≤S (outsBy os js) f (l + tm):=S_mono posO a3.1 (by omega)
      omega
  · intro h p hp
    have:=(mem_str.mp (show (p.1,p.2)∈strOf ds from hp)).2.2
    have:=h p.1 p.2 this
    have:=key p.1 p.2
    omega
end L2
namespace L2
end L2
namespace L2
theorem sumO_perm {g : Int→Int} {a b : List Int} (h : a.Perm b) : sumO g a=sumO g b:=by
  rw [sumO_map,sumO_map]
  exact perm_sum (h.map _)
theorem SO_sum (rs : List (List Int)) (Y : Int→Int) (f l : Int) : ∀ os : List Int,SO rs Y f l os=sumO (fun i=>if f≤colAt rs 0 i∧colAt rs 0 i≤l then Y i else 0) os
  | []=>rfl
  | i :: os=>by
    show _ + SO rs Y f l os=_ + sumO _ os
    rw [SO_sum rs Y f l os]
def unitsIn (rs : List (List Int)) (Y : Int→Int) (f l : Int) : Int:=sumO (fun i=>if f≤colAt rs 0 i∧colAt rs 0 i≤l then Y i else 0) (uptoN rs.length)
def Fits (rs os : List (List Int)) (tm : Int) (Y : Int→Int) : Prop:=(∀ i,0≤i→i < (rs.length : Int)→0≤Y i∧Y i≤colAt rs 1 i)∧∀ ds,DaysOf rs ds→∀ p∈strOf ds,unitsIn rs Y p.1 p.2≤goingOf os tm p.1 p.2
theorem BestIs.fits {rs os : List (List Int)} {tm : Int} {cs : List Int} (h : BestIs rs os tm cs) (hr : ∀ r∈rs,0≤r.getD 1 0) (ho : ∀ r∈os,0≤r.getD 1 0) : Fits rs os tm fun i=>cs.getD i.toNat 0:=by
  have tk:=h.taken hr ho
  obtain ⟨ds,ord,hds,hord,e⟩:=h
  have mem : ∀ i∈ord,0≤i∧i < (rs.length : Int):=fun i hi=>uptoN_mem.mp (hord.1.mem_iff.mp hi)
  have nd : ord.Nodup:=(hord.1.nodup_iff).mpr (upto_nodup _)
  have rng : ∀ i∈ord,0≤i∧i.toNat < (List.replicate rs.length (0 : Int)).length:=fun i hi=>by
    have:=mem i hi
    rw [List.length_replicate]
    exact ⟨this.1,by omega⟩
  obtain ⟨_,F2⟩:=bestGo_fin (ks:=strOf ds) (rs:=rs) (fun _=>0) ord (goingOf os tm) (List.replicate rs.length 0) nd rng
  have nn:=(bestGo_in (rs:=rs) (ks:=strOf ds) ord (goingOf os tm) (List.replicate rs.length 0) (fun i hi=>⟨(mem i hi).1,col_nn hr i⟩) (fun p _=>going_nn ho _ _ _) (fun j u e=>by
    have:=List.mem_of_getElem? e
    rw [(List.mem_replicate.mp this).2]
    exact ⟨Int.le_refl _,col_nn hr _⟩)).1
  refine ⟨fun i i0 i1=>?_,fun ds' hds' p hp=>?_⟩
  · have hl : i.toNat < cs.length:=by rw [tk.1]; omega
    have hl' : i.toNat < rs.length:=by omega
    have:=tk.2 i.toNat rs[i.toNat] cs[i.toNat] hl' (List.getElem?_eq_getElem hl') (List.getElem?_eq_getElem hl)
    dsimp only
    rw [List.getD_eq_getElem?_getD,List.getElem?_eq_getElem hl]
    unfold colAt
    rw [List.getD_eq_getElem?_getD (l:=rs),List.getElem?_eq_getElem hl']
    exact this
  · have ed : ds' = ds:=days_uniq hds' hds fun _=>Iff.rfl
    subst ed
    have a:=F2 p.1 p.2
    rw [← e,SO_sum,sumO_perm hord.1] at a
    have b:=nn p hp
    show sumO (fun i=>if p.1≤colAt rs 0 i∧colAt rs 0 i≤p.2 then cs.getD i.toNat 0 else 0) (uptoN rs.length)≤_
    omega
end L2
namespace L2
theorem going_in {f l f' l' tm : Int} (h1 : f≤f') (h2 : l'≤l) : ∀ os : List (List Int),(∀ r∈os,0≤r.getD 1 0)→goingOf os tm f' l'≤goingOf os tm f l
  | [],_=>Int.le_refl _
  | r :: os,h=>by
    have:=going_in (tm:=tm) h1 h2 os fun r hr=>h r (.tail _ hr)
    have:=h r (.head _)
    rw [going_cons,going_cons]
    by_cases c : f'≤r.getD 0 0∧r.getD 0 0≤l' + tm
    · rw [if_pos c,if_pos (by omega)]; omega
    · rw [if_neg c]
      split <;> omega
theorem units_S (rs : List (List Int)) (Y : Int→Int) (f l : Int) : unitsIn rs Y f l=S ((uptoN rs.length).map fun i=>(colAt rs 0 i,Y i)) f l:=by
  rw [S_sum]
  unfold unitsIn
  rw [sumO_map]
theorem Fits.all {rs os : List (List Int)} {tm : Int} {Y : Int→Int} {ds : List Int} (hY : Fits rs os tm Y) (hds : DaysOf rs ds) (ho : ∀ r∈os,0≤r.getD 1 0) (f l : Int) : unitsIn rs Y f l≤goingOf os tm f l:=by
  have day : ∀ p∈(uptoN rs.length).map fun i=>(colAt rs 0 i,Y i),p.1∈ds:=fun p hp=>by
    obtain ⟨i,hi',rfl⟩:=List.mem_map.mp hp
    obtain ⟨i0,i1⟩:=uptoN_mem.mp hi'
    have hl : i.toNat < rs.length:=by omega
    exact (hds.2.1 _).mpr ⟨rs[i.toNat],List.getElem_mem hl,by show _=colAt rs 0 i; unfold colAt; rw [List.getD_eq_getElem?_getD (l:=rs),List.getElem?_eq_getElem hl]; rfl⟩
  by_cases c : (ds.filter fun d=>decide (f≤d∧d≤l))=[]
  · rw [units_S,S_none fun p hp z=>by
      have : p.1∈ds.filter fun d=>decide (f≤d∧d≤l):=List.mem_filter.mpr ⟨day p hp,decide_eq_true z⟩
      rw [c] at this
      cases this]
    exact going_nn ho _ _ _
  · obtain ⟨⟨a,ha,h1⟩,⟨b,hb,h2⟩⟩:=least_of _ c
    obtain ⟨a1,a2⟩:=List.mem_filter.mp ha
    obtain ⟨b1,b2⟩:=List.mem_filter.mp hb
    have a3:=of_decide_eq_true a2
    have b3:=of_decide_eq_true b2
    have e : unitsIn rs Y f l=unitsIn rs Y a b:=by
      rw [units_S,units_S]
      exact S_in (fun p hp z1 z2=>by
        have hm : p.1∈ds.filter fun d=>decide (f≤d∧d≤l):=List.mem_filter.mpr ⟨day p hp,decide_eq_true ⟨z1,z2⟩⟩
        exact ⟨h1 _ hm,h2 _ hm⟩) a3.1 b3.2
    rw [e]
    exact Int.le_trans (hY.2 ds hds (a,b) (mem_str.mpr ⟨a1,b1,h1 b hb⟩)) (going_in a3.1 b3.2 os ho)
theorem sumO_le {g g' : Int→Int} : ∀ {os : List Int},(∀ i∈os,g i≤g' i)→sumO g os≤sumO g' os
  | [],_=>Int.le_refl _
  | i :: os,h=>by
    have:=h i (.head _)
    have:=sumO_le fun j hj=>h j (.tail (b:=i) hj)
    show g i + _≤g' i + _
    omega
theorem sumO_add {g g' : Int→Int} : ∀ os : List Int,sumO (fun i=>g i + g' i) os=sumO g os + sumO g' os
  | []=>rfl
  | i :: os=>by
    show g i + g' i + _=g i + _ + (g' i + _)
    rw [sumO_add os]; omega
def outOf (rs : List (List Int)) (u : Int) (c : Int→Int) (ss : List (List Int)) : Int:=sumO (fun i=>if u≤colAt rs 2 i∧liesB (colAt rs 0 i) ss=false then c i else 0) (uptoN rs.length)
theorem weak_go (rs : List (List Int)) (u : Int) : ∀ (ss : List (List Int)) (Y c : Int→Int),(∀ i∈uptoN rs.length,0≤Y i∧Y i≤c i)→sumO (fun i=>if u≤colAt rs 2 i then Y i else 0) (uptoN rs.length)≤outOf rs u c ss + (ss.map fun r=>unitsIn rs Y (r.getD 0 0) (r.getD 1 0)).sum
  | [],Y,c,h=>by
    have : sumO (fun i=>if u≤colAt rs 2 i then Y i else 0) (uptoN rs.length)≤outOf rs u c []:=sumO_le fun i hi=>by
      have:=h i hi
      by_cases z : u≤colAt rs 2 i
      · rw [if_pos z,if_pos ⟨z,rfl⟩]; omega
      · rw [if_neg z,if_neg fun y=>z y.1]; exact Int.le_refl _
    show _≤outOf rs u c [] + 0
    omega
  | s :: ss,Y,c,h=>by
    have ih:=weak_go rs u ss (fun i=>if withinB (colAt rs 0 i) s=true then 0 else Y i) (fun i=>if withinB (colAt rs 0 i) s=true then 0 else c i) fun i hi=>by
      have:=h i hi
      split <;> omega
    have a : sumO (fun i=>if u≤colAt rs 2 i then Y i else 0) (uptoN rs.length)≤unitsIn rs Y (s.getD 0 0) (s.getD 1 0) + sumO (fun i=>if u≤colAt rs 2 i then (if withinB (colAt rs 0 i) s=true then 0 else Y i) else 0) (uptoN rs.length):=by
      unfold unitsIn
      rw [← sumO_add]
      refine sumO_le fun i hi=>?_
      have:=h i hi
      have hw : withinB (colAt rs 0 i) s=true↔(s.getD 0 0≤colAt rs 0 i∧colAt rs 0 i≤s.getD 1 0):=by unfold withinB; rw [decide_eq_true_iff]
      by_cases w : withinB (colAt rs 0 i) s=true
      · rw [if_pos (hw.mp w),if_pos w]
        split <;> omega
      · rw [if_neg fun z=>w (hw.mpr z),if_neg w]
        split <;> omega
    have b : outOf rs u (fun i=>if withinB (colAt rs 0 i) s=true then 0 else c i) ss≤outOf rs u c (s :: ss):=sumO_le fun i hi=>by
      have:=h i hi
      have e : liesB (colAt rs 0 i) (s :: ss)=(withinB (colAt rs 0 i) s || liesB (colAt rs 0 i) ss):=rfl
      rw [e]
      dsimp only
      by_cases w : withinB (colAt rs 0 i) s=true
      · rw [if_pos w,w]
        split <;> split <;> omega
      · rw [if_neg w,Bool.eq_false_iff.mpr w,Bool.false_or]
        exact Int.le_refl _
    have d : (ss.map fun r=>unitsIn rs (fun i=>if withinB (colAt rs 0 i) s=true then 0 else Y i) (r.getD 0 0) (r.getD 1 0)).sum≤(ss.map fun r=>unitsIn rs Y (r.getD 0 0) (r.getD 1 0)).sum:=by
      have one : ∀ f l,unitsIn rs (fun i=>if withinB (colAt rs 0 i) s=true then 0 else Y i) f l≤unitsIn rs Y f l:=by
        intro f l
        unfold unitsIn
        refine sumO_le fun i hi=>?_
        have:=h i hi
        dsimp only
        by_cases z : f≤colAt rs 0 i∧colAt rs 0 i≤l
        · rw [if_pos z,if_pos z]
          split
          · exact this.1
          · exact Int.le_refl _
        · rw [if_neg z,if_neg z]
          exact Int.le_refl _
      clear ih b
      induction ss with
      | nil=>exact Int.le_refl _
      | cons r ss ih'=>
        rw [List.map_cons,List.map_cons,List.sum_cons,List.sum_cons]
        have:=one (r.getD 0 0) (r.getD 1 0)
        omega
    rw [List.map_cons,List.sum_cons]
    omega
theorem Fits.weak {rs os : List (List Int)} {tm : Int} {Y : Int→Int} {ds : List Int} (hY : Fits rs os tm Y) (hds : DaysOf rs ds) (ho : ∀ r∈os,0≤r.getD 1 0) (u : Int) (ss : List (List Int)) : sumO (fun i=>if u≤colAt rs 2 i then Y i else 0) (uptoN rs.length)≤outOf rs u (fun i=>colAt rs 1 i) ss + goneOf os tm ss:=by
  have a:=weak_go rs u ss Y (fun i=>colAt rs 1 i) fun i hi=>hY.1 i (uptoN_mem.mp hi).1 (uptoN_mem.mp hi).2
  have b : (ss.map fun r=>unitsIn rs Y (r.getD 0 0) (r.getD 1 0)).sum≤goneOf os tm ss:=by
    clear a
    unfold goneOf
    induction ss with
    | nil=>exact Int.le_refl _
    | cons r ss ih=>
      rw [List.map_cons,List.map_cons,List.sum_cons,List.sum_cons]
      have:=hY.all hds ho (r.getD 0 0) (r.getD 1 0)
      omega
  omega
theorem sumO_rows (G : List Int→Int) (rs : List (List Int)) : sumO (fun i=>G (rs.getD i.toNat [])) (uptoN rs.length)=(rs.map G).sum:=by
  rw [sumO_map]
  congr 1
  unfold uptoN
  rw [List.map_map]
  refine List.ext_getElem? fun i=>?_
  rw [List.getElem?_map,List.getElem?_map]
  by_cases h : i < rs.length
  · rw [List.getElem?_range h,List.getElem?_eq_getElem h]
    show some (G (rs.getD ((i : Nat) : Int).toNat []))=_
    rw [row_at (List.getElem?_eq_getElem h)]
    rfl
  · rw [List.getElem?_eq_none (by rw [List.length_range]; omega),List.getElem?_eq_none (by omega)]; rfl
theorem sum_filter (p : List Int→Bool) (G : List Int→Int) : ∀ rs : List (List Int),((rs.filter p).map G).sum=(rs.map fun r=>if p r=true then G r else 0).sum
  | []=>rfl
  | r :: rs=>by
    rw [List.filter_cons,List.map_cons,List.sum_cons,← sum_filter p G rs]
    by_cases c : p r=true
    · rw [if_pos c,if_pos c,List.map_cons,List.sum_cons]
    · rw [if_neg c,if_neg c]; omega
theorem come_out (rs os : List (List Int)) (tm u : Int) (ss : List (List Int)) : comeTo rs os tm u ss=outOf rs u (fun i=>colAt rs 1 i) ss + goneOf os tm ss:=by
  unfold comeTo unitsOf
  congr 1
  rw [List.filter_filter,sum_filter]
  unfold outOf
  have:=sumO_rows (fun r=>if u≤r.getD 2 0∧liesB (r.getD 0 0) ss=false then r.getD 1 0 else 0) rs
  refine Eq.trans ?_ this.symm
  congr 1
  refine List.map_congr_left fun r _=>?_
  unfold dearB
  generalize r.getD 2 0=x
  generalize liesB (r.getD 0 0) ss=y
  cases y <;> by_cases c : u≤x <;> simp [c]
end L2
namespace L2
open PySem PySem.Spec PySem.W PyProof.Rows
theorem takenTo_set {rs : List (List Int)} {ts : List Int} {k : Nat} {x f l : Int} (hk : k < ts.length) : ∀ n,takenTo rs (ts.set k x) f l n=takenTo rs ts f l n + if k < n∧f≤colAt rs 0 (k : Int)∧colAt rs 0 (k : Int)≤l then x - ts.getD k 0 else 0
  | 0=>by rw [if_neg (by omega)]; rfl
  | n + 1=>by
    have ih:=takenTo_set (rs:=rs) (x:=x) (f:=f) (l:=l) hk n
    show takenTo rs (ts.set k x) f l n + (if f≤colAt rs 0 (n : Int)∧colAt rs 0 (n : Int)≤l then (ts.set k x).getD n 0 else 0)=takenTo rs ts f l n + (if f≤colAt rs 0 (n : Int)∧colAt rs 0 (n : Int)≤l then ts.getD n 0 else 0) + _
    rw [ih]
    by_cases e : k=n
    · subst e
      have g : (ts.set k x).getD k 0=x:=by rw [List.getD_eq_getElem?_getD,List.getElem?_set_self hk]; rfl
      rw [g,if_neg (fun z : k < k∧_=>Nat.lt_irrefl _ z.1)]
      by_cases c : f≤colAt rs 0 (k : Int)∧colAt rs 0 (k : Int)≤l
      · rw [if_pos c,if_pos c,if_pos ⟨Nat.lt_succ_self _,c⟩]; omega
      · rw [if_neg c,if_neg c,if_neg (fun z=>c z.2)]
    · have g : (ts.set k x).getD n 0=ts.getD n 0:=by rw [List.getD_eq_getElem?_getD,List.getElem?_set_ne e,List.getD_eq_getElem?_getD]
      rw [g]
      generalize (if f≤colAt rs 0 (n : Int)∧colAt rs 0 (n : Int)≤l then ts.getD n 0 else 0)=y
      by_cases c : k < n∧f≤colAt rs 0 (k : Int)∧colAt rs 0 (k : Int)≤l
      · rw [if_pos c,if_pos ⟨by omega,c.2⟩]; omega
      · rw [if_neg c,if_neg (fun z=>c ⟨by omega,z.2⟩)]; omega
theorem slack_set {rs os : List (List Int)} {tm : Int} {ts : List Int} {k : Nat} {x f l : Int} (hk : k < ts.length) (hl : ts.length=rs.length) : slackF rs os tm (ts.set k x) f l=slackF rs os tm ts f l - if f≤colAt rs 0 (k : Int)∧colAt rs 0 (k : Int)≤l then x - ts.getD k 0 else 0:=by
  unfold slackF
  rw [slack_taken,slack_taken,takenTo_set hk]
  by_cases c : f≤colAt rs 0 (k : Int)∧colAt rs 0 (k : Int)≤l
  · rw [if_pos c,if_pos ⟨by omega,c⟩]; omega
  · rw [if_neg c,if_neg (fun z=>c z.2)]; omega
def insD (x : Int) : List Int→List Int
  | []=>[x]
  | d :: ds=>if x < d then x :: d :: ds else if x=d then d :: ds else d :: insD x ds
theorem mem_insD {x z : Int} : ∀ {ds : List Int},z∈insD x ds↔z=x∨z∈ds
  | []=>by simp [insD]
  | d :: ds=>by
    unfold insD
    split
    · simp
    · split
      · rename_i e; subst e; simp
      · rw [List.mem_cons,mem_insD,List.mem_cons]
        constructor
        · rintro (h | h | h) <;> simp [h]
        · rintro (h | h | h) <;> simp [h]
theorem insD_up {x : Int} : ∀ {ds : List Int},ds.Pairwise (· < ·)→(insD x ds).Pairwise (· < ·)
  | [],_=>by simp [insD]
  | d :: ds,h=>by
    obtain ⟨h1,h2⟩:=List.pairwise_cons.mp h
    unfold insD
    split
    · rename_i c
      refine List.pairwise_cons.mpr ⟨fun z hz=>?_,h⟩
      rcases List.mem_cons.mp hz with e | e
      · omega
      · have:=h1 z e; omega
    · rename_i c
      split
      · exact h
      · rename_i e
        refine List.pairwise_cons.mpr ⟨fun z hz=>?_,insD_up h2⟩
        rcases mem_insD.mp hz with y | y
        · omega
        · exact h1 z y
theorem insD_len {x : Int} : ∀ {ds : List Int},(insD x ds).length≤ds.length + 1
  | []=>Nat.le_refl _
  | d :: ds=>by
    unfold insD
    split
    · simp
    · split
      · simp
      · have:=insD_len (x:=x) (ds:=ds)
        simp; omega
theorem days_exist : ∀ rs : List (List Int),∃ ds,DaysOf rs ds
  | []=>⟨[],.nil,fun d=>⟨fun h=>(by cases h),fun ⟨r,h,_⟩=>(by cases h)⟩,Nat.le_refl _⟩
  | r :: rs=>by
    obtain ⟨ds,h1,h2,h3⟩:=days_exist rs
    refine ⟨insD (r.getD 0 0) ds,insD_up h1,fun d=>?_,Nat.le_trans insD_len (by rw [List.length_cons]; omega)⟩
    rw [mem_insD,h2 d]
    constructor
    · rintro (e | ⟨q,hq,e⟩)
      · exact ⟨r,.head _,e.symm⟩
      · exact ⟨q,.tail _ hq,e⟩
    · rintro ⟨q,hq,e⟩
      rcases List.mem_cons.mp hq with z | z
      · subst z; exact .inl e.symm
      · exact .inr ⟨q,z,e⟩
def NoLack (rs os : List (List Int)) (tm : Int) (ts : List Int) : Prop:=∀ ds,DaysOf rs ds→∀ p∈strOf ds,0≤slackF rs os tm ts p.1 p.2
theorem bestGo_slack {rs os : List (List Int)} {tm : Int} {ks : List (Int×Int)} : ∀ (is : List Int) (v : Int→Int→Int) (cs : List Int),(∀ f l,v f l=slackF rs os tm cs f l)→is.Nodup→(∀ i∈is,0≤i∧i.toNat < cs.length∧cs.getD i.toNat 0=0)→cs.length=rs.length→∀ f l,(bestGo ks rs is v cs).1 f l=slackF rs os tm (bestGo ks rs is v cs).2 f l
  | [],v,cs,h,_,_,_=>h
  | i :: is,v,cs,h,nd,hi,hl=>by
    obtain ⟨n1,n2⟩:=List.nodup_cons.mp nd
    obtain ⟨i0,i1,i2⟩:=hi i (.head _)
    refine bestGo_slack is _ _ (fun f l=>?_) n2 (fun j hj=>?_) (by rw [List.length_set]; exact hl)
    · rw [slack_set i1 hl,i2,show ((i.toNat : Nat) : Int)=i by omega,← h f l]
      unfold lessF
      split <;> omega
    · obtain ⟨j0,j1,j2⟩:=hi j (.tail _ hj)
      have ne : i.toNat≠j.toNat:=fun z=>n1 (by rw [show i=j by omega]; exact hj)
      refine ⟨j0,by rw [List.length_set]; exact j1,?_⟩
      rw [List.getD_eq_getElem?_getD,List.getElem?_set_ne ne,← List.getD_eq_getElem?_getD]
      exact j2
theorem slack_zero {rs os : List (List Int)} {tm f l : Int} {n : Nat} : slackF rs os tm (List.replicate n 0) f l=goingOf os tm f l:=by
  unfold slackF
  rw [slack_taken]
  have : ∀ m,takenTo rs (List.replicate n 0) f l m=0:=by
    intro m
    induction m with
    | zero=>rfl
    | succ k ih=>
      show takenTo rs (List.replicate n 0) f l k + (if f≤colAt rs 0 (k : Int)∧colAt rs 0 (k : Int)≤l then (List.replicate n (0 : Int)).getD k 0 else 0)=0
      rw [ih,List.getD_eq_getElem?_getD,List.getElem?_replicate]
      have g : ((if k < n then some (0 : Int) else none).getD 0)=0:=by split <;> rfl
      rw [g]
      split <;> rfl
  rw [this]; omega
end L2
namespace L2
open PySem PySem.Spec PySem.W PyProof.Rows
section
variable {K : PySem.W.Frag} {a c x D : Addr} {g : TG} {te : TE} {σ₀ : St} {H1 : Hp} {R : Hp→Prop}
end
def LotG (r : List Int) : Prop:=∃ d c u : Int,r=[d,c,u]∧1≤d∧d≤999∧1≤c∧c≤10000000000∧1≤u∧u≤1000000
def OutG (r : List Int) : Prop:=∃ d c : Int,r=[d,c]∧1≤d∧d≤999∧1≤c∧c≤10000000000
theorem LotIn.good {lo n sc : Int} {r : List Int} (h : LotIn lo n sc r) (l1 : 1≤lo) (l2 : lo + n≤1000) (s1 : sc≤10000000000) : LotG r:=by
  obtain ⟨d,c,u,rfl,h1,h2,h3,h4,h5,h6⟩:=h
  exact ⟨d,c,u,rfl,by omega,by omega,by omega,by omega,h5,h6⟩
theorem OutIn.good {lo n sc : Int} {r : List Int} (h : OutIn lo n sc r) (l1 : 1≤lo) (l2 : lo + n≤1000) (s1 : sc≤10000000000) : OutG r:=by
  obtain ⟨d,c,rfl,h1,h2,h3,h4⟩:=h
  exact ⟨d,c,rfl,by omega,by omega,by omega,by omega⟩
structure GoodC (ls os : List (List Int)) (tm : Int) : Prop where
  lg : ∀ r∈ls,LotG r
  og : ∀ r∈os,OutG r
  ln : ls.length≤30
  on : os.length≤30
  t0 : 0≤tm
  t4 : tm≤400
theorem lotsG_bad {ls : List (List Int)} (h : ∀ r∈ls,LotG r) : rowsBad ls=none:=by
  unfold rowsBad
  rw [List.findSome?_eq_none_iff]
  intro r hr
  obtain ⟨d,c,u,rfl,h1,h2,h3,h4,h5,h6⟩:=h r hr
  simp only [rowBad]
  rw [if_pos ⟨by omega,by omega⟩,if_pos ⟨by omega,by omega⟩,if_pos ⟨by omega,by omega⟩]
theorem outsG_bad {ls : List (List Int)} (h : ∀ r∈ls,OutG r) : rowsBad ls=none:=by
  unfold rowsBad
  rw [List.findSome?_eq_none_iff]
  intro r hr
  obtain ⟨d,c,rfl,h1,h2,h3,h4⟩:=h r hr
  simp only [rowBad]
  rw [if_pos ⟨by omega,by omega⟩,if_pos ⟨by omega,by omega⟩]
theorem LotG.len {r : List Int} (h : LotG r) : r.length=3:=by obtain ⟨d,c,u,rfl,_⟩:=h; rfl
theorem OutG.len {r : List Int} (h : OutG r) : r.length=2:=by obtain ⟨d,c,rfl,_⟩:=h; rfl
theorem GoodC.both {ls os : List (List Int)} {tm : Int} (h : GoodC ls os tm) : bothNo ls os tm=none:=by
  rw [bothNo_term (rowsNo_ok h.ln (lotsG_bad h.lg)) (rowsNo_ok h.on (outsG_bad h.og)),if_pos ⟨h.t0,h.t4⟩]
theorem GoodC.h3 {ls os : List (List Int)} {tm : Int} (h : GoodC ls os tm) : ∀ r∈ls,r.length=3:=fun r hr=>(h.lg r hr).len
theorem GoodC.h2 {ls os : List (List Int)} {tm : Int} (h : GoodC ls os tm) : ∀ r∈os,r.length=2:=fun r hr=>(h.og r hr).len
end L2
namespace L2
variable {nr : Nat→Nat→Prop} {n : Nat}
def cu (p : Nat→Bool) : List Bool→List (Option Nat)→Nat
  | false :: sn,some o :: h=>(p o).toNat + cu p sn h
  | _ :: sn,_ :: h=>cu p sn h
  | _,_=>0
theorem cu_hold {p : Nat→Bool} : ∀ {sn : List Bool} {h : List (Option Nat)} {s o : Nat},sn[s]? = some false→h[s]? = some (some o)→cu p sn h=(p o).toNat + cu p (sn.set s true) h
  | [],_,_,_,e,_=>by cases e
  | _ :: _,[],_,_,_,e=>by cases e
  | b :: sn,x :: h,0,o,e,e'=>by cases e; cases e'; rfl
  | b :: sn,x :: h,s + 1,o,e,e'=>by
    have k:=cu_hold (p:=p) (sn:=sn) (h:=h) (s:=s) (o:=o) e e'
    show cu p (b :: sn) (x :: h)=_ + cu p (b :: sn.set s true) (x :: h)
    cases b <;> cases x <;> simp only [cu] <;> omega
theorem cu_none {p : Nat→Bool} : ∀ {sn : List Bool} {h : List (Option Nat)} {s : Nat},h[s]? = some none→cu p sn h=cu p (sn.set s true) h
  | [],_,_,_=>rfl
  | _ :: _,[],_,e=>by cases e
  | b :: sn,x :: h,0,e=>by cases e; cases b <;> rfl
  | b :: sn,x :: h,s + 1,e=>by
    have k:=cu_none (p:=p) (sn:=sn) (h:=h) (s:=s) e
    show cu p (b :: sn) (x :: h)=cu p (b :: sn.set s true) (x :: h)
    cases b <;> cases x <;> simp only [cu] <;> omega
theorem cu_set {p : Nat→Bool} : ∀ {sn : List Bool} {h : List (Option Nat)} {s : Nat} {x : Option Nat},cu p (sn.set s true) (h.set s x)=cu p (sn.set s true) h
  | [],h,s,x=>by cases h <;> cases s <;> rfl
  | b :: sn,[],s,x=>by cases s <;> rfl
  | b :: sn,y :: h,0,x=>by cases x <;> cases y <;> rfl
  | b :: sn,y :: h,s + 1,x=>by
    have k:=cu_set (p:=p) (sn:=sn) (h:=h) (s:=s) (x:=x)
    show cu p (b :: sn.set s true) (y :: h.set s x)=cu p (b :: sn.set s true) (y :: h)
    cases b <;> cases y <;> simp only [cu] <;> omega
theorem cu_up {p : Nat→Bool} : ∀ {sn sn' : List Bool} {h h' : List (Option Nat)},sn'.length=sn.length→h'.length=h.length→(∀ s : Nat,sn[s]? = some true→sn'[s]? = some true)→(∀ s : Nat,sn'[s]? = some true→h'[s]? = h[s]?)→cu p sn h' + cu p sn' h=cu p sn h + cu p sn' h'
  | [],[],_,_,_,_,_,_=>rfl
  | [],_ :: _,_,_,e,_,_,_=>by cases e
  | _ :: _,[],_,_,e,_,_,_=>by cases e
  | _ :: _,_ :: _,[],[],_,_,_,_=>rfl
  | _ :: _,_ :: _,[],_ :: _,_,e,_,_=>by cases e
  | _ :: _,_ :: _,_ :: _,[],_,e,_,_=>by cases e
  | b :: sn,b' :: sn',x :: h,x' :: h',e1,e2,up,ag=>by
    have k:=cu_up (p:=p) (sn:=sn) (sn':=sn') (h:=h) (h':=h') (by simpa using e1) (by simpa using e2) (fun s=>up (s + 1)) (fun s=>ag (s + 1))
    have u0:=up 0
    have a0:=ag 0
    simp only [List.getElem?_cons_zero,Option.some.injEq] at u0 a0
    cases b <;> cases b'
    · cases x <;> cases x' <;> simp only [cu] <;> omega
    · have:=a0 rfl
      subst this
      cases x' <;> simp only [cu] <;> omega
    · cases (u0 rfl)
    · cases x <;> cases x' <;> simp only [cu] <;> omega
def Shut (nr : Nat→Nat→Prop) (n : Nat) (h : List (Option Nat)) (Z : Nat→Prop) : Prop:=∀ s,Z s→∃ o,h[s]? = some (some o)∧∀ t,t < n→nr o t→Z t
structure GoF (nr : Nat→Nat→Prop) (n : Nat) (h : List (Option Nat)) (u : Nat) (sn sn' : List Bool) : Prop where
  len : sn'.length=sn.length
  up : ∀ s : Nat,sn[s]? = some true→sn'[s]? = some true
  cl : ∀ s,s < n→nr u s→sn'[s]? = some true
  new : ∀ s : Nat,sn'[s]? = some true→sn[s]? = some true∨∃ o,h[s]? = some (some o)∧∀ t,t < n→nr o t→sn'[t]? = some true
structure GoT (nr : Nat→Nat→Prop) (n : Nat) (h : List (Option Nat)) (u : Nat) (sn : List Bool) (h' : List (Option Nat)) : Prop where
  len : h'.length=h.length
  near : (∀ (s v : Nat),h[s]? = some (some v)→nr v s)→∀ (s v : Nat),h'[s]? = some (some v)→nr v s
  keep : ∀ s : Nat,sn[s]? = some true→h'[s]? = h[s]?
  cnt : ∀ p,cu p sn h' = cu p sn h + (p u).toNat
  shut : ∀ Z,Shut nr n h Z→(∃ s,s < n∧nr u s∧¬ Z s)∧∀ s,Z s→h'[s]? = h[s]?
structure GoI (nr : Nat→Nat→Prop) (n : Nat) (h : List (Option Nat)) (u : Nat) (sn : List Bool) (i : Nat) (sn' : List Bool) : Prop where
  len : sn'.length=sn.length
  up : ∀ s : Nat,sn[s]? = some true→sn'[s]? = some true
  cl : ∀ s,s < i→nr u s→sn'[s]? = some true
  new : ∀ s : Nat,sn'[s]? = some true→sn[s]? = some true∨∃ o,h[s]? = some (some o)∧∀ t,t < n→nr o t→sn'[t]? = some true
variable {h h1 : List (Option Nat)} {u o i : Nat} {sn sn1 sn2 : List Bool}
theorem GoI.zero : GoI nr n h u sn 0 sn:=⟨rfl,fun _ e=>e,fun s hs=>absurd hs (by omega),fun _ e=>.inl e⟩
theorem GoI.fin (I : GoI nr n h u sn n sn1) : GoF nr n h u sn sn1:=⟨I.len,I.up,I.cl,I.new⟩
theorem GoI.pass (I : GoI nr n h u sn i sn1) (c : ¬ nr u i∨sn1[i]? = some true) : GoI nr n h u sn (i + 1) sn1:=
  ⟨I.len,I.up,fun s hs hn=>by
    by_cases e : s=i
    · subst e; exact c.elim (absurd hn) id
    · exact I.cl s (by omega) hn,I.new⟩
theorem set_true {s : Nat} (hi : sn1[i]? = some false) : (sn1.set i true)[s]? = some true↔s=i∨sn1[s]? = some true:=by
  have hl : i < sn1.length:=(List.getElem?_eq_some_iff.mp hi).1
  rw [List.getElem?_set]
  by_cases e : i=s
  · subst e; rw [if_pos rfl,if_pos hl]; exact ⟨fun _=>.inl rfl,fun _=>rfl⟩
  · rw [if_neg e]; exact ⟨.inr,fun z=>z.elim (fun y=>absurd y.symm e) id⟩
theorem GoI.fail (I : GoI nr n h u sn i sn1) (hi : sn1[i]? = some false) (ho : h[i]? = some (some o)) (F : GoF nr n h o (sn1.set i true) sn2) : GoI nr n h u sn (i + 1) sn2:=by
  have up2 : ∀ s : Nat,sn1[s]? = some true→sn2[s]? = some true:=fun s e=>F.up s ((set_true hi).mpr (.inr e))
  refine ⟨by rw [F.len,List.length_set,I.len],fun s e=>up2 s (I.up s e),fun s hs hn=>?_,fun s e=>?_⟩
  · by_cases e : s=i
    · exact F.up s ((set_true hi).mpr (.inl e))
    · exact up2 s (I.cl s (by omega) hn)
  · rcases F.new s e with e | ⟨o',g1,g2⟩
    · rcases (set_true hi).mp e with rfl | e
      · exact .inr ⟨o,ho,F.cl⟩
      · rcases I.new s e with e | ⟨o',g1,g2⟩
        · exact .inl e
        · exact .inr ⟨o',g1,fun t ht hn=>up2 t (g2 t ht hn)⟩
    · exact .inr ⟨o',g1,g2⟩
theorem GoI.none (I : GoI nr n h u sn i sn1) (hl : h.length=sn.length) (hin : i < n) (hn : nr u i) (hi : sn1[i]? = some false) (ho : h[i]? = some Option.none) : GoT nr n h u sn (h.set i (some u)):=by
  have hih : i < h.length:=(List.getElem?_eq_some_iff.mp ho).1
  have ne : ∀ s : Nat,sn1[s]? = some true→i≠s:=fun s e z=>by subst z; rw [hi] at e; cases e
  have ag : ∀ s : Nat,sn1[s]? = some true→(h.set i (some u))[s]? = h[s]?:=fun s e=>List.getElem?_set_ne (ne s e)
  refine ⟨List.length_set,fun nh s v e=>?_,fun s e=>ag s (I.up s e),fun p=>?_,fun Z hZ=>?_⟩
  · rw [List.getElem?_set] at e
    by_cases c : i=s
    · subst c; rw [if_pos rfl,if_pos hih] at e; cases e; exact hn
    · rw [if_neg c] at e; exact nh s v e
  · have a:=cu_up (p:=p) I.len List.length_set I.up ag
    have b:=cu_hold (p:=p) (h:=h.set i (some u)) (o:=u) hi (by rw [List.getElem?_set,if_pos rfl,if_pos hih])
    rw [cu_set] at b
    have c:=cu_none (p:=p) (sn:=sn1) ho
    omega
  · have nz : ¬ Z i:=fun z=>by obtain ⟨o,e,_⟩:=hZ i z; rw [ho] at e; cases e
    exact ⟨⟨i,hin,hn,nz⟩,fun s z=>List.getElem?_set_ne fun (e : i=s)=>nz (e ▸ z)⟩
theorem GoI.over (I : GoI nr n h u sn i sn1) (hin : i < n) (hn : nr u i) (hi : sn1[i]? = some false) (ho : h[i]? = some (some o)) (G : GoT nr n h o (sn1.set i true) h1) : GoT nr n h u sn (h1.set i (some u)):=by
  have hih : i < h1.length:=by rw [G.len]; exact (List.getElem?_eq_some_iff.mp ho).1
  have ne : ∀ s : Nat,sn1[s]? = some true→i≠s:=fun s e z=>by subst z; rw [hi] at e; cases e
  have ag : ∀ s : Nat,sn1[s]? = some true→(h1.set i (some u))[s]? = h[s]?:=fun s e=>by
    rw [List.getElem?_set_ne (ne s e)]; exact G.keep s ((set_true hi).mpr (.inr e))
  refine ⟨by rw [List.length_set,G.len],fun nh s v e=>?_,fun s e=>ag s (I.up s e),fun p=>?_,fun Z hZ=>?_⟩
  · rw [List.getElem?_set] at e
    by_cases c : i=s
    · subst c; rw [if_pos rfl,if_pos hih] at e; cases e; exact hn
    · rw [if_neg c] at e; exact G.near nh s v e
  · have a:=cu_up (p:=p) I.len (by rw [List.length_set,G.len]) I.up ag
    have b:=cu_hold (p:=p) (h:=h1.set i (some u)) (o:=u) hi (by rw [List.getElem?_set,if_pos rfl,if_pos hih])
    rw [cu_set] at b
    have c:=cu_hold (p:=p) hi ho
    have d:=G.cnt p
    omega
  · obtain ⟨⟨t,t1,t2,t3⟩,kp⟩:=G.shut Z hZ
    have nz : ¬ Z i:=fun z=>by
      obtain ⟨o',e,f⟩:=hZ i z
      rw [ho] at e; cases e
      exact t3 (f t t1 t2)
    exact ⟨⟨i,hin,hn,nz⟩,fun s z=>by rw [List.getElem?_set_ne fun (e : i=s)=>nz (e ▸ z)]; exact kp s z⟩
structure Sat (nr : Nat→Nat→Prop) (n : Nat) (i : Nat) (h : List (Option Nat)) (os fs : List Nat) : Prop where
  len : h.length=n
  near : ∀ (s v : Nat),h[s]? = some (some v)→nr v s
  cnt : ∀ p,cu p (List.replicate n false) h=os.countP p
  all : (os ++ fs).Perm (List.range i)
  shut : ∃ Z,Shut nr n h Z∧∀ f∈fs,∀ s,s < n→nr f s→Z s
theorem cu_nones {p : Nat→Bool} : ∀ n,cu p (List.replicate n false) (List.replicate n none)=0
  | 0=>rfl
  | n + 1=>by rw [List.replicate_succ,List.replicate_succ]; exact cu_nones n
theorem Sat.zero : Sat nr n 0 (List.replicate n none) [] []:=
  ⟨List.length_replicate,fun s v e=>(by rw [List.getElem?_replicate] at e; split at e <;> cases e),fun p=>cu_nones n,.refl _,fun _=>False,fun s z=>z.elim,fun f m=>(by cases m)⟩
theorem Sat.seat {os fs : List Nat} (S : Sat nr n i h os fs) (G : GoT nr n h i (List.replicate n false) h1) : Sat nr n (i + 1) h1 (i :: os) fs:=by
  obtain ⟨Z,hZ,hf⟩:=S.shut
  obtain ⟨_,kp⟩:=G.shut Z hZ
  refine ⟨by rw [G.len,S.len],G.near S.near,fun p=>?_,?_,Z,fun s z=>?_,hf⟩
  · rw [G.cnt,S.cnt,List.countP_cons]
    cases p i <;> rfl
  · rw [List.range_succ]
    exact (List.Perm.cons i S.all).trans (List.perm_append_singleton i _).symm
  · obtain ⟨o,e,f⟩:=hZ s z
    exact ⟨o,by rw [kp s z]; exact e,f⟩
theorem Sat.miss {os fs : List Nat} (S : Sat nr n i h os fs) (F : GoF nr n h i (List.replicate n false) sn1) : Sat nr n (i + 1) h os (i :: fs):=by
  obtain ⟨Z,hZ,hf⟩:=S.shut
  refine ⟨S.len,S.near,S.cnt,?_,fun s=>Z s∨sn1[s]? = some true,fun s z=>?_,fun f m s hs hn=>?_⟩
  · rw [List.range_succ]
    exact List.perm_middle.trans ((List.Perm.cons i S.all).trans (List.perm_append_singleton i _).symm)
  · rcases z with z | z
    · obtain ⟨o,e,f⟩:=hZ s z
      exact ⟨o,e,fun t ht hn=>.inl (f t ht hn)⟩
    · rcases F.new s z with e | ⟨o,e,f⟩
      · rw [List.getElem?_replicate] at e; split at e <;> cases e
      · exact ⟨o,e,fun t ht hn=>.inr (f t ht hn)⟩
  · rcases List.mem_cons.mp m with rfl | m
    · exact .inr (F.cl s hs hn)
    · exact .inl (hf f m s hs hn)
def NrD (tm : Int) (us ss : List Int) (u s : Nat) : Prop:=∃ d e,us[u]? = some d∧ss[s]? = some e∧e - tm≤d∧d≤e
theorem cu_ge {p : Nat→Bool} {B : Int→Bool} : ∀ {ss : List Int} {h : List (Option Nat)},(∀ (s : Nat) e,ss[s]? = some e→B e=true→∃ o,h[s]? = some (some o)∧p o=true)→ss.countP B≤cu p (List.replicate ss.length false) h
  | [],_,_=>Nat.zero_le _
  | e :: ss,[],hh=>by
    rw [List.countP_eq_zero.mpr fun x hx z=>?_]
    · exact Nat.zero_le _
    · obtain ⟨i,hi⟩:=List.getElem?_of_mem hx
      obtain ⟨o,z,_⟩:=hh i x hi z
      cases z
  | e :: ss,x :: h,hh=>by
    have k:=cu_ge (p:=p) (B:=B) (ss:=ss) (h:=h) fun s e=>hh (s + 1) e
    rw [List.countP_cons,List.length_cons,List.replicate_succ]
    by_cases c : B e=true
    · obtain ⟨o,z,po⟩:=hh 0 e rfl c
      cases z
      rw [if_pos c]
      simp only [cu,po,Bool.toNat_true]
      omega
    · rw [if_neg c]
      cases x <;> simp only [cu] <;> omega
theorem cu_le {p : Nat→Bool} {B : Int→Bool} : ∀ {ss : List Int} {h : List (Option Nat)},(∀ (s : Nat) e o,ss[s]? = some e→h[s]? = some (some o)→p o=true→B e=true)→cu p (List.replicate ss.length false) h≤ss.countP B
  | [],_,_=>Nat.zero_le _
  | e :: ss,[],hh=>by rw [List.length_cons,List.replicate_succ]; exact Nat.zero_le _
  | e :: ss,x :: h,hh=>by
    have k:=cu_le (p:=p) (B:=B) (ss:=ss) (h:=h) fun s e=>hh (s + 1) e
    rw [List.countP_cons,List.length_cons,List.replicate_succ]
    cases x with
    | none=>simp only [cu]; omega
    | some o=>
      simp only [cu]
      cases c : p o with
      | false=>simp only [Bool.toNat_false]; omega
      | true=>rw [if_pos (hh 0 e o rfl rfl c)]; simp only [Bool.toNat_true]; omega
theorem count_range (q : Int→Bool) (us : List Int) : us.countP q=(List.range us.length).countP fun u=>q (us.getD u 0):=by
  have e : us=(List.range us.length).map fun u=>us.getD u 0:=by
    refine List.ext_getElem? fun j=>?_
    rw [List.getElem?_map]
    by_cases hj : j < us.length
    · rw [List.getElem?_range hj,List.getElem?_eq_getElem hj,Option.map_some,List.getD_eq_getElem?_getD,List.getElem?_eq_getElem hj]; rfl
    · rw [List.getElem?_eq_none (by omega),List.getElem?_eq_none (by rw [List.length_range]; omega)]; rfl
  conv=>lhs; rw [e,List.countP_map]
  rfl
open Classical in
theorem Sat.cover {tm : Int} {us ss : List Int} {os fs : List Nat} (S : Sat (NrD tm us ss) ss.length us.length h os fs) : ∃ A : Int→Bool,(ss.countP fun e=>decide (∃ d,A d=true∧e - tm≤d∧d≤e)) + (us.countP fun d=>!A d)≤os.length:=by
  obtain ⟨Z,hZ,hf⟩:=S.shut
  refine ⟨fun d=>decide (∀ (s : Nat) e,ss[s]? = some e→e - tm≤d→d≤e→Z s),?_⟩
  generalize hA : (fun d=>decide (∀ (s : Nat) e,ss[s]? = some e→e - tm≤d→d≤e→Z s))=A
  have isA : ∀ d,A d=true↔∀ (s : Nat) e,ss[s]? = some e→e - tm≤d→d≤e→Z s:=fun d=>by rw [← hA]; exact decide_eq_true_iff
  have nrA : ∀ u,u < us.length→(∀ s,s < ss.length→NrD tm us ss u s→Z s)→A (us.getD u 0)=true:=fun u hu g=>(isA _).mpr fun s e es h1 h2=>by
    refine g s (List.getElem?_eq_some_iff.mp es).1 ⟨us.getD u 0,e,?_,es,h1,h2⟩
    rw [List.getD_eq_getElem?_getD,List.getElem?_eq_getElem hu]; rfl
  have lt : ∀ u∈os ++ fs,u < us.length:=fun u hu=>List.mem_range.mp (S.all.mem_iff.mp hu)
  have c1 : (ss.countP fun e=>decide (∃ d,A d=true∧e - tm≤d∧d≤e))≤os.countP fun u=>A (us.getD u 0):=by
    rw [← S.cnt]
    refine cu_ge fun s e es b=>?_
    obtain ⟨d,hd,h1,h2⟩:=of_decide_eq_true b
    obtain ⟨o,ho,g⟩:=hZ s ((isA d).mp hd s e es h1 h2)
    obtain ⟨d',e',eu,_⟩:=S.near s o ho
    exact ⟨o,ho,nrA o (List.getElem?_eq_some_iff.mp eu).1 g⟩
  have c2 : (us.countP fun d=>!A d)=os.countP fun u=>!A (us.getD u 0):=by
    rw [count_range,← S.all.countP_eq,List.countP_append,List.countP_eq_zero (l:=fs).mpr fun f hf'=>?_]
    · rfl
    · rw [nrA f (lt f (List.mem_append_right _ hf')) (hf f hf')]; decide
  have c3:=List.length_eq_countP_add_countP (l:=os) fun u=>A (us.getD u 0)
  have c4 : (os.countP fun u=>!A (us.getD u 0))=os.countP fun u=>decide ¬ A (us.getD u 0)=true:=List.countP_congr fun u _=>by cases A (us.getD u 0) <;> simp
  omega
theorem Sat.weak {tm : Int} {us ss : List Int} {os fs : List Nat} {m : Nat} (S : Sat (NrD tm us ss) ss.length m h os fs) (q B : Int→Bool) (hB : ∀ d e,q d=true→e - tm≤d→d≤e→B e=true) : (os.countP fun u=>q (us.getD u 0))≤ss.countP B:=by
  rw [← S.cnt]
  refine cu_le fun s e o es ho po=>?_
  obtain ⟨d,e',eu,es',h1,h2⟩:=S.near s o ho
  rw [es] at es'; cases es'
  rw [List.getD_eq_getElem?_getD,eu] at po
  exact hB d e po h1 h2
end L2
namespace L2
def SA (A : Int→Bool) : List (Int×Int)→Int
  | []=>0
  | p :: r=>(if A p.1=true then p.2 else 0) + SA A r
theorem give_few {A : Int→Bool} {tm e : Int} : ∀ {c : Int} {L : List (Int×Int)},0≤c→Pos L→SA A L - SA A (give tm e c L)≤c
  | c,[],h,_=>by show (0 : Int) - 0≤c; omega
  | c,p :: r,h,hL=>by
    have hp:=hL p (.head _)
    show (if A p.1=true then p.2 else 0) + SA A r - ((if A p.1=true then p.2 - (if 0 < min c p.2∧e - tm≤p.1∧p.1≤e then min c p.2 else 0) else 0) + SA A (give tm e (c - (if 0 < min c p.2∧e - tm≤p.1∧p.1≤e then min c p.2 else 0)) r))≤c
    have g0 : 0≤(if 0 < min c p.2∧e - tm≤p.1∧p.1≤e then min c p.2 else 0):=by split <;> omega
    have g1 : (if 0 < min c p.2∧e - tm≤p.1∧p.1≤e then min c p.2 else 0)≤c:=by split <;> omega
    generalize (if 0 < min c p.2∧e - tm≤p.1∧p.1≤e then min c p.2 else 0)=g at *
    have k:=give_few (A:=A) (tm:=tm) (e:=e) (c:=c - g) (L:=r) (by omega) fun q hq=>hL q (.tail _ hq)
    split <;> omega
theorem give_off {A : Int→Bool} {tm e : Int} (hA : ∀ d,A d=true→¬ (e - tm≤d∧d≤e)) : ∀ {c : Int} {L : List (Int×Int)},SA A (give tm e c L)=SA A L
  | c,[]=>rfl
  | c,p :: r=>by
    show (if A p.1=true then p.2 - (if 0 < min c p.2∧e - tm≤p.1∧p.1≤e then min c p.2 else 0) else 0) + SA A (give tm e _ r)=(if A p.1=true then p.2 else 0) + SA A r
    rw [give_off hA]
    by_cases c : A p.1=true
    · rw [if_pos c,if_pos c,if_neg (fun z=>hA _ c z.2)]; omega
    · rw [if_neg c,if_neg c]
open Classical in
noncomputable def nearB (A : Int→Bool) (tm : Int) : Int→Bool:=fun e=>decide (∃ d,A d=true∧e - tm≤d∧d≤e)
open Classical in
theorem nearB_iff {A : Int→Bool} {tm e : Int} : nearB A tm e=true↔∃ d,A d=true∧e - tm≤d∧d≤e:=by unfold nearB; exact decide_eq_true_iff
theorem deal_cover {A : Int→Bool} {tm : Int} : ∀ {O L : List (Int×Int)},Pos O→Pos L→SA A L≤SA A (deal tm O L) + SA (nearB A tm) O
  | [],L,_,_=>by show SA A L≤SA A L + 0; omega
  | o :: O,L,hO,hL=>by
    have k:=deal_cover (A:=A) (tm:=tm) (O:=O) (L:=give tm o.1 o.2 L) (fun q hq=>hO q (.tail _ hq)) (give_pos hL)
    show SA A L≤SA A (deal tm O (give tm o.1 o.2 L)) + ((if nearB A tm o.1=true then o.2 else 0) + SA (nearB A tm) O)
    by_cases c : nearB A tm o.1=true
    · rw [if_pos c]
      have:=give_few (A:=A) (tm:=tm) (e:=o.1) (hO o (.head _)) hL
      omega
    · rw [if_neg c]
      have:=give_off (A:=A) (tm:=tm) (e:=o.1) (c:=o.2) (L:=L) fun d hd z=>c (nearB_iff.mpr ⟨d,hd,z⟩)
      omega
theorem hall_cover {A : Int→Bool} {tm : Int} {O L : List (Int×Int)} (ht : 0≤tm) (hO : Pos O) (uO : Up1 O) (hL : Pos L) (uL : Up1 L) (h : Hall L O tm) : SA A L≤SA (nearB A tm) O:=by
  have z:=(deal_iff ht hO uO hL uL).mpr h
  have k:=deal_cover (A:=A) (tm:=tm) hO hL
  have e : ∀ (M : List (Int×Int)),(∀ p∈M,p.2=0)→SA A M=0:=by
    intro M
    induction M with
    | nil=>intro _; rfl
    | cons p r ih=>
      intro hM
      show (if A p.1=true then p.2 else 0) + SA A r=0
      rw [hM p (.head _),ih fun q hq=>hM q (.tail _ hq)]
      split <;> rfl
  rw [e _ z] at k
  omega
theorem SA_units (A : Int→Bool) : ∀ (L : List (Int×Int)),Pos L→SA A L=((L.flatMap fun p=>List.replicate p.2.toNat p.1).countP A : Nat)
  | [],_=>rfl
  | p :: r,h=>by
    have hp:=h p (.head _)
    have k:=SA_units A r fun q hq=>h q (.tail _ hq)
    show (if A p.1=true then p.2 else 0) + SA A r=_
    rw [List.flatMap_cons,List.countP_append,List.countP_replicate,k]
    by_cases c : A p.1=true
    · rw [if_pos c,if_pos c]; omega
    · rw [if_neg c,if_neg c]; omega
end L2
namespace K11
open PySem L2
abbrev s_goes_over : Stmt:=top 43
abbrev n_goes_over : List Str:=["_law_units","_law_seats","_law_term","_law_holders","_law_unit","_law_seen","_law_seat","_law_near","_law_other"]
abbrev p_goes_over : List Str:=["_law_units","_law_seats","_law_term","_law_holders","_law_unit","_law_seen"]
theorem sc_goes_over : FnScope n_goes_over p_goes_over (defScope s_goes_over):=⟨rfl,rfl,rfl,by decide +kernel,rfl,by decide +kernel,by decide +kernel⟩
def optV : Option Nat→V
  | none=>.non
  | some u=>.int u
def spGoes (n : Nat) : Sp:=fun vs H Q _=>∃ (ua sa ha na : Addr) (us ss : List Int) (tm : Int) (h : List (Option Nat)) (u : Nat) (sn : List Bool),vs=[.ref ua,.ref sa,.int tm,.ref ha,.int u,.ref na]∧H ua=some (.lst (us.map V.int))∧H sa=some (.lst (ss.map V.int))∧H ha=some (.lst (h.map optV))∧H na=some (.lst (sn.map V.bl))∧
  (ua≠ha∧ua≠na∧sa≠ha∧sa≠na∧ha≠na)∧h.length=ss.length∧sn.length=ss.length∧ss.length≤900∧u < us.length∧(∀ (s v : Nat),h[s]? = some (some v)→NrD tm us ss v s)∧(sn.countP fun b=>!b) < n∧
  (∀ (h' : List (Option Nat)) (sn' : List Bool) H',(∀ b o,b≠ha→b≠na→H b=some o→H' b=some o)→H' ha=some (.lst (h'.map optV))→H' na=some (.lst (sn'.map V.bl))→GoT (NrD tm us ss) ss.length h u sn h'→Q (.bl true) H')∧
  (∀ (sn' : List Bool) H',(∀ b o,b≠ha→b≠na→H b=some o→H' b=some o)→H' ha=some (.lst (h.map optV))→H' na=some (.lst (sn'.map V.bl))→GoF (NrD tm us ss) ss.length h u sn sn'→Q (.bl false) H')
theorem unseen_set : ∀ {sn : List Bool} {i : Nat},sn[i]? = some false→((sn.set i true).countP fun b=>!b) + 1=sn.countP fun b=>!b
  | [],_,e=>by cases e
  | b :: sn,0,e=>by cases e; rw [List.set_cons_zero,List.countP_cons,List.countP_cons]; rfl
  | b :: sn,i + 1,e=>by
    have k:=unseen_set (sn:=sn) (i:=i) e
    rw [List.set_cons_succ,List.countP_cons,List.countP_cons]
    omega
theorem unseen_up : ∀ {sn sn1 : List Bool},sn1.length=sn.length→(∀ s : Nat,sn[s]? = some true→sn1[s]? = some true)→(sn1.countP fun b=>!b)≤sn.countP fun b=>!b
  | [],[],_,_=>Nat.le_refl _
  | [],_ :: _,e,_=>by cases e
  | _ :: _,[],e,_=>by cases e
  | b :: sn,b1 :: sn1,e,up=>by
    have k:=unseen_up (sn:=sn) (sn1:=sn1) (by simpa using e) fun s=>up (s + 1)
    have u0:=up 0
    simp only [List.getElem?_cons_zero,Option.some.injEq] at u0
    rw [List.countP_cons,List.countP_cons]
    cases b <;> cases b1 <;> simp at u0 ⊢ <;> omega
section
variable {P : Program} {w : World} {K : PySem.W.Frag} {mg : Str→Option Value} {base : Heap} {f : Addr} {fd : FuncData} (B : Bn mg)
include B
theorem ok_goes1 {n : Nat} (G_goes_over : Cal P w K mg base CX0 n "_law_goes_over" p_goes_over (spGoes n)) (F : Fun K "_law_goes_over" "_law_goes_over" s_goes_over f fd) : FnOk P w K mg base CX0 (n + 1) f fd p_goes_over (spGoes (n + 1)):=by
  refine F.ok sc_goes_over (fun vs H Q E h=>?_) (fun cdv A outer s H vs Q E hr h=>?_)
  · obtain ⟨ua,sa,ha,na,us,ss,tm,h,u,sn,rfl,_⟩:=h; rfl
  obtain ⟨ua,sa,ha,na,us,ss,tm,h,u,sn,rfl,eu,es,eh,en,⟨n1,n2,n3,n4,n5⟩,lh,ln,l24,hu,hn,hc,q1,q2⟩:=h
  refine ⟨_,(pss_cons (ps_for PassesOwn.never rfl (pi_range1 rfl B.range (pa_c (pe_callB call_len_seq rfl B.len PySem.boot_len (pa_c (pv 1) pa_nil)) pa_nil)) (pg_name (i:=6) sc_goes_over.nd rfl (Or.inl rfl)) (pss_cons (ps_set (i:=7) sc_goes_over.nd rfl (Or.inl rfl) (pe_and (pe_cmpR op_le (pe_op op_sub (pe_ix ix_list (pv 1) (pv 6) (fun _ _=>rfl)) (pv 2)) (pe_ix ix_list (pv 0) (pv 4) (fun _ _=>rfl)) (nomark _)) (pe_one (pe_cmpR op_le (pe_ix ix_list (pv 0) (pv 4) (fun _ _=>rfl)) (pe_ix ix_list (pv 1) (pv 6) (fun _ _=>rfl)) (nomark _)))))
      (pss_one (ps_if (PW.pt (pw_and (pt_truth (pv 7) (fun _=>rfl)) (pw_and1 (pt_not (pt_truth (pe_ix ix_list (pv 5) (pv 6) (fun _ _=>rfl)) (fun _=>rfl)))))) (pss_cons (ps_asg pe_bl (pg_sub (pv 5) (pv 6) set_list))
        (pss_cons (ps_set (i:=8) sc_goes_over.nd rfl (Or.inl rfl) (pe_ix ix_list (pv 3) (pv 6) (fun _ _=>rfl)))
        (pss_one (ps_if (PW.pt (pw_or (pt_cmpR op_isN (pv 8) pe_non (nomark _)) (pw_or1 (pt_truth (pe_cal G_goes_over hr rfl pass0 (pa_c (pv 0) (pa_c (pv 1) (pa_c (pv 2) (pa_c (pv 3) (pa_c (pv 8) (pa_c (pv 5) pa_nil)))))) (hk:=Nat.le_refl _)) (fun _=>rfl))))) (pss_cons (ps_asg (pv 4) (pg_sub (pv 3) (pv 6) set_list))
          (pss_one (ps_ret pe_bl))) pss_nil)))) pss_nil))))
    (pss_one (ps_ret pe_bl))),?_⟩
  have lm : ∀ xs : List Int,(xs.map V.int).length=xs.length:=fun xs=>List.length_map _
  refine ⟨_,rfl,sa,_,rfl,.inl (SqL.of es),_,rfl,by omega,by rw [lm]; omega,?_⟩
  refine for_range (fun i σ H'=>∃ sn1 o6 o7 o8,σ=[some (.ref ua),some (.ref sa),some (.int tm),some (.ref ha),some (.int u),some (.ref na),o6,o7,o8]∧(∀ b o,b≠ha→b≠na→H b=some o→H' b=some o)∧H' ha=some (.lst (h.map optV))∧H' na=some (.lst (sn1.map V.bl))∧GoI (NrD tm us ss) ss.length h u sn i sn1) ⟨sn,_,_,_,rfl,fun b o _ _ e=>e,eh,en,GoI.zero⟩ ?_ ?_
  · rintro i σ H1 hi ⟨sn1,o6,o7,o8,rfl,kp,eh1,en1,I⟩
    rw [lm] at hi
    have hi : i < ss.length:=by omega
    have as : atI (ss.map V.int) (0 + (i : Int))=some (.int ss[i]):=atI_ints (by omega) hi
    have au : atI (us.map V.int) (u : Int)=some (.int us[u]):=atI_ints rfl hu
    have es1:=kp _ _ n3 n4 es
    have eu1:=kp _ _ n1 n2 eu
    refine ⟨_,rfl,_,rfl,sa,_,_,_,rfl,rfl,SqL.of es1,as,_,rfl,_,_,rfl,rfl,_,rfl,_,rfl,ua,_,_,_,rfl,rfl,SqL.of eu1,au,_,_,rfl,rfl,_,rfl,?_⟩
    have nrI : NrD tm us ss u i→ss[i] - tm≤us[u]∧us[u]≤ss[i]:=fun ⟨d,e,e1,e2,h1,h2⟩=>by
      rw [List.getElem?_eq_getElem hu] at e1; rw [List.getElem?_eq_getElem hi] at e2; cases e1; cases e2; exact ⟨h1,h2⟩
    by_cases c1 : ss[i] - tm≤us[u]
    · refine (if_pos (decide_eq_true c1)).mpr ?_
      refine ⟨_,rfl,_,rfl,ua,_,_,_,rfl,rfl,SqL.of eu1,au,_,rfl,_,rfl,sa,_,_,_,rfl,rfl,SqL.of es1,as,_,_,rfl,rfl,?_⟩
      by_cases c2 : us[u]≤ss[i]
      · dsimp only
        rw [decide_eq_true c2]
        have hnr : NrD tm us ss u i:=⟨_,_,List.getElem?_eq_getElem hu,List.getElem?_eq_getElem hi,c1,c2⟩
        have li : i < sn1.length:=by rw [I.len,ln]; exact hi
        have asn : atI (sn1.map V.bl) (0 + (i : Int))=some (.bl sn1[i]):=atI_some (by omega) (by rw [show ((0 : Int) + (i : Int)).toNat=i by omega,List.getElem?_map,List.getElem?_eq_getElem li]; rfl)
        refine ⟨_,rfl,_,rfl,iteT ⟨_,rfl,_,rfl,na,_,_,_,rfl,rfl,SqL.of en1,asn,_,rfl,?_⟩⟩
        cases hs : sn1[i] with
        | true=>exact iteF ⟨sn1,_,_,_,rfl,kp,eh1,en1,I.pass (.inr (by rw [List.getElem?_eq_getElem li,hs]))⟩
        | false=>
          have hi0 : sn1[i]? = some false:=by rw [List.getElem?_eq_getElem li,hs]
          have ixn : ∀ m : Nat,i < m→ixN m (0 + (i : Int))=some i:=fun m hm=>by unfold ixN; rw [if_pos (by omega),if_pos (by omega)]; congr 1; omega
          have lhi : i < h.length:=by omega
          have ah : atI (h.map optV) (0 + (i : Int))=some (optV h[i]):=atI_some (by omega) (by rw [show ((0 : Int) + (i : Int)).toNat=i by omega,List.getElem?_map,List.getElem?_eq_getElem lhi]; rfl)
          have sme : (sn1.map V.bl).set i (.bl true)=(sn1.set i true).map V.bl:=by rw [List.map_set]
          have kk : ∀ b o,b≠ha→b≠na→H b=some o→L2.upd H1 na (.lst ((sn1.set i true).map V.bl)) b=some o:=fun b o h1 h2 e=>by rw [upd_ne h2]; exact kp b o h1 h2 e
          have eh2 : L2.upd H1 na (.lst ((sn1.set i true).map V.bl)) ha=some (.lst (h.map optV)):=by rw [upd_ne n5]; exact eh1
          refine iteT ⟨_,rfl,_,rfl,na,_,_,i,rfl,rfl,en1,ixn _ (by rw [List.length_map]; exact li),?_⟩
          rw [sme]
          refine ⟨_,rfl,_,rfl,ha,_,_,_,rfl,rfl,SqL.of eh2,ah,?_⟩
          have en2 : L2.upd H1 na (.lst ((sn1.set i true).map V.bl)) na=some (.lst ((sn1.set i true).map V.bl)):=upd_same
          have eu2:=kk _ _ n1 n2 eu
          have es2:=kk _ _ n3 n4 es
          generalize L2.upd H1 na (.lst ((sn1.set i true).map V.bl))=H2 at *
          have lhm : i < (h.map optV).length:=by rw [List.length_map]; exact lhi
          cases hh : h[i] with
          | none=>
            have ho : h[i]? = some none:=by rw [List.getElem?_eq_getElem lhi,hh]
            refine ⟨_,rfl,rfl,_,rfl,?_⟩
            refine (if_pos (decide_eq_true rfl)).mpr (iteT ⟨_,rfl,_,rfl,_,rfl,ha,_,_,i,rfl,rfl,eh2,ixn _ lhm,?_⟩)
            rw [show (V.int (u : Int))=optV (some u) from rfl,← List.map_set]
            exact q1 _ (sn1.set i true) _ (fun b o h1 h2 e=>by rw [upd_ne h1]; exact kk b o h1 h2 e) upd_same (by rw [upd_ne n5.symm]; exact en2) (I.none (lh.trans ln.symm) hi hnr hi0 ho)
          | some o=>
            have ho : h[i]? = some (some o):=by rw [List.getElem?_eq_getElem lhi,hh]
            refine ⟨_,rfl,rfl,_,rfl,?_⟩
            refine (if_neg (by intro z; cases (of_decide_eq_true z))).mpr ?_
            have ou : o < us.length:=by obtain ⟨d,e,eo,_⟩:=hn i o ho; exact (List.getElem?_eq_some_iff.mp eo).1
            have cc : ((sn1.set i true).countP fun b=>!b) < n:=by
              have a1:=unseen_set hi0
              have a2:=unseen_up I.len I.up
              omega
            refine ⟨_,rfl,_,rfl,_,rfl,_,rfl,_,rfl,_,rfl,ua,sa,ha,na,us,ss,tm,h,o,sn1.set i true,rfl,eu2,es2,eh2,en2,⟨n1,n2,n3,n4,n5⟩,lh,by rw [List.length_set,I.len,ln],l24,ou,hn,cc,fun h' sn' H' k3 e3 e4 G=>⟨_,rfl,iteT ?_⟩,fun sn' H' k3 e3 e4 Fl=>⟨_,rfl,iteF ⟨sn',_,_,_,rfl,fun b o h1 h2 e=>k3 b o h1 h2 (kk b o h1 h2 e),e3,e4,I.fail hi0 ho Fl⟩⟩⟩
            refine ⟨_,rfl,_,rfl,_,rfl,ha,_,_,i,rfl,rfl,e3,ixn _ (by rw [List.length_map,G.len]; exact lhi),?_⟩
            rw [show (V.int (u : Int))=optV (some u) from rfl,← List.map_set]
            exact q1 _ sn' _ (fun b o h1 h2 e=>by rw [upd_ne h1]; exact k3 b o h1 h2 (kk b o h1 h2 e)) upd_same (by rw [upd_ne n5.symm]; exact e4) (I.over hi hnr hi0 ho G)
      · dsimp only
        rw [decide_eq_false c2]
        exact ⟨_,rfl,_,rfl,iteF (iteF ⟨sn1,_,_,_,rfl,kp,eh1,en1,I.pass (.inl fun z=>c2 (nrI z).2)⟩)⟩
    · refine (if_neg (by rw [decide_eq_false c1]; decide)).mpr ?_
      exact ⟨_,rfl,_,rfl,iteF (iteF ⟨sn1,_,_,_,rfl,kp,eh1,en1,I.pass (.inl fun z=>c1 (nrI z).1)⟩)⟩
  · rintro σ H1 ⟨sn1,o6,o7,o8,rfl,kp,eh1,en1,I⟩
    rw [lm] at I
    exact q2 _ _ kp eh1 en1 (GoI.fin (by rw [show ((ss.length : Int)).toNat=ss.length by omega] at I; exact I))
omit B in
theorem spGoes0 {vs : List V} {H : Hp} {Q : VK} {E : XK} (h : spGoes 0 vs H Q E) : False:=by
  obtain ⟨ua,sa,ha,na,us,ss,tm,h,u,sn,_,_,_,_,_,_,_,_,_,_,_,c,_⟩:=h
  exact absurd c (Nat.not_lt_zero _)
theorem ok_goes (F : Fun K "_law_goes_over" "_law_goes_over" s_goes_over f fd) (b1 : Binds K fd p_goes_over []) (k1 : PySem.W.keepIn K (.ref f)=true) (m1 : mg "_law_goes_over" = some (.ref f)) : ∀ n : Nat,FnOk P w K mg base CX0 n f fd p_goes_over (spGoes n)
  | 0=>⟨fun _ _ _ _ h=>(spGoes0 h).elim,fun _ _ _ _ _ _ _ _ _ _ _ _ _ h=>(spGoes0 h).elim⟩
  | n + 1=>ok_goes1 B ⟨f,fd,ok_goes F b1 k1 m1 n,b1,k1,m1⟩ F
end
end K11
namespace L2
open PySem PySem.Spec PySem.W PyProof.Rows
section
variable {X : Cx}
end
end L2
namespace L2
open PySem
variable {P : Program} {w : World} {K : PySem.W.Frag} {mg : Str→Option Value} {base : Heap}
end L2
namespace L2
open PySem PySem.Spec PyProof.Rows
section
variable {X : Cx}
end
end L2
namespace L2
open PySem
end L2
namespace L2
open PySem
theorem sumO_snoc (g : Int→Int) (k : Int) : ∀ os : List Int,sumO g (os ++ [k])=sumO g os + g k
  | []=>by show g k + 0=0 + g k; omega
  | i :: os=>by show g i + sumO g (os ++ [k])=g i + sumO g os + g k; rw [sumO_snoc g k os]; omega
theorem upto_next (n : Nat) : uptoN (n + 1)=uptoN n ++ [(n : Int)]:=by
  unfold uptoN
  rw [List.range_succ,List.map_append]; rfl
theorem slack_to (rs : List (List Int)) (ts : List Int) (v : Int→Int→Int) (f l : Int) : ∀ k,slackTo rs ts v k f l=v f l - sumO (fun i=>if f≤colAt rs 0 i∧colAt rs 0 i≤l then ts.getD i.toNat 0 else 0) (uptoN k)
  | 0=>by show v f l=v f l - 0; omega
  | k + 1=>by
    rw [upto_next,sumO_snoc]
    have ih:=slack_to rs ts v f l k
    show lessF (slackTo rs ts v k) _ _ f l=_
    unfold lessF
    have e : colAt rs 0 (k : Int)=(rs.getD k []).getD 0 0:=rfl
    have e2 : ((k : Nat) : Int).toNat=k:=by omega
    rw [ih,e,e2]
    split <;> omega
theorem slack_units (rs os : List (List Int)) (tm : Int) (ts : List Int) (f l : Int) : slackF rs os tm ts f l=goingOf os tm f l - unitsIn rs (fun i=>ts.getD i.toNat 0) f l:=slack_to rs ts (goingOf os tm) f l rs.length
theorem lack_of {rs os : List (List Int)} {tm : Int} {ts : List Int} (h : Fits rs os tm fun i=>ts.getD i.toNat 0) : NoLack rs os tm ts:=fun ds hds p hp=>by
  have:=h.2 ds hds p hp
  rw [slack_units]
  omega
end L2
namespace L2
open PySem
abbrev Few:=List (Int×List (List Int))
def fAt (few : Few) (k : Nat) : Int×List (List Int):=few.getD k (0,[])
def dayB (d : Int) (r : List Int) : Bool:=decide (V.int (r.getD 0 0)=V.int d)
def pwStep (W : Int→Int→Int) (few : Few) (last : Int) (b : Int×List (List Int)) (k : Nat) (first : Int) : Int×List (List Int):=
  if (fAt few k).1 + W first last < b.1 then ((fAt few k).1 + W first last,(fAt few k).2 ++ [[first,last]]) else b
def pwIn (W : Int→Int→Int) (few : Few) (last : Int) (ds : List Int) (b : Int×List (List Int)) : Nat→Int×List (List Int)
  | 0=>b
  | i + 1=>pwStep W few last (pwIn W few last ds b i) i (ds.getD i 0)
def pwStart (rs : List (List Int)) (few : Few) (ds : List Int) (k : Nat) : Int×List (List Int):=((fAt few k).1 + unitsOf (rs.filter (dayB (ds.getD k 0))),(fAt few k).2)
def pwAll (rs : List (List Int)) (W : Int→Int→Int) (ds : List Int) : Nat→Few
  | 0=>[(0,[])]
  | k + 1=>pwAll rs W ds k ++ [pwIn W (pwAll rs W ds k) (ds.getD k 0) ds (pwStart rs (pwAll rs W ds k) ds k) (k + 1)]
def pwTight (rs : List (List Int)) (W : Int→Int→Int) (ds : List Int) : List (List Int):=(fAt (pwAll rs W ds ds.length) ds.length).2
theorem pwAll_len (rs : List (List Int)) (W : Int→Int→Int) (ds : List Int) : ∀ k,(pwAll rs W ds k).length=k + 1
  | 0=>rfl
  | k + 1=>by show (_ ++ [_]).length=_; rw [List.length_append,pwAll_len rs W ds k]; rfl
theorem fAt_left {few : Few} {e : Int×List (List Int)} {j : Nat} (h : j < few.length) : fAt (few ++ [e]) j=fAt few j:=by
  unfold fAt; rw [List.getD_eq_getElem?_getD,List.getElem?_append_left h,← List.getD_eq_getElem?_getD]
theorem fAt_last {few : Few} {e : Int×List (List Int)} {j : Nat} (h : few.length=j) : fAt (few ++ [e]) j=e:=by
  subst h
  unfold fAt; rw [List.getD_eq_getElem?_getD,List.getElem?_append_right (Nat.le_refl _),Nat.sub_self]; rfl
theorem pwIn_indU {W : Int→Int→Int} {few : Few} {last : Int} {ds : List Int} {b : Int×List (List Int)} {n : Nat} (p : Int×List (List Int)→Prop) (h0 : p b) (hs : ∀ c j,j < n→p c→p (pwStep W few last c j (ds.getD j 0))) : ∀ i,i≤n→p (pwIn W few last ds b i)
  | 0,_=>h0
  | i + 1,h=>hs _ _ (by omega) (pwIn_indU p h0 hs i (by omega))
theorem rising_app : ∀ (ss : List (List Int)) (e f l : Int),risingB e ss=true→(∀ r∈ss,r.getD 1 0 < f)→e < f→f≤l→l≤999→risingB e (ss ++ [[f,l]])=true
  | [],e,f,l,_,_,h1,h2,h3=>by
    show (decide (e < f∧f≤l∧l≤999) && true)=true
    rw [decide_eq_true ⟨h1,h2,h3⟩]; rfl
  | r :: ss,e,f,l,h,hb,h1,h2,h3=>by
    rw [risingB,Bool.and_eq_true] at h
    show (decide _ && risingB (r.getD 1 0) (ss ++ [[f,l]]))=true
    rw [Bool.and_eq_true]
    exact ⟨h.1,rising_app ss _ f l h.2 (fun q hq=>hb q (.tail _ hq)) (hb r (.head _)) h2 h3⟩
theorem pw_rise (rs : List (List Int)) (W : Int→Int→Int) {ds : List Int} (hd : ds.Pairwise (· < ·)) (hb : ∀ d∈ds,1≤d∧d≤999) : ∀ k,k≤ds.length→∀ j,j≤k→(∀ r∈(fAt (pwAll rs W ds k) j).2,r.length=2∧0 < j∧r.getD 1 0≤ds.getD (j - 1) 0)∧risingB 0 (fAt (pwAll rs W ds k) j).2=true
  | 0,_,j,h=>by
    have : j=0:=by omega
    subst this
    exact ⟨fun r hr=>(by cases hr),rfl⟩
  | k + 1,hk,j,h=>by
    have ih:=pw_rise rs W hd hb k (by omega)
    have ll:=pwAll_len rs W ds k
    show (∀ r∈(fAt (pwAll rs W ds k ++ [_]) j).2,_)∧risingB 0 (fAt (pwAll rs W ds k ++ [_]) j).2=true
    have lt : ∀ (i m : Nat),i < m→m < ds.length→ds.getD i 0 < ds.getD m 0:=fun i m him hm=>by
      rw [List.getD_eq_getElem?_getD,List.getD_eq_getElem?_getD,List.getElem?_eq_getElem hm,List.getElem?_eq_getElem (by omega)]
      exact List.pairwise_iff_getElem.mp hd i m (by omega) hm him
    have bd : ∀ m,m < ds.length→1≤ds.getD m 0∧ds.getD m 0≤999:=fun m hm=>by
      rw [List.getD_eq_getElem?_getD,List.getElem?_eq_getElem hm]; exact hb _ (List.getElem_mem hm)
    by_cases z : j≤k
    · rw [fAt_left (by omega)]; exact ih j z
    · have : j=k + 1:=by omega
      subst this
      rw [fAt_last ll]
      refine pwIn_indU (n:=k + 1) (fun c=>(∀ r∈c.2,r.length=2∧0 < k + 1∧r.getD 1 0≤ds.getD (k + 1 - 1) 0)∧risingB 0 c.2=true) ?_ (fun c i hi hc=>?_) (k + 1) (Nat.le_refl _)
      · obtain ⟨a1,a2⟩:=ih k (Nat.le_refl _)
        refine ⟨fun r hr=>?_,a2⟩
        obtain ⟨b1,b2,b3⟩:=a1 r hr
        have:=lt (k - 1) k (by omega) (by omega)
        exact ⟨b1,by omega,by rw [Nat.add_sub_cancel]; omega⟩
      · unfold pwStep
        split
        · obtain ⟨a1,a2⟩:=ih i (by omega)
          have ik : ds.getD i 0≤ds.getD k 0:=by
            by_cases y : i=k
            · subst y; exact Int.le_refl _
            · exact Int.le_of_lt (lt i k (by omega) (by omega))
          refine ⟨fun r hr=>?_,?_⟩
          · rw [Nat.add_sub_cancel]
            rcases List.mem_append.mp hr with y | y
            · obtain ⟨b1,b2,b3⟩:=a1 r y
              have:=lt (i - 1) i (by omega) (by omega)
              exact ⟨b1,by omega,by omega⟩
            · rw [List.mem_singleton.mp y]
              exact ⟨rfl,by omega,Int.le_refl _⟩
          · refine rising_app _ 0 _ _ a2 (fun r hr=>?_) (by have:=bd i (by omega); omega) ik (bd k (by omega)).2
            obtain ⟨b1,b2,b3⟩:=a1 r hr
            have:=lt (i - 1) i (by omega) (by omega)
            omega
        · exact hc
def dearSum (rs : List (List Int)) (cs : List Int) (u : Int) : Int:=(((List.range rs.length).filter fun i=>dearB u (rs.getD i [])).map fun i=>cs.getD i 0).sum
theorem dear_next {rs : List (List Int)} {cs : List Int} {u v : Int} {i : Nat} {r : List Int} (er : rs[i]? = some r) (ev : cs[i]? = some v) : (((List.range (i + 1)).filter fun i=>dearB u (rs.getD i [])).map fun i=>cs.getD i 0)=(((List.range i).filter fun i=>dearB u (rs.getD i [])).map fun i=>cs.getD i 0) ++ if dearB u r=true then [v] else []:=by
  rw [List.range_succ,List.filter_append,List.map_append]
  congr 1
  have e1 : rs.getD i []=r:=by rw [List.getD_eq_getElem?_getD,er]; rfl
  have e2 : cs.getD i 0=v:=by rw [List.getD_eq_getElem?_getD,ev]; rfl
  rw [List.filter_cons,e1]
  split
  · show [cs.getD i 0]=[v]; rw [e2]
  · rfl
end L2
namespace HT
open PySem PySem.Spec PyProof.Rows
variable {prog : Program} {w : World} {A : Around} {E : Value→Shared→Prop} {s : Shared}
end HT
namespace L2
open PySem PySem.Spec PyProof.Rows
end L2
namespace L2
open PySem PySem.Spec PySem.W PyProof.Rows
end L2
namespace L2
open PySem
end L2
namespace L2
open PySem PySem.Spec PyProof.Rows
variable {X : Cx}
end L2
namespace L2
open PySem
theorem comp_rngF {D : Addr} {lo : Int} {n : Nat} {g : TG} {ti : TT} {te : TE} {σ₀ : St} {H1 : Hp} {R : Hp→Prop} (P : Nat→List V→Prop) (hD : H1 D=none) (hn : n≤1000) (h0 : P 0 [])
    (step : ∀ i zs H,i < n→Same H1 H→P i zs→∀ (K1 : V→Hp→Prop) (K2 : Hp→Prop),(∀ z H4,Same H H4→P (i + 1) (zs ++ [z])→K1 z H4)→(∀ H3,Same H H3→P (i + 1) zs→K2 H3)→
      g (.int (lo + i)) σ₀ H fun σ2 H2=>(∀ (k : Nat) v,σ₀[k]? = some (some v)→σ2[k]? = some (some v))∧ti σ2 H2 fun b H3=>if b=true then te σ2 H3 K1 else K2 H3)
    (fin : ∀ zs H,Same H1 H→P n zs→H D=some (.lst zs)→R H) :
    ∃ W : Nat→Nat→Hp→Prop,(∃ m,W 0 m (upd H1 D (.lst [])))∧∀ i m H,W i m H→((Itr lo n).stop i H∧R H)∨((Itr lo n).go i H∧∀ x H',(Itr lo n).yld i H x H'→g x σ₀ H' fun σ2 H2=>(∀ (k : Nat) v,σ₀[k]? = some (some v)→σ2[k]? = some (some v))∧ti σ2 H2 fun b H3=>
      if b=true then te σ2 H3 fun y H4=>∃ zs,H4 D=some (.lst zs)∧zs.length < sizeLine∧∃ m',m' < m∧W (i + 1) m' (upd H4 D (.lst (zs ++ [y]))) else ∃ m',m' < m∧W (i + 1) m' H3):=by
  refine ⟨fun i m H=>i + m=n∧Same H1 H∧∃ zs,H D=some (.lst zs)∧zs.length≤i∧P i zs,⟨n,by omega,same_new hD _,[],upd_same,Nat.le_refl _,h0⟩,?_⟩
  rintro i m H ⟨him,s1,zs,hz,hl,hp⟩
  by_cases hi : i < n
  · refine .inr ⟨hi,?_⟩
    rintro x H' ⟨rfl,rfl⟩
    exact step i zs _ hi s1 hp _ _ (fun y H4 s4 p4=>⟨zs,s4 _ _ hz,small1000 (by omega),m - 1,by omega,by omega,(s1.trans s4).young hD,zs ++ [y],upd_same,by rw [List.length_append,List.length_singleton]; omega,p4⟩) fun H3 s3 p3=>⟨m - 1,by omega,by omega,s1.trans s3,zs,s3 _ _ hz,by omega,p3⟩
  · have e : i=n:=by omega
    subst e
    exact .inl ⟨by show i≤i; exact Nat.le_refl _,fin zs H s1 hp hz⟩
theorem dear_go (rs : List (List Int)) (cs : List Int) (u : Int) : ∀ ns : List Nat,((ns.filter fun i=>dearB u (rs.getD i [])).map fun i=>cs.getD i 0).sum=sumO (fun i=>if u≤colAt rs 2 i then cs.getD i.toNat 0 else 0) (ns.map fun i=>((i : Nat) : Int))
  | []=>rfl
  | k :: ns=>by
    have ih:=dear_go rs cs u ns
    show _=(if u≤colAt rs 2 (k : Int) then cs.getD ((k : Nat) : Int).toNat 0 else 0) + sumO _ (ns.map fun i=>((i : Nat) : Int))
    rw [← ih,List.filter_cons]
    have e : dearB u (rs.getD k [])=decide (u≤colAt rs 2 (k : Int)):=rfl
    rw [e]
    by_cases c : u≤colAt rs 2 (k : Int)
    · rw [decide_eq_true c,if_pos rfl,if_pos c,List.map_cons,List.sum_cons]; rfl
    · rw [decide_eq_false c,if_neg (by decide),if_neg c,Int.zero_add]
theorem dearSum_sumO (rs : List (List Int)) (cs : List Int) (u : Int) : dearSum rs cs u=sumO (fun i=>if u≤colAt rs 2 i then cs.getD i.toNat 0 else 0) (uptoN rs.length):=dear_go rs cs u _
theorem best_weak {rs os : List (List Int)} {tm : Int} {cs : List Int} (h : BestIs rs os tm cs) (hr : ∀ r∈rs,0≤r.getD 1 0) (ho : ∀ r∈os,0≤r.getD 1 0) (u : Int) (ss : List (List Int)) : dearSum rs cs u≤comeTo rs os tm u ss:=by
  obtain ⟨ds,hds⟩:=days_exist rs
  rw [come_out,dearSum_sumO]
  exact (h.fits hr ho).weak hds ho u ss
end L2
namespace L2
open PySem
theorem pw_stable (rs : List (List Int)) (W : Int→Int→Int) (ds : List Int) {j : Nat} : ∀ {k : Nat},j≤k→fAt (pwAll rs W ds k) j=fAt (pwAll rs W ds j) j
  | 0,h=>by
    have : j=0:=by omega
    subst this; rfl
  | k + 1,h=>by
    by_cases z : j≤k
    · show fAt (pwAll rs W ds k ++ [_]) j=_
      rw [fAt_left (by rw [pwAll_len]; omega)]
      exact pw_stable rs W ds z
    · have : j=k + 1:=by omega
      subst this; rfl
theorem pwIn_le {W : Int→Int→Int} {few : Few} {last : Int} {ds : List Int} {b : Int×List (List Int)} : ∀ i,(pwIn W few last ds b i).1≤b.1∧∀ j,j < i→(pwIn W few last ds b i).1≤(fAt few j).1 + W (ds.getD j 0) last
  | 0=>⟨Int.le_refl _,fun j h=>by omega⟩
  | i + 1=>by
    obtain ⟨h1,h2⟩:=pwIn_le (W:=W) (few:=few) (last:=last) (ds:=ds) (b:=b) i
    show (pwStep W few last (pwIn W few last ds b i) i (ds.getD i 0)).1≤_∧∀ j,j < i + 1→(pwStep W few last (pwIn W few last ds b i) i (ds.getD i 0)).1≤_
    unfold pwStep
    split
    · rename_i c
      refine ⟨by show (fAt few i).1 + _≤_; omega,fun j hj=>?_⟩
      show (fAt few i).1 + W (ds.getD i 0) last≤_
      by_cases e : j=i
      · subst e; exact Int.le_refl _
      · have:=h2 j (by omega); omega
    · rename_i c
      refine ⟨h1,fun j hj=>?_⟩
      by_cases e : j=i
      · subst e; omega
      · exact h2 j (by omega)
theorem pw_next (rs : List (List Int)) (W : Int→Int→Int) (ds : List Int) (k : Nat) : fAt (pwAll rs W ds (k + 1)) (k + 1)=pwIn W (pwAll rs W ds k) (ds.getD k 0) ds (pwStart rs (pwAll rs W ds k) ds k) (k + 1):=fAt_last (pwAll_len rs W ds k)
theorem pw_day (rs : List (List Int)) (W : Int→Int→Int) (ds : List Int) (k : Nat) : (fAt (pwAll rs W ds (k + 1)) (k + 1)).1≤(fAt (pwAll rs W ds k) k).1 + unitsOf (rs.filter (dayB (ds.getD k 0))):=by
  rw [pw_next]
  exact (pwIn_le (k + 1)).1
theorem pw_str (rs : List (List Int)) (W : Int→Int→Int) (ds : List Int) {j k : Nat} (h : j≤k) : (fAt (pwAll rs W ds (k + 1)) (k + 1)).1≤(fAt (pwAll rs W ds j) j).1 + W (ds.getD j 0) (ds.getD k 0):=by
  rw [pw_next,← pw_stable rs W ds h]
  exact (pwIn_le (k + 1)).2 j (by omega)
def inK (ds : List Int) (k : Nat) (r : List Int) : Bool:=decide (r.getD 0 0∈ds.take k)
def costK (rs : List (List Int)) (W : Int→Int→Int) (ds : List Int) (k : Nat) (ss : List (List Int)) : Int:=(ss.map fun s=>W (s.getD 0 0) (s.getD 1 0)).sum + unitsOf (rs.filter fun r=>inK ds k r && !liesB (r.getD 0 0) ss)
theorem units_split (p q r : List Int→Bool) : ∀ rs : List (List Int),(∀ x∈rs,p x=(q x || r x)∧(q x && r x)=false)→unitsOf (rs.filter p)=unitsOf (rs.filter q) + unitsOf (rs.filter r)
  | [],_=>rfl
  | x :: rs,h=>by
    have ih:=units_split p q r rs fun y hy=>h y (.tail _ hy)
    obtain ⟨h1,h2⟩:=h x (.head _)
    unfold unitsOf at ih ⊢
    rw [List.filter_cons,List.filter_cons,List.filter_cons,h1]
    cases e1 : q x <;> cases e2 : r x
    · simp only [Bool.or_false,Bool.false_eq_true,if_false]; exact ih
    · simp only [Bool.false_or,if_true,Bool.false_eq_true,if_false,List.map_cons,List.sum_cons]; rw [ih]; omega
    · simp only [Bool.or_false,if_true,Bool.false_eq_true,if_false,List.map_cons,List.sum_cons]; rw [ih]; omega
    · rw [e1,e2] at h2; cases h2
theorem lies_app (d : Int) (ss : List (List Int)) (f l : Int) : liesB d (ss ++ [[f,l]])=(liesB d ss || decide (f≤d∧d≤l)):=by
  unfold liesB
  rw [List.any_append]
  congr 1
  show (withinB d [f,l] || false)=_
  rw [Bool.or_false]; rfl
theorem take_lt {ds : List Int} (hd : ds.Pairwise (· < ·)) {k : Nat} (hk : k < ds.length) {d : Int} : d∈ds.take k↔d∈ds∧d < ds.getD k 0:=by
  have ek : ds.getD k 0=ds[k]:=by rw [List.getD_eq_getElem?_getD,List.getElem?_eq_getElem hk]; rfl
  have pw:=List.pairwise_iff_getElem.mp hd
  rw [ek]
  constructor
  · intro h
    obtain ⟨i,hi,rfl⟩:=List.getElem_of_mem h
    rw [List.length_take] at hi
    rw [List.getElem_take]
    exact ⟨List.getElem_mem _,pw i k (by omega) hk (by omega)⟩
  · rintro ⟨h1,h2⟩
    obtain ⟨i,hi,rfl⟩:=List.getElem_of_mem h1
    have : i < k:=by
      by_cases c : i < k
      · exact c
      · by_cases e : i=k
        · subst e; omega
        · have:=pw k i hk hi (by omega); omega
    exact List.mem_take_iff_getElem.mpr ⟨i,by omega,rfl⟩
theorem tk_next {ds : List Int} {k : Nat} (hk : k < ds.length) {d : Int} : d∈ds.take (k + 1)↔d∈ds.take k∨d=ds.getD k 0:=by
  have ek : ds.getD k 0=ds[k]:=by rw [List.getD_eq_getElem?_getD,List.getElem?_eq_getElem hk]; rfl
  rw [List.take_succ_eq_append_getElem hk,List.mem_append,List.mem_singleton,ek]
theorem pw_cost (rs : List (List Int)) (W : Int→Int→Int) {ds : List Int} (hd : ds.Pairwise (· < ·)) (hb : ∀ d∈ds,1≤d∧d≤999) : ∀ k,k≤ds.length→∀ j,j≤k→(fAt (pwAll rs W ds j) j).1=costK rs W ds j (fAt (pwAll rs W ds j) j).2
  | 0,_,j,hj=>by
    have : j=0:=by omega
    subst this
    show (0 : Int)=0 + unitsOf (rs.filter _)
    rw [List.filter_eq_nil_iff.mpr fun r _=>by unfold inK; rw [List.take_zero]; simp]
    rfl
  | k + 1,hk,j,hj=>by
    have ih:=pw_cost rs W hd hb k (by omega)
    by_cases z : j≤k
    · exact ih j z
    have : j=k + 1:=by omega
    subst this
    have hk' : k < ds.length:=by omega
    rw [pw_next]
    refine pwIn_indU (n:=k + 1) (fun c=>c.1=costK rs W ds (k + 1) c.2) ?_ (fun c i hi hc=>?_) (k + 1) (Nat.le_refl _)
    · show (fAt (pwAll rs W ds k) k).1 + _=costK rs W ds (k + 1) (fAt (pwAll rs W ds k) k).2
      rw [ih k (Nat.le_refl _)]
      unfold costK
      have rise:=(pw_rise rs W hd hb k (by omega) k (Nat.le_refl _)).1
      rw [Int.add_assoc]
      congr 1
      refine (units_split _ _ _ rs fun x _=>?_).symm
      by_cases e : x.getD 0 0=ds.getD k 0
      · have a1 : inK ds (k + 1) x=true:=decide_eq_true ((tk_next hk').mpr (.inr e))
        have a2 : inK ds k x=false:=decide_eq_false fun y=>by have:=((take_lt hd hk').mp y).2; omega
        have a3 : dayB (ds.getD k 0) x=true:=decide_eq_true (congrArg V.int e)
        have a4 : liesB (x.getD 0 0) (fAt (pwAll rs W ds k) k).2=false:=by
          unfold liesB
          rw [List.any_eq_false]
          intro s hs
          obtain ⟨_,k0,le⟩:=rise s hs
          have lt : ds.getD (k - 1) 0 < ds.getD k 0:=by
            rw [List.getD_eq_getElem?_getD,List.getD_eq_getElem?_getD,List.getElem?_eq_getElem hk',List.getElem?_eq_getElem (by omega : k - 1 < ds.length)]
            exact List.pairwise_iff_getElem.mp hd (k - 1) k (by omega) hk' (by omega)
          unfold withinB
          rw [decide_eq_false (by omega)]
          decide
        rw [a1,a2,a3,a4]; exact ⟨rfl,rfl⟩
      · have a1 : inK ds (k + 1) x=inK ds k x:=by
          unfold inK
          by_cases y : x.getD 0 0∈ds.take k
          · rw [decide_eq_true y,decide_eq_true ((tk_next hk').mpr (.inl y))]
          · rw [decide_eq_false y,decide_eq_false fun w=>((tk_next hk').mp w).elim y e]
        have a3 : dayB (ds.getD k 0) x=false:=decide_eq_false fun y=>e (V.int.inj y)
        rw [a1,a3,Bool.or_false,Bool.and_false]; exact ⟨rfl,rfl⟩
    · unfold pwStep
      split
      · show (fAt (pwAll rs W ds k) i).1 + W (ds.getD i 0) (ds.getD k 0)=costK rs W ds (k + 1) ((fAt (pwAll rs W ds k) i).2 ++ [[ds.getD i 0,ds.getD k 0]])
        rw [pw_stable rs W ds (by omega : i≤k),ih i (by omega)]
        unfold costK
        rw [List.map_append,List.sum_append]
        have : rs.filter (fun r=>inK ds (k + 1) r && !liesB (r.getD 0 0) ((fAt (pwAll rs W ds i) i).2 ++ [[ds.getD i 0,ds.getD k 0]]))=rs.filter (fun r=>inK ds i r && !liesB (r.getD 0 0) (fAt (pwAll rs W ds i) i).2):=by
          refine List.filter_congr fun x _=>?_
          rw [lies_app]
          have hi' : i < ds.length:=by omega
          by_cases y : x.getD 0 0∈ds.take i
          · obtain ⟨y1,y2⟩:=(take_lt hd hi').mp y
            have a1 : inK ds i x=true:=decide_eq_true y
            have a2 : inK ds (k + 1) x=true:=decide_eq_true ((List.take_sublist_take_left (by omega : i≤k + 1)).subset y)
            rw [a1,a2,decide_eq_false (by omega),Bool.or_false]
          · have a1 : inK ds i x=false:=decide_eq_false y
            rw [a1,Bool.false_and]
            by_cases w : x.getD 0 0∈ds.take (k + 1)
            · have w1 : x.getD 0 0∈ds:=List.mem_of_mem_take w
              have w2 : x.getD 0 0≤ds.getD k 0:=by
                rcases (tk_next hk').mp w with v | v
                · have:=((take_lt hd hk').mp v).2; omega
                · omega
              have w3 : ds.getD i 0≤x.getD 0 0:=by
                by_cases v : ds.getD i 0≤x.getD 0 0
                · exact v
                · exact absurd ((take_lt hd hi').mpr ⟨w1,by omega⟩) y
              rw [decide_eq_true ⟨w3,w2⟩,Bool.or_true,Bool.not_true,Bool.and_false]
            · have a2 : inK ds (k + 1) x=false:=decide_eq_false w
              rw [a2,Bool.false_and]
        rw [this]
        show _=_ + (W (ds.getD i 0) (ds.getD k 0) + 0) + _
        omega
      · exact hc
end L2
namespace L2
open PySem
def dearOn (rs : List (List Int)) (u : Int) (c : Int→Int) (p : Int→Bool) : Int:=sumO (fun i=>if u≤colAt rs 2 i∧p (colAt rs 0 i)=true then c i else 0) (uptoN rs.length)
theorem dearOn_le {rs : List (List Int)} {u : Int} {c : Int→Int} {p q r : Int→Bool} (hc : ∀ i∈uptoN rs.length,0≤c i) (h : ∀ i∈uptoN rs.length,u≤colAt rs 2 i→(p (colAt rs 0 i)=true→r (colAt rs 0 i)=true)∧(q (colAt rs 0 i)=true→r (colAt rs 0 i)=true)∧¬ (p (colAt rs 0 i)=true∧q (colAt rs 0 i)=true)) :
    dearOn rs u c p + dearOn rs u c q≤dearOn rs u c r:=by
  unfold dearOn
  rw [← sumO_add]
  refine sumO_le fun i hi=>?_
  have h0:=hc i hi
  by_cases d : u≤colAt rs 2 i
  · obtain ⟨h1,h2,h3⟩:=h i hi d
    by_cases a : p (colAt rs 0 i)=true
    · rw [if_pos ⟨d,a⟩,if_neg fun z=>h3 ⟨a,z.2⟩,if_pos ⟨d,h1 a⟩]; omega
    · rw [if_neg fun z=>a z.2]
      by_cases b : q (colAt rs 0 i)=true
      · rw [if_pos ⟨d,b⟩,if_pos ⟨d,h2 b⟩]; omega
      · rw [if_neg fun z=>b z.2]
        split <;> omega
  · rw [if_neg fun z=>d z.1,if_neg fun z=>d z.1,if_neg fun z=>d z.1]; decide
theorem dearOn_nn {rs : List (List Int)} {u : Int} {c : Int→Int} (hc : ∀ i∈uptoN rs.length,0≤c i) (p : Int→Bool) : 0≤dearOn rs u c p:=by
  have:=dearOn_le (u:=u) (p:=fun _=>false) (q:=fun _=>false) (r:=p) hc fun i _ _=>⟨fun z=>(by cases z),fun z=>(by cases z),fun z=>(by cases z.1)⟩
  have z : dearOn rs u c (fun _=>false)=0:=by
    unfold dearOn
    rw [sumO_congr (g':=fun _=>0) fun i _=>if_neg fun z=>by cases z.2]
    have : ∀ os : List Int,sumO (fun _=>0) os=0:=fun os=>by
      induction os with
      | nil=>rfl
      | cons i os ih=>show 0 + sumO _ os=0; rw [ih]; rfl
    exact this _
  omega
def befB (x d : Int) : Bool:=decide (d < x)
def onB (f l d : Int) : Bool:=decide (f≤d∧d≤l)
structure Dual (rs : List (List Int)) (u : Int) (c : Int→Int) (W : Int→Int→Int) (ks : List (Int×Int)) (ds : List Int) : Prop where
  clos : Clos ks
  modu : Modu fun f l=>W f l - dearOn rs u c (onB f l)
  nn : ∀ p∈ks,0≤W p.1 p.2 - dearOn rs u c (onB p.1 p.2)
  mono : ∀ f l f' l',f≤f'→l'≤l→W f' l'≤W f l
  c0 : ∀ i∈uptoN rs.length,0≤c i
  full : ∀ i∈uptoN rs.length,u≤colAt rs 2 i→c i=colAt rs 1 i∨∃ T∈ks,T.1≤colAt rs 0 i∧colAt rs 0 i≤T.2∧W T.1 T.2 - dearOn rs u c (onB T.1 T.2)=0
  days : ∀ i∈uptoN rs.length,u≤colAt rs 2 i→colAt rs 0 i∈ds
  dsd : ds.Pairwise (· < ·)
theorem units_on {rs : List (List Int)} {u : Int} (e : Int) : unitsOf ((rs.filter (dearB u)).filter (dayB e))=dearOn rs u (fun i=>colAt rs 1 i) (onB e e):=by
  unfold unitsOf dearOn
  rw [List.filter_filter,sum_filter]
  have:=sumO_rows (fun r=>if u≤r.getD 2 0∧onB e e (r.getD 0 0)=true then r.getD 1 0 else 0) rs
  refine Eq.trans ?_ this.symm
  congr 1
  refine List.map_congr_left fun r _=>?_
  unfold dearB dayB onB
  by_cases c : u≤r.getD 2 0
  · by_cases d : r.getD 0 0=e
    · rw [decide_eq_true c,decide_eq_true (congrArg V.int d),if_pos (show (true && true)=true from rfl),if_pos ⟨c,decide_eq_true (by omega)⟩]
    · rw [decide_eq_false (fun z=>d (V.int.inj z)),Bool.false_and,if_neg (by decide),if_neg fun z=>d (by have:=of_decide_eq_true z.2; omega)]
  · rw [decide_eq_false c,Bool.and_false,if_neg (by decide),if_neg fun z=>c z.1]
theorem first_ge {ds : List Int} (hd : ds.Pairwise (· < ·)) {M : Int} : ∀ k,k < ds.length→M≤ds.getD k 0→∃ j,j≤k∧M≤ds.getD j 0∧∀ i,i < j→ds.getD i 0 < M
  | 0,_,h=>⟨0,Nat.le_refl _,h,fun i hi=>by omega⟩
  | k + 1,hk,h=>by
    by_cases c : M≤ds.getD k 0
    · obtain ⟨j,a1,a2,a3⟩:=first_ge hd k (by omega) c
      exact ⟨j,by omega,a2,a3⟩
    · refine ⟨k + 1,Nat.le_refl _,h,fun i hi=>?_⟩
      by_cases e : i=k
      · subst e; omega
      · have : ds.getD i 0 < ds.getD k 0:=by
          rw [List.getD_eq_getElem?_getD,List.getD_eq_getElem?_getD,List.getElem?_eq_getElem (by omega : i < ds.length),List.getElem?_eq_getElem (by omega : k < ds.length)]
          exact List.pairwise_iff_getElem.mp hd i k (by omega) (by omega) (by omega)
        omega
theorem Dual.cut {rs : List (List Int)} {u : Int} {c : Int→Int} {W : Int→Int→Int} {ks : List (Int×Int)} {ds : List Int} (D : Dual rs u c W ks ds) : ∀ (k : Nat),k≤ds.length→∀ j,j≤k→∀ X : Int,(∀ d∈ds,d < X↔d∈ds.take j)→(∀ T∈ks,W T.1 T.2 - dearOn rs u c (onB T.1 T.2)=0→T.1 < X→T.2 < X)→
    (fAt (pwAll (rs.filter (dearB u)) W ds j) j).1≤dearOn rs u c (befB X)
  | 0,_,j,hj,X,_,_=>by
    have : j=0:=by omega
    subst this
    exact dearOn_nn D.c0 _
  | k + 1,hk,j,hj,X,hX,hT=>by
    have ih:=D.cut k (by omega)
    by_cases z : j≤k
    · exact ih j z X hX hT
    have : j=k + 1:=by omega
    subst this
    have hk' : k < ds.length:=by omega
    have em : ds.getD k 0∈ds.take (k + 1):=(tk_next hk').mpr (.inr rfl)
    have e1 : ds.getD k 0∈ds:=List.mem_of_mem_take em
    have eX : ds.getD k 0 < X:=(hX _ e1).mpr em
    generalize ee : ds.getD k 0=e at *
    by_cases cv : ∃ T∈ks,(W T.1 T.2 - dearOn rs u c (onB T.1 T.2)=0)∧T.1≤e∧e≤T.2
    · -- the tight one that begins first
      obtain ⟨M,m1,m2,m3,m4,least⟩ : ∃ M∈ks,(W M.1 M.2 - dearOn rs u c (onB M.1 M.2)=0)∧M.1≤e∧e≤M.2∧∀ T∈ks,(W T.1 T.2 - dearOn rs u c (onB T.1 T.2)=0)→T.1≤e→e≤T.2→M.1≤T.1:=by
        obtain ⟨T0,a1,a2,a3,a4⟩:=cv
        have ne : (ks.filter fun T=>decide ((W T.1 T.2 - dearOn rs u c (onB T.1 T.2)=0)∧T.1≤e∧e≤T.2)).map (·.1)≠[]:=fun y=>by
          have : T0.1∈(ks.filter fun T=>decide ((W T.1 T.2 - dearOn rs u c (onB T.1 T.2)=0)∧T.1≤e∧e≤T.2)).map (·.1):=List.mem_map.mpr ⟨T0,List.mem_filter.mpr ⟨a1,decide_eq_true ⟨a2,a3,a4⟩⟩,rfl⟩
          rw [y] at this; cases this
        obtain ⟨⟨f,hf,h1⟩,_⟩:=least_of _ ne
        obtain ⟨M,hM,rfl⟩:=List.mem_map.mp hf
        obtain ⟨b1,b2⟩:=List.mem_filter.mp hM
        obtain ⟨b3,b4,b5⟩:=of_decide_eq_true b2
        exact ⟨M,b1,b3,b4,b5,fun T t1 t2 t3 t4=>h1 _ (List.mem_map.mpr ⟨T,List.mem_filter.mpr ⟨t1,decide_eq_true ⟨t2,t3,t4⟩⟩,rfl⟩)⟩
      have m5:=hT M m1 m2 (by omega)
      obtain ⟨j,hj1,hj2,hj3⟩ : ∃ j,j≤k∧M.1≤ds.getD j 0∧∀ d∈ds,d < M.1↔d∈ds.take j:=by
        obtain ⟨j,a1,a2,a3⟩:=first_ge (M:=M.1) D.dsd k hk' (by omega)
        refine ⟨j,a1,a2,fun d hd=>⟨fun y=>(take_lt D.dsd (by omega)).mpr ⟨hd,by omega⟩,fun y=>?_⟩⟩
        obtain ⟨i,hi,rfl⟩:=List.getElem_of_mem y
        rw [List.length_take] at hi
        have:=a3 i (by omega)
        rw [List.getD_eq_getElem?_getD,List.getElem?_eq_getElem (by omega)] at this
        rw [List.getElem_take]
        exact this
      have ps:=pw_str (rs.filter (dearB u)) W ds hj1
      rw [ee] at ps
      have i1:=ih j hj1 M.1 hj3 (fun T t1 t2 t3=>by
        by_cases y : T.2 < M.1
        · exact y
        · exfalso
          have c12:=D.clos.1 T t1
          have cM:=D.clos.1 M m1
          obtain ⟨q1,q2⟩:=D.clos.2 T t1 M m1 (by omega) (by omega)
          have md:=D.modu T.1 T.2 M.1 M.2 c12 cM (by omega) (by omega)
          have n1:=D.nn _ q1
          have n2:=D.nn _ q2
          simp only at md n1 n2
          have:=least _ q1 (by show W (min T.1 M.1) (max T.2 M.2) - dearOn rs u c (onB (min T.1 M.1) (max T.2 M.2))=0; omega) (by show min T.1 M.1≤e; omega) (by show e≤max T.2 M.2; omega)
          have : M.1≤min T.1 M.1:=this
          omega)
      have mo:=D.mono M.1 M.2 (ds.getD j 0) e hj2 m4
      have le:=dearOn_le (u:=u) (p:=befB M.1) (q:=onB M.1 M.2) (r:=befB X) D.c0 fun i _ _=>⟨fun y=>decide_eq_true (by have:=of_decide_eq_true y; omega),fun y=>decide_eq_true (by have:=of_decide_eq_true y; omega),fun y=>by
        have a:=of_decide_eq_true y.1
        have b:=of_decide_eq_true y.2
        omega⟩
      omega
    · have pd:=pw_day (rs.filter (dearB u)) W ds k
      rw [ee,units_on] at pd
      have i1:=ih k (Nat.le_refl _) e (fun d hd=>by rw [← ee,take_lt D.dsd hk']; exact ⟨fun y=>⟨hd,y⟩,fun y=>y.2⟩) (fun T hT1 hT2 hT3=>by
        by_cases y : T.2 < e
        · exact y
        · exact absurd ⟨T,hT1,hT2,by omega,by omega⟩ cv)
      have fu : dearOn rs u (fun i=>colAt rs 1 i) (onB e e)=dearOn rs u c (onB e e):=by
        unfold dearOn
        refine sumO_congr fun i hi=>?_
        by_cases a : u≤colAt rs 2 i∧onB e e (colAt rs 0 i)=true
        · rw [if_pos a,if_pos a]
          have b:=of_decide_eq_true a.2
          rcases D.full i hi a.1 with y | ⟨T,t1,t2,t3,t4⟩
          · exact y.symm
          · exact absurd ⟨T,t1,t4,by omega,by omega⟩ cv
        · rw [if_neg a,if_neg a]
      rw [fu] at pd
      have le:=dearOn_le (u:=u) (p:=befB e) (q:=onB e e) (r:=befB X) D.c0 fun i _ _=>⟨fun y=>decide_eq_true (by have:=of_decide_eq_true y; omega),fun y=>decide_eq_true (by have:=of_decide_eq_true y; omega),fun y=>by
        have a:=of_decide_eq_true y.1
        have b:=of_decide_eq_true y.2
        omega⟩
      omega
end L2
namespace L2
open PySem
end L2
namespace L2
open PySem
end L2
namespace L2
open PySem
theorem zero_go {ks : List (Int×Int)} {rs : List (List Int)} (hc : ∀ i,0≤colAt rs 1 i) {T : Int×Int} (hT : T∈ks) : ∀ (b : List Int) (v : Int→Int→Int) (cs : List Int),nN ks v→v T.1 T.2=0→b.Nodup→(∀ i∈b,0≤i∧i.toNat < cs.length)→
    (bestGo ks rs b v cs).1 T.1 T.2=0∧∀ j∈b,T.1≤colAt rs 0 j→colAt rs 0 j≤T.2→(bestGo ks rs b v cs).2.getD j.toNat 0=0
  | [],v,cs,_,h0,_,_=>⟨h0,fun j hj=>by cases hj⟩
  | i :: b,v,cs,hn,h0,nd,hi=>by
    obtain ⟨n1,n2⟩:=List.nodup_cons.mp nd
    obtain ⟨a1,a2,a3⟩:=step_in (rs:=rs) (i:=i) hn (hc i)
    have fr:=freeF_is v (colAt rs 0 i) (colAt rs 1 i) ks
    have z0 : T.1≤colAt rs 0 i→colAt rs 0 i≤T.2→stepN ks rs v i=0:=fun t1 t2=>by
      have:=fr.2.1 T hT t1 t2
      have e : stepN ks rs v i=freeF v (colAt rs 0 i) (colAt rs 1 i) ks:=rfl
      omega
    have h0' : lessF v (colAt rs 0 i) (stepN ks rs v i) T.1 T.2=0:=by
      unfold lessF
      split
      · rename_i c; rw [z0 c.1 c.2]; omega
      · exact h0
    obtain ⟨b1,b2⟩:=zero_go hc hT b _ (cs.set i.toNat (stepN ks rs v i)) a3 h0' n2 fun j hj=>by rw [List.length_set]; exact hi j (.tail _ hj)
    refine ⟨b1,fun j hj t1 t2=>?_⟩
    rcases List.mem_cons.mp hj with rfl | hj
    · show (bestGo ks rs b _ _).2.getD j.toNat 0=0
      have jl:=hi j (.head _)
      rw [List.getD_eq_getElem?_getD,bestGo_keep b _ _ fun k hk e=>n1 (by
        have:=hi k (.tail _ hk)
        rw [show j=k by omega]; exact hk),List.getElem?_set_self jl.2]
      exact z0 t1 t2
    · exact b2 j hj t1 t2
theorem modu_dear {rs : List (List Int)} {u : Int} {c : Int→Int} : ∀ (L : List Int) (v : Int→Int→Int),Modu v→Modu fun f l=>v f l - sumO (fun i=>if u≤colAt rs 2 i∧onB f l (colAt rs 0 i)=true then c i else 0) L
  | [],v,h=>by
    have : (fun f l=>v f l - sumO (fun i=>if u≤colAt rs 2 i∧onB f l (colAt rs 0 i)=true then c i else 0) [])=v:=by
      funext f l; show v f l - 0=v f l; omega
    rw [this]; exact h
  | i :: L,v,h=>by
    have:=modu_dear (rs:=rs) (u:=u) (c:=c) L (lessF v (colAt rs 0 i) (if u≤colAt rs 2 i then c i else 0)) (h.less _ _)
    have e : (fun f l=>v f l - sumO (fun i=>if u≤colAt rs 2 i∧onB f l (colAt rs 0 i)=true then c i else 0) (i :: L))=fun f l=>lessF v (colAt rs 0 i) (if u≤colAt rs 2 i then c i else 0) f l - sumO (fun i=>if u≤colAt rs 2 i∧onB f l (colAt rs 0 i)=true then c i else 0) L:=by
      funext f l
      show v f l - ((if u≤colAt rs 2 i∧onB f l (colAt rs 0 i)=true then c i else 0) + _)=_
      unfold lessF
      by_cases a : f≤colAt rs 0 i∧colAt rs 0 i≤l
      · have b : onB f l (colAt rs 0 i)=true:=decide_eq_true a
        rw [if_pos a,b]
        by_cases d : u≤colAt rs 2 i
        · rw [if_pos ⟨d,rfl⟩,if_pos d]; omega
        · rw [if_neg fun z=>d z.1,if_neg d]; omega
      · have b : onB f l (colAt rs 0 i)=false:=decide_eq_false a
        rw [if_neg a,b,if_neg fun z=>by cases z.2]; omega
    rw [e]; exact this
theorem BestIs.dual {rs os : List (List Int)} {tm : Int} {cs : List Int} (h : BestIs rs os tm cs) (t0 : 0≤tm) (hr : ∀ r∈rs,0≤r.getD 1 0) (ho : ∀ r∈os,0≤r.getD 1 0) (u : Int) {ds : List Int} (hds : DaysOf (rs.filter (dearB u)) ds) :
    ∃ ks,Dual rs u (fun i=>cs.getD i.toNat 0) (goingOf os tm) ks ds∧∀ T∈ks,∃ r∈rs,r.getD 0 0=T.2:=by
  have fit:=h.fits hr ho
  have hc:=col_nn hr
  obtain ⟨da,ord,hda,hord,ecs⟩:=h
  have mem : ∀ i∈ord,0≤i∧i < (rs.length : Int):=fun i hi=>uptoN_mem.mp (hord.1.mem_iff.mp hi)
  have nd : ord.Nodup:=(hord.1.nodup_iff).mpr (upto_nodup _)
  have hi0 : ∀ i∈ord,0≤i∧i.toNat < (List.replicate rs.length (0 : Int)).length:=fun i hi=>by
    have:=mem i hi
    rw [List.length_replicate]; omega
  have sl:=bestGo_slack (rs:=rs) (os:=os) (tm:=tm) (ks:=strOf da) ord (goingOf os tm) (List.replicate rs.length 0) (fun f l=>slack_zero.symm) nd (fun i hi=>⟨(hi0 i hi).1,(hi0 i hi).2,by
    rw [List.getD_eq_getElem?_getD,List.getElem?_replicate]
    split <;> rfl⟩) List.length_replicate
  rw [← ecs] at sl
  have nn0 : nN (strOf da) (goingOf os tm):=fun p _=>going_nn ho _ _ _
  have le : ∀ f l,dearOn rs u (fun i=>cs.getD i.toNat 0) (onB f l)≤unitsIn rs (fun i=>cs.getD i.toNat 0) f l:=fun f l=>by
    unfold dearOn unitsIn
    refine sumO_le fun i hi=>?_
    have:=(fit.1 i (uptoN_mem.mp hi).1 (uptoN_mem.mp hi).2).1
    by_cases a : f≤colAt rs 0 i∧colAt rs 0 i≤l
    · rw [if_pos a]; split <;> omega
    · rw [if_neg a,if_neg fun z=>a (of_decide_eq_true z.2)]; exact Int.le_refl _
  refine ⟨strOf da,⟨clos_str da,modu_dear (uptoN rs.length) _ (modu_going t0 os),fun p hp=>?_,fun f l f' l' h1 h2=>going_in h1 h2 os ho,fun i hi=>(fit.1 i (uptoN_mem.mp hi).1 (uptoN_mem.mp hi).2).1,fun i hi hd=>?_,fun i hi hd=>?_,hds.1⟩,fun T hT=>(hda.2.1 _).mp (mem_str.mp (show (T.1,T.2)∈strOf da from hT)).2.1⟩
  · have a:=fit.2 da hda p hp
    have b:=le p.1 p.2
    omega
  · obtain ⟨a,b,rfl⟩:=List.append_of_mem (hord.1.mem_iff.mpr hi)
    have nda:=List.nodup_append.mp nd
    have ndb:=List.nodup_cons.mp nda.2.1
    have la:=bestGo_len (strOf da) rs a (goingOf os tm) (List.replicate rs.length 0)
    rw [List.length_replicate] at la
    have sn:=(bestGo_in (rs:=rs) (ks:=strOf da) a (goingOf os tm) (List.replicate rs.length 0) (fun j hj=>⟨(mem j (List.mem_append_left _ hj)).1,hc j⟩) nn0 (fun j w e=>by
      have:=List.mem_of_getElem? e
      rw [(List.mem_replicate.mp this).2]
      exact ⟨Int.le_refl _,hc _⟩)).1
    rw [bestGo_append] at ecs
    have sl' : ∀ f l,(bestGo (strOf da) rs (i :: b) (bestGo (strOf da) rs a (goingOf os tm) (List.replicate rs.length 0)).1 (bestGo (strOf da) rs a (goingOf os tm) (List.replicate rs.length 0)).2).1 f l=slackF rs os tm cs f l:=fun f l=>by
      rw [← bestGo_append]; exact sl f l
    generalize bestGo (strOf da) rs a (goingOf os tm) (List.replicate rs.length 0)=s at *
    have il:=hi0 i (List.mem_append_right _ (.head _))
    rw [List.length_replicate] at il
    have ci : cs.getD i.toNat 0=stepN (strOf da) rs s.1 i:=by
      rw [ecs]
      show (bestGo (strOf da) rs b _ _).2.getD i.toNat 0=_
      rw [List.getD_eq_getElem?_getD,bestGo_keep b _ _ fun k hk e=>ndb.1 (by
        have:=mem k (List.mem_append_right _ (.tail _ hk))
        rw [show i=k by omega]; exact hk),List.getElem?_set_self (by omega)]
      rfl
    obtain ⟨f1,f2,f3⟩:=freeF_is s.1 (colAt rs 0 i) (colAt rs 1 i) (strOf da)
    rcases f3 with z | ⟨T,hT,t1,t2,z⟩
    · exact .inl (by show cs.getD i.toNat 0=_; rw [ci]; exact z)
    · obtain ⟨_,_,a3⟩:=step_in (rs:=rs) (i:=i) sn (hc i)
      have v0 : lessF s.1 (colAt rs 0 i) (stepN (strOf da) rs s.1 i) T.1 T.2=0:=by
        unfold lessF
        rw [if_pos ⟨t1,t2⟩]
        have : stepN (strOf da) rs s.1 i=s.1 T.1 T.2:=z
        omega
      obtain ⟨b1,b2⟩:=zero_go (rs:=rs) hc hT b _ (s.2.set i.toNat (stepN (strOf da) rs s.1 i)) a3 v0 ndb.2 fun j hj=>by
        have:=mem j (List.mem_append_right _ (.tail _ hj))
        rw [List.length_set]; omega
      have tight : goingOf os tm T.1 T.2 - unitsIn rs (fun i=>cs.getD i.toNat 0) T.1 T.2=0:=by
        rw [← slack_units,← sl' T.1 T.2]; exact b1
      have eq : dearOn rs u (fun i=>cs.getD i.toNat 0) (onB T.1 T.2)=unitsIn rs (fun i=>cs.getD i.toNat 0) T.1 T.2:=by
        unfold dearOn unitsIn
        refine sumO_congr fun j hj=>?_
        by_cases y : T.1≤colAt rs 0 j∧colAt rs 0 j≤T.2
        · rw [if_pos y]
          by_cases d : u≤colAt rs 2 j
          · rw [if_pos ⟨d,decide_eq_true y⟩]
          · rw [if_neg fun w=>d w.1]
            have jo:=hord.1.mem_iff.mpr hj
            rcases List.mem_append.mp jo with w | w
            · have pw:=(List.pairwise_append.mp hord.2).2.2 j w i (.head _)
              have pw':=mt lex_keyD.mpr (Bool.eq_false_iff.mp pw)
              exfalso
              generalize colAt rs 2 i=x at *
              generalize colAt rs 2 j=x' at *
              omega
            · rcases List.mem_cons.mp w with e | w
              · subst e; exact absurd hd d
              · have:=b2 j w y.1 y.2
                show 0=cs.getD j.toNat 0
                rw [ecs]
                exact this.symm
        · rw [if_neg y,if_neg fun w=>y (of_decide_eq_true w.2)]
      exact .inr ⟨T,hT,t1,t2,by rw [eq]; exact tight⟩
  · obtain ⟨i0,i1⟩:=uptoN_mem.mp hi
    have hl : i.toNat < rs.length:=by omega
    refine (hds.2.1 _).mpr ⟨rs[i.toNat],List.mem_filter.mpr ⟨List.getElem_mem hl,?_⟩,?_⟩
    · show decide (u≤_)=true
      refine decide_eq_true ?_
      have e : colAt rs 2 i=(rs[i.toNat]).getD 2 0:=by unfold colAt; rw [List.getD_eq_getElem?_getD (l:=rs),List.getElem?_eq_getElem hl]; rfl
      rw [← e]; exact hd
    · show _=colAt rs 0 i
      unfold colAt; rw [List.getD_eq_getElem?_getD (l:=rs),List.getElem?_eq_getElem hl]; rfl
theorem tight_least {rs os : List (List Int)} {tm : Int} {cs : List Int} (h : BestIs rs os tm cs) (t0 : 0≤tm) (hr : ∀ r∈rs,0≤r.getD 1 0) (ho : ∀ r∈os,0≤r.getD 1 0) (hb : ∀ r∈rs,1≤r.getD 0 0∧r.getD 0 0≤999) (u : Int) {ds : List Int} (hds : DaysOf (rs.filter (dearB u)) ds) :
    comeTo rs os tm u (pwTight (rs.filter (dearB u)) (goingOf os tm) ds)=dearSum rs cs u:=by
  have lo:=best_weak h hr ho u (pwTight (rs.filter (dearB u)) (goingOf os tm) ds)
  obtain ⟨ks,D,kd⟩:=h.dual t0 hr ho u hds
  have db : ∀ d∈ds,1≤d∧d≤999:=fun d hd=>by
    obtain ⟨r,h1,rfl⟩:=(hds.2.1 d).mp hd
    exact hb r (List.mem_filter.mp h1).1
  have up:=D.cut ds.length (Nat.le_refl _) ds.length (Nat.le_refl _) 100000 (fun d hd=>⟨fun _=>by rw [List.take_length]; exact hd,fun _=>by have:=db d hd; omega⟩) fun T hT _ _=>by
    obtain ⟨r,h1,e⟩:=kd T hT
    have:=hb r h1
    omega
  rw [pw_cost (rs.filter (dearB u)) (goingOf os tm) hds.1 db ds.length (Nat.le_refl _) ds.length (Nat.le_refl _)] at up
  have e1 : dearOn rs u (fun i=>cs.getD i.toNat 0) (befB 100000)=dearSum rs cs u:=by
    rw [dearSum_sumO]
    unfold dearOn
    refine sumO_congr fun i hi=>?_
    obtain ⟨i0,i1⟩:=uptoN_mem.mp hi
    have hl : i.toNat < rs.length:=by omega
    have e : colAt rs 0 i=(rs[i.toNat]).getD 0 0:=by unfold colAt; rw [List.getD_eq_getElem?_getD (l:=rs),List.getElem?_eq_getElem hl]; rfl
    have hd:=hb _ (List.getElem_mem hl)
    have b : befB 100000 (colAt rs 0 i)=true:=decide_eq_true (by rw [e]; omega)
    by_cases d : u≤colAt rs 2 i
    · rw [if_pos ⟨d,b⟩,if_pos d]
    · rw [if_neg fun z=>d z.1,if_neg d]
  have e2 : costK (rs.filter (dearB u)) (goingOf os tm) ds ds.length (pwTight (rs.filter (dearB u)) (goingOf os tm) ds)=comeTo rs os tm u (pwTight (rs.filter (dearB u)) (goingOf os tm) ds):=by
    unfold costK comeTo goneOf
    have : (rs.filter (dearB u)).filter (fun r=>inK ds ds.length r && !liesB (r.getD 0 0) (pwTight (rs.filter (dearB u)) (goingOf os tm) ds))=(rs.filter (dearB u)).filter (fun r=>!liesB (r.getD 0 0) (pwTight (rs.filter (dearB u)) (goingOf os tm) ds)):=by
      refine List.filter_congr fun r hr'=>?_
      have : inK ds ds.length r=true:=decide_eq_true (by rw [List.take_length]; exact (hds.2.1 _).mpr ⟨r,hr',rfl⟩)
      rw [this,Bool.true_and]
    rw [this]; omega
  have up' : costK (rs.filter (dearB u)) (goingOf os tm) ds ds.length (pwTight (rs.filter (dearB u)) (goingOf os tm) ds)≤dearOn rs u (fun i=>cs.getD i.toNat 0) (befB 100000):=up
  omega
end L2
namespace L2
def rowOf (L : List (Int×Int)) : List Int:=L.flatMap fun p=>List.replicate p.2.toNat p.1
theorem SA_sum (A : Int→Bool) : ∀ L : List (Int×Int),SA A L=(L.map fun p=>if A p.1=true then p.2 else 0).sum
  | []=>rfl
  | p :: r=>by rw [List.map_cons,List.sum_cons,← SA_sum A r]; rfl
theorem SA_perm {A : Int→Bool} {a b : List (Int×Int)} (h : a.Perm b) : SA A a=SA A b:=by
  rw [SA_sum,SA_sum]; exact perm_sum (h.map _)
theorem by_day (rs : List (List Int)) : ∃ is : List Int,is.Perm (uptoN rs.length)∧is.Pairwise fun i j=>colAt rs 0 i≤colAt rs 0 j:=by
  refine ⟨(uptoN rs.length).mergeSort fun i j=>decide (colAt rs 0 i≤colAt rs 0 j),List.mergeSort_perm _ _,?_⟩
  refine (List.pairwise_mergeSort (le:=fun i j=>decide (colAt rs 0 i≤colAt rs 0 j)) (fun a b c h1 h2=>?_) (fun a b=>?_) _).imp fun h=>of_decide_eq_true h
  · have:=of_decide_eq_true h1
    have:=of_decide_eq_true h2
    exact decide_eq_true (by omega)
  · by_cases c : colAt rs 0 a≤colAt rs 0 b
    · rw [decide_eq_true c]; rfl
    · rw [decide_eq_true (show colAt rs 0 b≤colAt rs 0 a by omega),Bool.or_true]
theorem lots_pos {rs : List (List Int)} {ts is : List Int} (h : ∀ i∈is,0≤ts.getD i.toNat 0) : Pos (lotsBy rs ts is):=fun p hp=>by
  obtain ⟨i,hi,rfl⟩:=List.mem_map.mp hp
  exact h i hi
theorem outs_pos {os : List (List Int)} {js : List Int} (ho : ∀ r∈os,0≤r.getD 1 0) : Pos (outsBy os js):=fun p hp=>by
  obtain ⟨j,hj,rfl⟩:=List.mem_map.mp hp
  exact col_nn ho j
theorem hall_any {A : Int→Bool} {tm : Int} {rs os : List (List Int)} {ts : List Int} (ht : 0≤tm) (ho : ∀ r∈os,0≤r.getD 1 0) (hts : ∀ i∈uptoN rs.length,0≤ts.getD i.toNat 0) (h : NoLack rs os tm ts) :
    SA A (lotsBy rs ts (uptoN rs.length))≤SA (nearB A tm) (outsBy os (uptoN os.length)):=by
  obtain ⟨ds,hds⟩:=days_exist rs
  obtain ⟨is,pi,ui⟩:=by_day rs
  obtain ⟨js,pj,uj⟩:=by_day os
  have k:=(slack_hall hds pi pj ho).mp (h ds hds)
  have e1 : SA A (lotsBy rs ts (uptoN rs.length))=SA A (lotsBy rs ts is):=SA_perm (pi.map _).symm
  have e2 : SA (nearB A tm) (outsBy os (uptoN os.length))=SA (nearB A tm) (outsBy os js):=SA_perm (pj.map _).symm
  rw [e1,e2]
  exact hall_cover ht (outs_pos ho) (List.pairwise_map.mpr uj) (lots_pos fun i hi=>hts i (pi.mem_iff.mp hi)) (List.pairwise_map.mpr ui) k
theorem SA_on (f l : Int) : ∀ L : List (Int×Int),SA (onB f l) L=S L f l
  | []=>rfl
  | p :: r=>by
    show (if onB f l p.1=true then p.2 else 0) + SA (onB f l) r=(if f≤p.1∧p.1≤l then p.2 else 0) + S r f l
    rw [SA_on f l r]
    unfold onB
    by_cases c : f≤p.1∧p.1≤l
    · rw [if_pos c,if_pos (decide_eq_true c)]
    · rw [if_neg c,if_neg (by rw [decide_eq_false c]; decide)]
section
variable {tm : Int} {rs os : List (List Int)} {ts us ss : List Int} {h : List (Option Nat)} {ok fs : List Nat}
theorem Sat.cnt_le (S : Sat (NrD tm us ss) ss.length us.length h ok fs) (q : Int→Bool) : (ok.countP fun u=>q (us.getD u 0))≤us.countP q:=by
  rw [count_range,← S.all.countP_eq,List.countP_append]
  exact Nat.le_add_right _ _
theorem outs_on (ho : ∀ r∈os,0≤r.getD 1 0) (es : ss=rowOf (outsBy os (uptoN os.length))) (f l : Int) : ((ss.countP (onB f (l + tm)) : Nat) : Int)=goingOf os tm f l:=by
  rw [es]
  unfold rowOf
  rw [← SA_units _ _ (outs_pos ho),SA_on,S_going (.refl _)]
theorem Sat.on_le (S : Sat (NrD tm us ss) ss.length us.length h ok fs) (ho : ∀ r∈os,0≤r.getD 1 0) (es : ss=rowOf (outsBy os (uptoN os.length))) (f l : Int) : ((ok.countP fun u=>onB f l (us.getD u 0) : Nat) : Int)≤goingOf os tm f l:=by
  rw [← outs_on ho es f l]
  refine Int.ofNat_le.mpr (S.weak (onB f l) (onB f (l + tm)) fun d e hd h1 h2=>?_)
  have:=of_decide_eq_true hd
  exact decide_eq_true (by omega)
theorem any_sum {α : Type} (g : α→Int) : ∀ (sr : List (List Int)) (ok : List α),ok.countP (fun v=>liesB (g v) sr)≤(sr.map fun r=>ok.countP fun v=>onB (r.getD 0 0) (r.getD 1 0) (g v)).sum
  | [],ok=>by
    rw [List.countP_eq_zero.mpr fun v _=>by show ¬ (false=true); decide]
    exact Nat.zero_le _
  | r :: sr,ok=>by
    have k:=any_sum g sr ok
    rw [List.map_cons,List.sum_cons]
    have : ok.countP (fun v=>liesB (g v) (r :: sr))≤(ok.countP fun v=>onB (r.getD 0 0) (r.getD 1 0) (g v)) + ok.countP fun v=>liesB (g v) sr:=by
      clear k
      induction ok with
      | nil=>exact Nat.le_refl _
      | cons v ok ih=>
        rw [List.countP_cons,List.countP_cons,List.countP_cons]
        have e : liesB (g v) (r :: sr)=(onB (r.getD 0 0) (r.getD 1 0) (g v) || liesB (g v) sr):=rfl
        rw [e]
        generalize onB (r.getD 0 0) (r.getD 1 0) (g v)=x
        generalize liesB (g v) sr=y
        cases x <;> cases y <;> simp only [Bool.or_self,Bool.or_true,Bool.or_false,if_true,if_false,Bool.false_eq_true] <;> omega
    omega
theorem SA_parts (A : Int→Bool) : ∀ L : List (Int×Int),SA A L + SA (fun d=>!A d) L=(L.map (·.2)).sum
  | []=>rfl
  | p :: r=>by
    have:=SA_parts A r
    rw [List.map_cons,List.sum_cons,← this]
    show (if A p.1=true then p.2 else 0) + SA A r + ((if (!A p.1)=true then p.2 else 0) + SA (fun d=>!A d) r)=_
    cases A p.1 <;> simp <;> omega
theorem Sat.most {cs : List Int} {u : Int} (S : Sat (NrD tm us ss) ss.length us.length h ok fs) (hb : BestIs rs os tm cs) (ht : 0≤tm) (hr : ∀ r∈rs,0≤r.getD 1 0) (ho : ∀ r∈os,0≤r.getD 1 0) (hd : ∀ r∈rs,1≤r.getD 0 0∧r.getD 0 0≤999)
    (hts : ∀ i∈uptoN rs.length,ts.getD i.toNat 0=if u≤colAt rs 2 i then colAt rs 1 i else 0) (eu : us=rowOf (lotsBy rs ts (uptoN rs.length))) (es : ss=rowOf (outsBy os (uptoN os.length))) :
    ((ok.length : Nat) : Int)=dearSum rs cs u:=by
  have nts : ∀ i∈uptoN rs.length,0≤ts.getD i.toNat 0:=fun i hi=>by
    rw [hts i hi]
    have:=col_nn hr i
    split <;> omega
  have fit:=hb.fits hr ho
  have fit1 : ∀ i,0≤i→i < (rs.length : Int)→0≤cs.getD i.toNat 0∧cs.getD i.toNat 0≤colAt rs 1 i:=fit.1
  have i1 : dearSum rs cs u≤ok.length:=by
    obtain ⟨A,hA⟩:=S.cover
    have e4 : (ss.countP (nearB A tm)) + (us.countP fun d=>!A d)≤ok.length:=hA
    obtain ⟨ys,ey⟩ : ∃ ys : List Int,ys=(uptoN rs.length).map fun i=>if u≤colAt rs 2 i then cs.getD i.toNat 0 else 0:=⟨_,rfl⟩
    have gy : ∀ i,0≤i→i < (rs.length : Int)→ys.getD i.toNat 0=if u≤colAt rs 2 i then cs.getD i.toNat 0 else 0:=fun i h0 h1=>by
      rw [ey,List.getD_eq_getElem?_getD,List.getElem?_map]
      unfold uptoN
      rw [List.getElem?_map,List.getElem?_range (by omega)]
      show (if u≤colAt rs 2 ((i.toNat : Nat) : Int) then cs.getD ((i.toNat : Nat) : Int).toNat 0 else 0)=_
      rw [show ((i.toNat : Nat) : Int)=i by omega]
    have fy : Fits rs os tm fun i=>ys.getD i.toNat 0:=by
      refine ⟨fun i h0 h1=>?_,fun ds hds p hp=>Int.le_trans (sumO_le fun i hi=>?_) (fit.2 ds hds p hp)⟩
      · have:=fit1 i h0 h1
        have:=col_nn hr i
        show 0≤ys.getD i.toNat 0∧ys.getD i.toNat 0≤_
        rw [gy i h0 h1]
        split <;> omega
      · obtain ⟨h0,h1⟩:=uptoN_mem.mp hi
        have:=fit1 i h0 h1
        show (if _ then ys.getD i.toNat 0 else 0)≤(if _ then cs.getD i.toNat 0 else 0)
        rw [gy i h0 h1]
        split <;> (try split) <;> omega
    have nys : ∀ i∈uptoN rs.length,0≤ys.getD i.toNat 0:=fun i hi=>by
      obtain ⟨h0,h1⟩:=uptoN_mem.mp hi
      exact (fy.1 i h0 h1).1
    have k:=hall_any (A:=A) ht ho nys (lack_of fy)
    rw [SA_units (nearB A tm) _ (outs_pos ho)] at k
    have k' : SA A (lotsBy rs ys (uptoN rs.length))≤((ss.countP (nearB A tm) : Nat) : Int):=by rw [es]; exact k
    have m : SA (fun d=>!A d) (lotsBy rs ys (uptoN rs.length))≤((us.countP fun d=>!A d : Nat) : Int):=by
      rw [eu]
      unfold rowOf
      rw [← SA_units _ _ (lots_pos nts),SA_sum,SA_sum]
      unfold lotsBy
      rw [List.map_map,List.map_map,← sumO_map,← sumO_map]
      refine sumO_le fun i hi=>?_
      obtain ⟨h0,h1⟩:=uptoN_mem.mp hi
      show (if (!A (colAt rs 0 i))=true then ys.getD i.toNat 0 else 0)≤if (!A (colAt rs 0 i))=true then ts.getD i.toNat 0 else 0
      have:=fit1 i h0 h1
      rw [gy i h0 h1,hts i hi]
      split <;> (try split) <;> omega
    have sm:=SA_parts A (lotsBy rs ys (uptoN rs.length))
    have tot : ((lotsBy rs ys (uptoN rs.length)).map (·.2)).sum=dearSum rs cs u:=by
      rw [dearSum_sumO]
      unfold lotsBy
      rw [List.map_map,← sumO_map]
      exact sumO_congr fun i hi=>by
        obtain ⟨h0,h1⟩:=uptoN_mem.mp hi
        exact gy i h0 h1
    omega
  have i2 : (ok.length : Int)≤dearSum rs cs u:=by
    obtain ⟨ds,hds⟩:=days_exist (rs.filter (dearB u))
    have le:=tight_least hb ht hr ho hd u hds
    generalize pwTight (rs.filter (dearB u)) (goingOf os tm) ds=sr at le
    rw [← le,come_out]
    have l1:=List.length_eq_countP_add_countP (l:=ok) fun v=>liesB (us.getD v 0) sr
    have a1:=any_sum (fun v : Nat=>us.getD v 0) sr ok
    have a2 : (((sr.map fun r=>ok.countP fun v=>onB (r.getD 0 0) (r.getD 1 0) (us.getD v 0)).sum : Nat) : Int)≤goneOf os tm sr:=by
      unfold goneOf
      clear le a1 l1
      induction sr with
      | nil=>exact Int.le_refl _
      | cons r sr ih=>
        rw [List.map_cons,List.map_cons,List.sum_cons,List.sum_cons]
        have:=S.on_le ho es (r.getD 0 0) (r.getD 1 0)
        omega
    have a3:=S.cnt_le fun d=>!liesB d sr
    have a4 : ((us.countP fun d=>!liesB d sr : Nat) : Int)=outOf rs u (fun i=>colAt rs 1 i) sr:=by
      rw [eu]
      unfold rowOf
      rw [← SA_units _ _ (lots_pos nts),SA_sum]
      unfold lotsBy outOf
      rw [List.map_map,← sumO_map]
      refine sumO_congr fun i hi=>?_
      show (if (!liesB (colAt rs 0 i) sr)=true then ts.getD i.toNat 0 else 0)=_
      rw [hts i hi]
      cases liesB (colAt rs 0 i) sr <;> by_cases c : u≤colAt rs 2 i <;> simp [c]
    have a5 : (ok.countP fun v=>decide ¬ liesB (us.getD v 0) sr=true)=ok.countP fun v=>!liesB (us.getD v 0) sr:=List.countP_congr fun v _=>by cases liesB (us.getD v 0) sr <;> simp
    omega
  omega
end
end L2
namespace K11
open PySem L2
abbrev s_seated : Stmt:=top 44
abbrev n_seated : List Str:=["_law_units","_law_seats","_law_term","_law_holders","_law_found","_law_unit","_law_seen"]
abbrev p_seated : List Str:=["_law_units","_law_seats","_law_term"]
theorem sc_seated : FnScope n_seated p_seated (defScope s_seated):=⟨rfl,rfl,rfl,by decide +kernel,rfl,by decide +kernel,by decide +kernel⟩
abbrev s_unit_row : Stmt:=top 42
abbrev n_unit_row : List Str:=["_law_lots","_law_taken","_law_found","_law_at"]
abbrev p_unit_row : List Str:=["_law_lots","_law_taken"]
theorem sc_unit_row : FnScope n_unit_row p_unit_row (defScope s_unit_row):=⟨rfl,rfl,rfl,by decide +kernel,rfl,by decide +kernel,by decide +kernel⟩
abbrev s_seat_row : Stmt:=top 41
abbrev n_seat_row : List Str:=["_law_outs","_law_found","_law_day","_law_count"]
abbrev p_seat_row : List Str:=["_law_outs"]
theorem sc_seat_row : FnScope n_seat_row p_seat_row (defScope s_seat_row):=⟨rfl,rfl,rfl,by decide +kernel,rfl,by decide +kernel,by decide +kernel⟩
def spSeated : Sp:=fun vs H Q _=>∃ (ua sa : Addr) (us ss : List Int) (tm : Int),vs=[.ref ua,.ref sa,.int tm]∧IntsAt H ua us∧IntsAt H sa ss∧us.length≤900∧ss.length≤24∧
  ∀ h os fs H',Same H H'→Sat (NrD tm us ss) ss.length us.length h os fs→Q (.int os.length) H'
def spUnitRow : Sp:=fun vs H Q _=>∃ (a t : Addr) (rs : List (List Int)) (ts : List Int),vs=[.ref a,.ref t]∧Rows H a rs∧(∀ r∈rs,r.length=3)∧IntsAt H t ts∧ts.length=rs.length∧(∀ u∈ts,0≤u∧u≤10)∧rs.length≤31∧
  ∀ l H',H l=none→Same H H'→IntsAt H' l (rowOf (lotsBy rs ts (uptoN rs.length)))→Q (.ref l) H'
def spSeatRow : Sp:=fun vs H Q _=>∃ (b : Addr) (os : List (List Int)),vs=[.ref b]∧Rows H b os∧(∀ r∈os,r.length=2)∧(∀ r∈os,0≤r.getD 1 0∧r.getD 1 0≤10)∧os.length≤31∧
  ∀ l H',H l=none→Same H H'→IntsAt H' l (rowOf (outsBy os (uptoN os.length)))→Q (.ref l) H'
theorem rep_one {α : Type} (x : α) : ∀ k : Nat,(List.replicate k [x]).flatten=List.replicate k x
  | 0=>rfl
  | k + 1=>by rw [List.replicate_succ,List.flatten_cons,rep_one x k,List.replicate_succ]; rfl
theorem rowOf_snoc (L : List (Int×Int)) (p : Int×Int) : rowOf (L ++ [p])=rowOf L ++ List.replicate p.2.toNat p.1:=by
  unfold rowOf; rw [List.flatMap_append,List.flatMap_cons,List.flatMap_nil,List.append_nil]
theorem rowOf_len {m : Nat} : ∀ {L : List (Int×Int)},(∀ p∈L,p.2.toNat≤m)→(rowOf L).length≤L.length * m
  | [],_=>Nat.zero_le _
  | p :: L,h=>by
    have k:=rowOf_len (m:=m) (L:=L) fun q hq=>h q (.tail _ hq)
    have:=h p (.head _)
    unfold rowOf at *
    rw [List.flatMap_cons,List.length_append,List.length_replicate,List.length_cons,Nat.succ_mul]
    omega
section
variable {P : Program} {w : World} {K : PySem.W.Frag} {mg : Str→Option Value} {base : Heap} {f : Addr} {fd : FuncData} (B : Bn mg)
include B
theorem ok_seated (G_goes_over : Cal P w K mg base CX0 25 "_law_goes_over" p_goes_over (spGoes 25)) (F : Fun K "_law_seated" "_law_seated" s_seated f fd) : FnOk P w K mg base CX0 26 f fd p_seated spSeated:=by
  refine F.ok sc_seated (fun vs H Q E h=>?_) (fun cdv A outer s H vs Q E hr h=>?_)
  · obtain ⟨ua,sa,us,ss,tm,rfl,_⟩:=h; rfl
  obtain ⟨ua,sa,us,ss,tm,rfl,eu,es,lu,ls,q⟩:=h
  refine ⟨_,(pss_cons (ps_set (i:=3) sc_seated.nd rfl (Or.inl rfl) (pe_op op_rep (pe_lst (pa_c pe_non pa_nil)) (pe_callB call_len_seq rfl B.len PySem.boot_len (pa_c (pv 1) pa_nil))))
    (pss_cons (ps_set (i:=4) sc_seated.nd rfl (Or.inl rfl) pe_int)
    (pss_cons (ps_for PassesOwn.never rfl (pi_range1 rfl B.range (pa_c (pe_callB call_len_seq rfl B.len PySem.boot_len (pa_c (pv 0) pa_nil)) pa_nil)) (pg_name (i:=5) sc_seated.nd rfl (Or.inl rfl)) (pss_cons (ps_set (i:=6) sc_seated.nd rfl (Or.inl rfl) (pe_op op_rep (pe_lst (pa_c pe_bl pa_nil)) (pe_callB call_len_seq rfl B.len PySem.boot_len (pa_c (pv 1) pa_nil))))
      (pss_one (ps_set (i:=4) sc_seated.nd rfl (Or.inl rfl) (pe_op op_add (pv 4) (pe_callTy call_int1 rfl B.int PyProof.Rows.boot_int (pa_c (pe_cal G_goes_over hr rfl pass0 (pa_c (pv 0) (pa_c (pv 1) (pa_c (pv 2) (pa_c (pv 3) (pa_c (pv 5) (pa_c (pv 6) pa_nil))))))) pa_nil)))))))
    (pss_one (ps_ret (pv 4)))))),?_⟩
  have lm : ∀ xs : List Int,(xs.map V.int).length=xs.length:=fun xs=>List.length_map _
  refine ⟨by show 1≤sizeLine; decide,fun p0 hp0=>?_⟩
  have u0:=same_new (H:=H) hp0 (.lst [.non])
  refine ⟨_,rfl,sa,_,rfl,.inl (SqL.of (u0 _ _ es)),p0,_,[.non],rfl,rfl,upd_same,by omega,by rw [lm]; omega,by show 1 * _≤sizeLine; exact Nat.le_of_lt (small1000 (by rw [lm]; omega)),fun ha hha=>?_⟩
  rw [rep_one,show ((ss.map V.int).length : Int).toNat=ss.length by rw [lm]; omega]
  have u1:=u0.trans (same_new hha (.lst (List.replicate ss.length V.non)))
  have eh : L2.upd (L2.upd H p0 (.lst [.non])) ha (.lst (List.replicate ss.length V.non)) ha=some (.lst ((List.replicate ss.length (none : Option Nat)).map optV)):=by rw [upd_same,List.map_replicate]; rfl
  have h0 : H ha=none:=u0.free hha
  generalize L2.upd (L2.upd H p0 (.lst [.non])) ha (.lst (List.replicate ss.length V.non))=H1 at *
  have nua : ua≠ha:=ne_of_none eu h0
  have nsa : sa≠ha:=ne_of_none es h0
  refine ⟨_,rfl,ua,_,rfl,.inl (SqL.of (u1 _ _ eu)),_,rfl,by omega,by rw [lm]; omega,?_⟩
  refine for_range (fun i σ H'=>∃ h os fs o5 o6,σ=[some (.ref ua),some (.ref sa),some (.int tm),some (.ref ha),some (.int (os.length : Nat)),o5,o6]∧(∀ b o,b≠ha→H1 b=some o→H' b=some o)∧H' ha=some (.lst (h.map optV))∧Sat (NrD tm us ss) ss.length i h os fs) ⟨_,[],[],_,_,rfl,fun b o _ e=>e,eh,Sat.zero⟩ ?_ ?_
  · rintro i σ H2 hi ⟨h,os,fs,o5,o6,rfl,k2,eh2,S⟩
    rw [lm] at hi
    have hi : i < us.length:=by omega
    have eu2:=k2 _ _ nua (u1 _ _ eu)
    have es2:=k2 _ _ nsa (u1 _ _ es)
    refine ⟨by show 1≤sizeLine; decide,fun p1 hp1=>?_⟩
    have v1:=same_new (H:=H2) hp1 (.lst [.bl false])
    refine ⟨_,rfl,sa,_,rfl,.inl (SqL.of (v1 _ _ es2)),p1,_,[.bl false],rfl,rfl,upd_same,by omega,by rw [lm]; omega,by show 1 * _≤sizeLine; exact Nat.le_of_lt (small1000 (by rw [lm]; omega)),fun na hna=>?_⟩
    rw [rep_one,show ((ss.map V.int).length : Int).toNat=ss.length by rw [lm]; omega]
    have v2:=v1.trans (same_new hna (.lst (List.replicate ss.length (V.bl false))))
    have en : L2.upd (L2.upd H2 p1 (.lst [.bl false])) na (.lst (List.replicate ss.length (V.bl false))) na=some (.lst ((List.replicate ss.length false).map V.bl)):=by rw [upd_same,List.map_replicate]
    have nna : ∀ b o,H2 b=some o→b≠na:=fun b o e=>ne_of_none (v1 _ _ e) hna
    generalize L2.upd (L2.upd H2 p1 (.lst [.bl false])) na (.lst (List.replicate ss.length (V.bl false)))=H3 at *
    have kk : ∀ {H4 : Hp},(∀ b o,b≠ha→b≠na→H3 b=some o→H4 b=some o)→∀ b o,b≠ha→H1 b=some o→H4 b=some o:=fun k b o hb e=>k b o hb (nna b o (k2 b o hb e)) (v2 _ _ (k2 b o hb e))
    refine ⟨_,rfl,_,rfl,_,rfl,_,rfl,_,rfl,_,rfl,_,rfl,ua,sa,ha,na,us,ss,tm,h,i,List.replicate ss.length false,by rw [Int.zero_add]; rfl,v2 _ _ eu2,v2 _ _ es2,v2 _ _ eh2,en,⟨nua,nna _ _ eu2,nsa,nna _ _ es2,nna _ _ eh2⟩,S.len,List.length_replicate,by omega,hi,S.near,?_,fun h' sn' H4 k4 e4 e5 G=>?_,fun sn' H4 k4 e4 e5 Fl=>?_⟩
    · rw [List.countP_replicate]; show ss.length < 25; omega
    · exact .inr ⟨true,rfl,_,_,rfl,rfl,h',i :: os,fs,_,_,rfl,kk k4,e4,S.seat G⟩
    · exact .inr ⟨false,rfl,_,_,rfl,rfl,h,os,i :: fs,_,_,rfl,kk k4,e4,S.miss Fl⟩
  · rintro σ H2 ⟨h,os,fs,o5,o6,rfl,k2,eh2,S⟩
    rw [lm,show ((us.length : Int)).toNat=us.length by omega] at S
    exact ⟨_,rfl,q h os fs H2 (fun b o e=>k2 b o (ne_of_none e h0) (u1 _ _ e)) S⟩
theorem ok_unit_row (F : Fun K "_law_unit_row" "_law_unit_row" s_unit_row f fd) : FnOk P w K mg base CX0 1 f fd p_unit_row spUnitRow:=by
  refine F.ok sc_unit_row (fun vs H Q E h=>?_) (fun cdv A outer s H vs Q E hr h=>?_)
  · obtain ⟨a,t,rs,ts,rfl,_⟩:=h; rfl
  obtain ⟨a,t,rs,ts,rfl,hR,h3,eT,lt,ht,ln,q⟩:=h
  refine ⟨_,(pss_cons (ps_set (i:=2) sc_unit_row.nd rfl (Or.inl rfl) (pe_lst pa_nil))
    (pss_cons (ps_for PassesOwn.never rfl (pi_range1 rfl B.range (pa_c (pe_callB call_len_seq rfl B.len PySem.boot_len (pa_c (pv 0) pa_nil)) pa_nil)) (pg_name (i:=3) sc_unit_row.nd rfl (Or.inl rfl)) (pss_one (ps_set (i:=2) sc_unit_row.nd rfl (Or.inl rfl) (pe_op op_cat (pv 2) (pe_op op_rep (pe_lst (pa_c (pe_ix ix_tup (pe_ix ix_list (pv 0) (pv 3) (fun _ _=>rfl)) pe_int (fun _ _=>rfl)) pa_nil)) (pe_ix ix_list (pv 1) (pv 3) (fun _ _=>rfl)))))))
    (pss_one (ps_ret (pv 2))))),?_⟩
  obtain ⟨xs,ex,hx⟩:=hR.tups
  have lx:=hx.1
  refine ⟨by show 0≤sizeLine; decide,fun p0 hp0=>?_⟩
  have u0:=same_new (H:=H) hp0 (.lst [])
  have e0 : L2.upd H p0 (.lst []) p0=some (.lst ((rowOf (lotsBy rs ts (uptoN 0))).map V.int)):=upd_same
  generalize L2.upd H p0 (.lst [])=H0 at *
  refine ⟨_,rfl,a,_,rfl,.inl (SqL.of (u0 _ _ ex)),_,rfl,by omega,by omega,?_⟩
  refine for_range (fun i σ H'=>∃ fl o3,σ=[some (.ref a),some (.ref t),some (.ref fl),o3]∧Same H H'∧H fl=none∧IntsAt H' fl (rowOf (lotsBy rs ts (uptoN i)))) ⟨p0,_,rfl,u0,hp0,e0⟩ ?_ ?_
  · rintro i σ H1 hi ⟨fl,o3,rfl,s1,hfl,e1⟩
    have hi : i < rs.length:=by omega
    have hi' : i < xs.length:=by omega
    obtain ⟨pr,r,epr,er,hpr⟩:=(hx.same s1).at (List.getElem?_eq_getElem hi')
    obtain ⟨d,c,u,rfl⟩:=len3 (h3 r (List.mem_of_getElem? er))
    have eat : atI xs (0 + (i : Int))=some (.ref pr):=atI_some (by omega) (by rw [show (0 + (i : Int)).toNat=i by omega,List.getElem?_eq_getElem hi',epr])
    have it : i < ts.length:=by omega
    have eav : atI (ts.map V.int) (0 + (i : Int))=some (.int ts[i]):=atI_ints (by omega) it
    have tb:=ht _ (List.getElem_mem it)
    refine ⟨_,rfl,_,rfl,_,rfl,a,_,_,_,rfl,rfl,SqL.of (s1 _ _ ex),eat,pr,_,_,.int d,rfl,rfl,SqT.of hpr,rfl,by show 1≤sizeLine; decide,fun p1 hp1=>?_⟩
    have u1:=same_new (H:=H1) hp1 (.lst [.int d])
    refine ⟨_,rfl,_,rfl,t,_,_,_,rfl,rfl,SqL.of (u1 _ _ (s1 _ _ eT)),eav,p1,_,[.int d],rfl,rfl,upd_same,by omega,by omega,by show 1 * _≤sizeLine; exact Nat.le_of_lt (small1000 (by omega)),fun p2 hp2=>?_⟩
    rw [rep_one]
    have u2:=u1.trans (same_new hp2 (.lst (List.replicate ts[i].toNat (V.int d))))
    have lr:=rowOf_len (m:=10) (L:=lotsBy rs ts (uptoN i)) fun p hp=>by
      obtain ⟨j,hj,rfl⟩:=List.mem_map.mp hp
      show (ts.getD j.toNat 0).toNat≤10
      rw [List.getD_eq_getElem?_getD]
      cases e : ts[j.toNat]? with
      | none=>exact Nat.zero_le _
      | some z=>have:=ht z (List.mem_of_getElem? e); show z.toNat≤10; omega
    have ll : (lotsBy rs ts (uptoN i)).length=i:=by unfold lotsBy uptoN; rw [List.length_map,List.length_map,List.length_range]
    refine ⟨fl,p2,_,_,rfl,rfl,u2 _ _ e1,upd_same,Nat.le_of_lt (small1000 (by rw [List.length_map,List.length_replicate]; omega)),fun p3 hp3=>?_⟩
    have u3:=u2.trans (same_new hp3 (.lst ((rowOf (lotsBy rs ts (uptoN i))).map V.int ++ List.replicate ts[i].toNat (V.int d))))
    refine ⟨p3,_,rfl,s1.trans u3,(s1.trans u2).free hp3,?_⟩
    show L2.upd _ _ _ _=_
    rw [upd_same,upto_next]
    unfold lotsBy
    rw [List.map_append]
    show _=some (HO.lst ((rowOf (lotsBy rs ts (uptoN i) ++ [(colAt rs 0 (i : Int),ts.getD (i : Int).toNat 0)])).map V.int))
    rw [rowOf_snoc,List.map_append,List.map_replicate]
    have c1 : colAt rs 0 (i : Int)=d:=by unfold colAt; rw [List.getD_eq_getElem?_getD (l:=rs),show (i : Int).toNat=i by omega,er]; rfl
    have c2 : ts.getD (i : Int).toNat 0=ts[i]:=by rw [List.getD_eq_getElem?_getD,show (i : Int).toNat=i by omega,List.getElem?_eq_getElem it]; rfl
    rw [c1,c2]
    rfl
  · rintro σ H1 ⟨fl,o3,rfl,s1,hfl,e1⟩
    rw [show ((xs.length : Int)).toNat=rs.length by omega] at e1
    exact ⟨_,rfl,q fl H1 hfl s1 e1⟩
theorem ok_seat_row (F : Fun K "_law_seat_row" "_law_seat_row" s_seat_row f fd) : FnOk P w K mg base CX0 1 f fd p_seat_row spSeatRow:=by
  refine F.ok sc_seat_row (fun vs H Q E h=>?_) (fun cdv A outer s H vs Q E hr h=>?_)
  · obtain ⟨b,os,rfl,_⟩:=h; rfl
  obtain ⟨b,os,rfl,hR,h2,hc,ln,q⟩:=h
  refine ⟨_,(pss_cons (ps_set (i:=1) sc_seat_row.nd rfl (Or.inl rfl) (pe_lst pa_nil))
    (pss_cons (ps_for PassesOwn.never rfl (pi_list (pv 0)) (pg_tup rfl (pgs_cons (pg_name (i:=2) sc_seat_row.nd rfl (Or.inl rfl)) (pgs_cons (pg_name (i:=3) sc_seat_row.nd rfl (Or.inl rfl)) pgs_nil))) (pss_one (ps_set (i:=1) sc_seat_row.nd rfl (Or.inl rfl) (pe_op op_cat (pv 1) (pe_op op_rep (pe_lst (pa_c (pv 2) pa_nil)) (pv 3))))))
    (pss_one (ps_ret (pv 1))))),?_⟩
  obtain ⟨xs,ex,hx⟩:=hR.tups
  have lx:=hx.1
  refine ⟨by show 0≤sizeLine; decide,fun p0 hp0=>?_⟩
  have u0:=same_new (H:=H) hp0 (.lst [])
  have e0 : L2.upd H p0 (.lst []) p0=some (.lst ((rowOf ((os.take 0).map fun r=>(r.getD 0 0,r.getD 1 0))).map V.int)):=upd_same
  generalize L2.upd H p0 (.lst [])=H0 at *
  refine ⟨_,rfl,b,rfl,⟨_,SqL.of (u0 _ _ ex)⟩,?_⟩
  refine for_list (xs:=xs) (fun i σ H'=>∃ fl o2 o3,σ=[some (.ref b),some (.ref fl),o2,o3]∧Same H H'∧H fl=none∧IntsAt H' fl (rowOf ((os.take i).map fun r=>(r.getD 0 0,r.getD 1 0)))) ⟨p0,_,_,rfl,u0,hp0,e0⟩ ?_ ?_ ?_
  · rintro k σ H' _ ⟨_,_,_,rfl,sm,_⟩
    exact SqL.of (sm _ _ ex)
  · rintro i x σ H1 ei ⟨fl,o2,o3,rfl,s1,hfl,e1⟩
    obtain ⟨pr,r,rfl,er,hpr⟩:=(hx.same s1).at ei
    obtain ⟨d,c,rfl⟩:=len2 (h2 r (List.mem_of_getElem? er))
    have tb : 0≤c∧c≤10:=hc _ (List.mem_of_getElem? er)
    have il : i < os.length:=(List.getElem?_eq_some_iff.mp er).1
    refine ⟨pr,_,rfl,SqT.of hpr,rfl,_,_,rfl,_,_,rfl,rfl,?_⟩
    refine ⟨_,rfl,_,rfl,by show 1≤sizeLine; decide,fun p1 hp1=>?_⟩
    have u1:=same_new (H:=H1) hp1 (.lst [.int d])
    refine ⟨_,rfl,p1,_,[.int d],rfl,rfl,upd_same,by omega,by omega,by show 1 * _≤sizeLine; exact Nat.le_of_lt (small1000 (by omega)),fun p2 hp2=>?_⟩
    rw [rep_one]
    have u2:=u1.trans (same_new hp2 (.lst (List.replicate c.toNat (V.int d))))
    have lr:=rowOf_len (m:=10) (L:=(os.take i).map fun r=>(r.getD 0 0,r.getD 1 0)) fun p hp=>by
      obtain ⟨r,hr,rfl⟩:=List.mem_map.mp hp
      have:=hc r (List.mem_of_mem_take hr)
      show (r.getD 1 0).toNat≤10
      omega
    rw [List.length_map,List.length_take] at lr
    refine ⟨fl,p2,_,_,rfl,rfl,u2 _ _ e1,upd_same,Nat.le_of_lt (small1000 (by rw [List.length_map,List.length_replicate]; omega)),fun p3 hp3=>?_⟩
    have u3:=u2.trans (same_new hp3 (.lst ((rowOf ((os.take i).map fun r=>(r.getD 0 0,r.getD 1 0))).map V.int ++ List.replicate c.toNat (V.int d))))
    refine ⟨p3,_,_,rfl,s1.trans u3,(s1.trans u2).free hp3,?_⟩
    show L2.upd _ _ _ _=_
    rw [upd_same,getElem_next er,List.map_append]
    show _=some (HO.lst ((rowOf ((os.take i).map (fun r=>(r.getD 0 0,r.getD 1 0)) ++ [(d,c)])).map V.int))
    rw [rowOf_snoc,List.map_append,List.map_replicate]
  · rintro σ H1 ⟨fl,o2,o3,rfl,s1,hfl,e1⟩
    rw [lx,List.take_length] at e1
    refine ⟨_,rfl,q fl H1 hfl s1 ?_⟩
    rw [outs_rows]
    exact e1
end
end K11
namespace L2
open PySem PyProof.Rows
section
variable {X : Cx} {tg : Expr}
end
end L2
namespace L2
open PySem
end L2
namespace L2
open PySem
end L2
namespace K11
open PySem L2
abbrev s_small : Stmt:=top 40
abbrev n_small : List Str:=["_law_draw","_law_most","_law_many","_law_days","_law_term","_law_lots"]
abbrev p_small : List Str:=["_law_draw","_law_most","_law_many"]
theorem sc_small : FnScope n_small p_small (defScope s_small):=⟨rfl,rfl,rfl,by decide +kernel,rfl,by decide +kernel,by decide +kernel⟩
def spSmall : Sp:=fun vs H Q _=>∃ (a c : Addr) (m sc : Int),vs=[.ref a,.int m,.int sc]∧DrawAt H a c∧0≤m∧m≤900∧1≤sc∧sc≤10000000000∧
  ∀ (q l o : Addr) (tm lo n : Int) ls os H',H l=none→H o=none→l≠o→0≤tm→tm≤400→1≤lo→lo + n≤1000→(∀ r∈ls,LotIn lo n sc r)→(∀ r∈os,OutIn lo n sc r)→(ls.length : Int)≤m→(os.length : Int)≤m→
    DrawAt H' a c→KeepBut a H H'→Rows H' l ls→Rows H' o os→H' q=some (.tup [.ref l,.ref o,.int tm])→Q (.ref q) H'
section
variable {P : Program} {w : World} {K : PySem.W.Frag} {mg : Str→Option Value} {base : Heap} {f : Addr} {fd : FuncData} (B : Bn mg)
include B
theorem ok_small (G_pick : Cal P w K mg base CX0 1 "_law_pick" p_pick spPick) (G_some_lots : Cal P w K mg base CX0 2 "_law_some_lots" p_some_lots spLots) (G_some_outs : Cal P w K mg base CX0 2 "_law_some_outs" p_some_outs spOuts)
    (F : Fun K "_law_small" "_law_small" s_small f fd) : FnOk P w K mg base CX0 3 f fd p_small spSmall:=by
  refine F.ok sc_small (fun vs H Q E h=>?_) (fun cdv A outer s H vs Q E hr h=>?_)
  · obtain ⟨a,c,m,sc,rfl,_⟩:=h; rfl
  obtain ⟨a,c,m,sc,rfl,d,m0,m1,v0,v1,q⟩:=h
  refine ⟨_,(pss_cons (ps_set (i:=3) sc_small.nd rfl (Or.inl rfl) (pe_tup (pa_c (pe_op op_add pe_int (pe_cal G_pick hr rfl pass0 (pa_c (pv 0) (pa_c pe_int pa_nil)))) (pa_c (pe_ix ix_tup (pe_tup (pa_c pe_int (pa_c pe_int (pa_c pe_int pa_nil)))) (pe_cal G_pick hr rfl pass0 (pa_c (pv 0) (pa_c pe_int pa_nil))) (fun _ _=>rfl)) pa_nil))))
    (pss_cons (ps_set (i:=4) sc_small.nd rfl (Or.inl rfl) (pe_cal G_pick hr rfl pass0 (pa_c (pv 0) (pa_c pe_int pa_nil))))
    (pss_cons (ps_set (i:=5) sc_small.nd rfl (Or.inl rfl) (pe_cal G_some_lots hr rfl pass0 (pa_c (pv 0) (pa_c (pv 1) (pa_c (pv 3) (pa_c (pv 2) pa_nil))))))
    (pss_one (ps_ret (pe_tup (pa_c (pv 5) (pa_c (pe_cal G_some_outs hr rfl pass0 (pa_c (pv 0) (pa_c (pv 1) (pa_c (pv 3) (pa_c (pv 2) pa_nil))))) (pa_c (pv 4) pa_nil))))))))),?_⟩
  refine ⟨_,rfl,a,c,990,rfl,d,by decide,by decide,fun x1 H1 a1 b1 d1 kb1=>⟨_,_,rfl,rfl,by show 3≤sizeLine; decide,fun p0 hp0=>?_⟩⟩
  refine ⟨_,rfl,a,c,3,rfl,d1.new hp0,by decide,by decide,fun r3 H3 a3 c3 d3 kb3=>?_⟩
  have ht:=kb3 p0 _ (d1.ne hp0) upd_same
  obtain ⟨n,ev,n0,n1⟩ : ∃ v,atI [V.int 3,.int 6,.int 9] r3=some (.int v)∧1≤v∧v≤9:=by
    have : r3=0∨r3=1∨r3=2:=by omega
    rcases this with rfl | rfl | rfl
    · exact ⟨3,rfl,by omega,by omega⟩
    · exact ⟨6,rfl,by omega,by omega⟩
    · exact ⟨9,rfl,by omega,by omega⟩
  refine ⟨p0,_,_,.int n,rfl,rfl,SqT.of ht,ev,by show 2≤sizeLine; decide,fun p hp=>?_⟩
  have k3 : KeepBut a H H3:=kb1.trans ((KeepBut.refl.new hp0).trans kb3)
  have pa : p≠a:=d3.ne hp
  have d4:=d3.new (o:=.tup [.int (1 + x1),.int n]) hp
  have k4:=k3.new (o:=.tup [.int (1 + x1),.int n]) hp
  have e4 : L2.upd H3 p (.tup [.int (1 + x1),.int n]) p=some (.tup [.int (1 + x1),.int n]):=upd_same
  generalize L2.upd H3 p (.tup [.int (1 + x1),.int n])=H4 at *
  refine ⟨_,rfl,a,c,5,rfl,d4,by decide,by decide,fun tm H5 t0 t1 d5 kb5=>?_⟩
  have e5:=kb5 p _ pa e4
  have k5:=k4.trans kb5
  refine ⟨_,rfl,_,rfl,_,rfl,_,rfl,a,c,p,m,_,n,sc,rfl,d5,m0,m1,e5,by omega,by omega,v0,v1,fun l ls H6 hl hls lsn d6 kb6 R6=>?_⟩
  refine ⟨_,rfl,_,rfl,_,rfl,_,rfl,_,rfl,a,c,p,m,_,n,sc,rfl,d6,m0,m1,kb6 p _ pa e5,by omega,by omega,v0,v1,fun o os H7 ho hos osn d7 kb7 R7=>?_⟩
  refine ⟨_,rfl,by show 3≤sizeLine; decide,fun t ht'=>?_⟩
  have nla : l≠a:=d5.ne hl
  have noa : o≠a:=d6.ne ho
  have nlo : l≠o:=by obtain ⟨z,e⟩:=R6.there; exact ne_of_none e ho
  exact q t l o tm _ n ls os _ (k5.none nla hl) ((k5.trans kb6).none noa ho) nlo t0 (by omega) (by omega) (by omega) hls hos lsn osn (d7.new ht') (((k5.trans kb6).trans kb7).new ht') ((R6.keep nla d6 kb7).same (same_new ht' _)) (R7.same (same_new ht' _)) upd_same
end
end K11
namespace L2
open PySem PySem.Spec PySem.W PyProof.Rows
section
variable {prog : Program} {w : World} {A : Around} {E : Value→Shared→Prop} {s : Shared}
theorem set_addS {a : Addr} {ns : List Int} {x : Int} {tx : Tok} {Q : Bool→Shared→Prop} (S : SetI w a ns s.heap) (hn : ns.length + 1 < scanBound)
    (h : ∀ b h',Heap.SameBut a s.heap h'→SetI w a (if x∈ns then ns else ns ++ [x]) h'→Q b { s with heap:=h',toks:=s.toks + 1 }) : wpAny (model prog w) A (setAdd a (.int x tx)) Q E s:=by
  unfold setAdd
  refine wpAny_holding (wpAny_bind ((intKind prog w).pyHash (intKind_is prog w x tx) ?_))
  obtain ⟨o,es,ep,t,ho,hex,hd,hel,hpm,hb,hf,hled,hrise⟩:=S
  have hsz : es.size=ns.length:=by rw [← Array.length_toList,← hpm.length_eq,List.length_map]
  have elems : ElemsOf (intKind prog w) es.toList:=hel.elems
  have key:=intKind_is prog w x tx
  unfold setAddHashed setAddHashedIn
  refine wpAny_holding (wpAny_bind (wpAny_setState_of (s:={ s with toks:=s.toks + 1 }) ho hd hf ?_))
  dsimp only
  rw [byScan_of (x:=.int x tx) rfl hb elems]
  simp only [↓reduceIte]
  unfold setAddByScan
  refine wpAny_bind (wpAny_bind (wpAny_rule (wpAny_bind (wpAny_setScan_of key ho hd hf elems ?_))))
  have mem:=(hel.has (prog:=prog) (w:=w) x)
  cases hr : List.findIdx? (fun e=>(intKind prog w).is x e.2) es.toList with
  | some j=>
    dsimp only
    obtain ⟨hj,hpj,_⟩:=List.findIdx?_eq_some_iff_getElem.mp hr
    have hx : x∈ns:=hpm.mem_iff.mp (mem.mpr ⟨_,List.getElem_mem hj,hpj⟩)
    rw [if_pos hx] at h
    exact wpAny_pure (wpAny_pure (h _ s.heap (Heap.SameBut.refl a s.heap) ⟨o,es,ep,t,ho,hex,hd,hel,hpm,hb,hf,hled,hrise⟩))
  | none=>
    dsimp only
    have hx : x ∉ ns:=fun z=>by
      obtain ⟨e,he,hp⟩:=mem.mp (hpm.mem_iff.mpr z)
      have:=List.findIdx?_eq_none_iff.mp hr e he
      rw [hp] at this
      cases this
    rw [if_neg hx] at h
    have hgw : ∀ (b : Bool) {s₁ : Shared} {Q' : Unit→Shared→Prop},Q' () s₁→wpAny (model prog w) A (match b with | true=>rule "set.scan.the-table-gave-way" | false=>pure ()) Q' E s₁:=fun b s₁ Q' hq=>by cases b <;> first | exact wpAny_pure hq | exact wpAny_rule hq
    have hp1:=layNew_perm t es ((intKind prog w).hash x) (.int x tx)
    have hf1:=layNew_fits t es ((intKind prog w).hash x) (.int x tx)
    obtain ⟨hr1,hl1⟩:=layNew_rise es ((intKind prog w).hash x) (.int x tx) hrise
    generalize layNew t es ((intKind prog w).hash x) (.int x tx)=L at hp1 hf1 hr1 hl1 ⊢
    obtain ⟨es1,t1,wd,gave⟩:=L
    dsimp only at hp1 hf1 hr1 hl1 ⊢
    rw [Array.toList_push] at hp1
    have el1 : AllI es1.toList:=AllI.perm (l:=es.toList ++ [((intKind prog w).hash x,.int x tx)]) (fun e he=>by
      rcases List.mem_append.mp he with z | z
      · exact hel e z
      · rw [List.mem_singleton.mp z]; exact ⟨x,tx,rfl⟩) hp1
    have pm1 : (es1.toList.map kOf).Perm (ns ++ [x]):=(hp1.map kOf).trans (by rw [List.map_append]; exact hpm.append_right _)
    have sz1 : es1.size < scanBound:=by rw [← Array.length_toList,hp1.length_eq,List.length_append,Array.length_toList,hsz]; exact hn
    refine wpAny_bind (hgw _ ?_)
    split
    · refine wpAny_bind ?_
      rw [hashByValue_scannable 8 (x:=.int x tx) rfl]
      refine wpAny_pure ?_
      simp only [plainKind,↓reduceIte]
      refine set_tail (w:=w) (ns:=ns ++ [x]) ?_ ho hex hd ⟨el1,pm1,sz1,hf1,by rw [hl1]; exact hled,hr1⟩ ?_
      · intro b s₁ Q' hq; cases b <;> first | exact wpAny_pure hq | exact wpAny_rule hq
      · intro h' sb S'; dsimp only; exact wpAny_pure (h _ h' sb S')
    · refine wpAny_bind (wpAny_pure ?_)
      simp only [↓reduceIte]
      refine set_tail (w:=w) (ns:=ns ++ [x]) ?_ ho hex hd ⟨el1,pm1,sz1,hf1,by rw [hl1]; exact hled,hr1⟩ ?_
      · intro b s₁ Q' hq; cases b <;> first | exact wpAny_pure hq | exact wpAny_rule hq
      · intro h' sb S'; dsimp only; exact wpAny_pure (h _ h' sb S')
def insI (ns : List Int) (x : Int) : List Int:=if x∈ns then ns else ns ++ [x]
theorem insI_len (ns : List Int) (x : Int) : (insI ns x).length≤ns.length + 1:=by
  unfold insI; split
  · omega
  · rw [List.length_append]; exact Nat.le_refl _
def setOfL (ns : List Int) : List Int:=ns.foldl insI []
theorem setOfL_len : ∀ (ns acc : List Int),(ns.foldl insI acc).length≤acc.length + ns.length
  | [],acc=>Nat.le_refl _
  | n :: ns,acc=>Nat.le_trans (setOfL_len ns (insI acc n)) (by have:=insI_len acc n; rw [List.length_cons]; omega)
abbrev set0 (w : World) : Obj:={ cls:=.type "set",dict:=none,data:=.set #[] 0 (.fresh 0 0 (!byT w)) }
theorem set0_I {h : Heap} {a : Addr} (e : h.get? a=some (set0 w)) : SetI w a [] h:=
  ⟨_,#[],0,_,e,⟨rfl,rfl,rfl⟩,rfl,fun e he=>by simp at he,by exact List.Perm.refl _,by decide,by rfl,rfl,fun i j hi=>by simp [SetTable.fresh] at hi⟩
theorem set_made (a : Value) {Q₁ : Value→Shared→Prop} (h : Q₁ (.ref s.heap.objs.size) { s with heap:=s.heap.push (set0 w) }) :
    codeAny (model prog w) A (.call (.builtin "set.__new__") ⟨[.type "set",a],[]⟩) (wants Q₁ E) s:=by
  refine codeAny_of_tree (show wpAny _ A.in1 (do checkBuiltinCall "set.__new__" ⟨[.type "set",a],[]⟩; again (.builtin "set.__new__" ⟨[.type "set",a],[]⟩)) _ _ s from ?_)
  refine wpAny_bind (wpAny_of_eq (F.newCall_set_1 a) (wpAny_pure ⟨plainId_quiet F.plain_set_new _,codeAny_builtin F.entry_set_new ?_⟩)); rw [Around.under_plainId F.plain_set_new _]
  unfold Builtin.«set.__new__» Builtin.Frozenset.newClass; have hsub:=PySem.sub_set_self; obtain ⟨hp,g,d,tk,os⟩:=s
  dsimp only; wp_walk; refine wpAny_askSetting (wpAny_pure ?_); dsimp only; simp only [newObj]
  exact wpAny_bind (wpAny_alloc (wpAny_pure (wpAny_pure h)))
theorem set_loop {I : Addr} {fp wr : List Addr} {G : Array GenState→Array GenState→Prop} {n : Nat} {P : Nat→Value→Prop} {St : Nat→Shared→Prop} {R : Result→Shared→Prop} (W : WalksS prog w A.in1 I fp wr G n P St) (S : Addr) (hSf : S ∉ fp) {ns : List Int} (hn : ns.length=n)
    (hval : ∀ i v,P i v→∃ t,v = .int (ns.getD i 0) t) (hb : n + 1 < scanBound) : ∀ (k i : Nat) (s : Shared),n - i=k→i≤n→St i s→SetI w S (setOfL (ns.take i)) s.heap→
      (∀ s',Moved (S :: wr) G s s'→SetI w S (setOfL ns) s'.heap→R (.ok (.ret .none)) s')→codeAny (model prog w) A (.builtin "set.update.loop" ⟨[.ref S,.ref I],[]⟩) R s:=by
  have hSw : S ∉ wr:=fun h=>hSf (W.sub _ h)
  have hsub : ∀ b∈wr,b∈S :: wr:=fun b hb=>List.mem_cons_of_mem _ hb
  intro k
  induction k with
  | zero=>
    intro i s hk hi hst hS hR; obtain rfl : i=n:=by omega
    refine codeAny_builtin PyProof.Rows.F.entry_set_update_loop ?_; rw [Around.under_plainId PyProof.Rows.F.plain_set_update_loop _]
    refine (show wpAny _ A.in1 (pyNext (.ref I) >>= _) _ _ s from wpAny_bind (W.done s _ _ hst fun s' hm=>?_))
    refine (show wpAny _ A.in1 (ret Value.none) _ _ s' from wpAny_pure (hR s' (hm.mono hsub) ?_))
    rw [← List.take_length (l:=ns),hn]; exact hS.keep fun o e=>hm.heap S _ hSw e
  | succ k ih=>
    intro i s hk hi hst hS hR; have hlt : i < n:=by omega
    refine codeAny_builtin PyProof.Rows.F.entry_set_update_loop ?_; rw [Around.under_plainId PyProof.Rows.F.plain_set_update_loop _]
    refine (show wpAny _ A.in1 (pyNext (.ref I) >>= _) _ _ s from wpAny_bind (W.item i s _ _ hlt hst fun v s' hP hst' hm=>?_))
    obtain ⟨t,rfl⟩:=hval i v hP
    have hS' : SetI w S (setOfL (ns.take i)) s'.heap:=hS.keep fun o e=>hm.heap S _ hSw e
    refine (show wpAny _ A.in1 (holding [Value.int (ns.getD i 0) t] (setAdd S (.int (ns.getD i 0) t)) >>= _) _ _ s' from wpAny_bind (wpAny_holding ?_))
    have hroom : (setOfL (ns.take i)).length + 1 < scanBound:=by have:=setOfL_len (ns.take i) []; rw [List.length_take] at this; unfold setOfL; simp only [List.length_nil] at this; omega
    refine set_addS hS' hroom fun b h' hsb hS2=>?_
    have e1 : ns.take (i + 1)=ns.take i ++ [ns.getD i 0]:=by
      rw [List.take_succ,List.getElem?_eq_getElem (by omega),Option.toList_some,List.getD_eq_getElem?_getD,List.getElem?_eq_getElem (by omega),Option.getD_some]
    have hSi : SetI w S (setOfL (ns.take (i + 1))) h':=by rw [e1]; unfold setOfL; rw [List.foldl_append]; exact hS2
    refine wpAny_pure ⟨plainId_quiet PyProof.Rows.F.plain_set_update_loop _,ih (i + 1) _ (by omega) hlt (W.frame _ s' _ _ hst' (Nat.le_succ _) fun b hb o e=>?_) hSi fun s'' hm'' hS''=>?_⟩
    · rw [hsb.2 b (fun z : b=S=>hSf (by rw [← z]; exact hb))]; exact e
    · refine hR s'' (Moved.trans W.gtrans ((hm.mono hsub).then_heap (Nat.le_succ _) fun b o hb e=>?_) hm'') hS''
      rw [hsb.2 b (fun z : b=S=>hb (by rw [z]; exact List.mem_cons_self))]; exact e
theorem set_call {l : Addr} {items : Array Value} {ns : List Int} {Q : Value→Shared→Prop} (hh : A.handled=none) (hl : s.heap.IsList l items) (hi : PyProof.Rows.IntsAre items.toList ns) (hb : items.size + 1 < scanBound)
    (h : ∀ (h' : Heap) (tk : Nat),SetI w s.heap.objs.size (setOfL ns) h'→(∀ b o,b < s.heap.objs.size→s.heap.get? b=some o→h'.get? b=some o)→Q (.ref s.heap.objs.size) { s with heap:=h',toks:=tk }) :
    wpAny (model prog w) A (call (.type "set") [.ref l]) Q E s:=by
  obtain ⟨c,tl,hmro⟩:=F.called_set.mro; have hmade:=F.called_set.made; have hsub:=F.called_set.sub
  refine wpAny_call (codeAny_of_tree (show wpAny _ _ (callAny (.type "set") _) _ _ _ from wpAny_pure ⟨Code.quiet_builtin _ (by decide +kernel),codeAny_builtin F.entry_type_call ?_⟩))
  rw [Around.under_plain (weight_type_call_type "set" [.ref l] []) rfl]; have h1:=F.called_set.notType; have h2:=F.called_set.canCreate; have hct:=F.typeCall_set_1 (.ref l)
  repeat (any_goals (first | assumption | wp_step))
  refine codeAny_mono (set_made (.ref l) (E:=E) (Q₁:=fun obj s₁=>obj = .ref s.heap.objs.size∧s₁ = { s with heap:=s.heap.push (set0 w) }) ⟨rfl,rfl⟩) fun r s₁ hr=>?_
  cases r with
  | error e=>exact hr
  | ok fl=>
    cases fl with
    | ret obj=>
      obtain ⟨rfl,rfl⟩:=hr
      have hS : (s.heap.push (set0 w)).get? s.heap.objs.size=some (set0 w):=Heap.get?_push_size _ rfl
      have hT : Shared.TypeIs { s with heap:=s.heap.push (set0 w) } (.ref s.heap.objs.size) "set" := ⟨_,hS,rfl⟩
      have hli:=F.called_set.init.lookup; have hbi:=F.called_set.init.bind (.ref s.heap.objs.size)
      repeat (any_goals (first | assumption | wp_step))
      refine codeAny_mono (codeAny_call_builtin (R:=wants (fun r s₂=>r = .none∧∃ h' tk,s₂ = { s with heap:=h',toks:=tk }∧SetI w s.heap.objs.size (setOfL ns) h'∧(∀ b o,b < s.heap.objs.size→s.heap.get? b=some o→h'.get? b=some o)) E) F.called_set.init.plain F.entry_set_init (check_set_init_1 hT ?_)) fun r₂ s₂ hr₂=>?_
      · obtain ⟨ol,hol,hcl,nl,hdl⟩:=hl
        obtain ⟨ocls,odict,odata,oslots⟩:=ol; simp only at hcl hdl; subst hcl; subst hdl
        have hol' : (s.heap.push (set0 w)).get? l=some { cls:=.type "list",dict:=odict,data:=.seq items nl,slots:=oslots }:=Heap.get?_push_of_some _ hol
        have hsls:=F.sub_list_set; have hslf:=F.sub_list_frozenset
        have hne : (Value.type "list" == Value.type "dict")=false:=by decide +kernel
        have hl1 : (s.heap.push (set0 w)).IsList l items:=⟨_,hol',rfl,nl,rfl⟩
        unfold Builtin.«set.__init__» noKeywords Builtin.Frozenset.updateFrom; generalize hPI : pyIter=PI
        wp_walk
        subst hPI
        refine wpAny_pyIter_list hl1 (wpAny_bind (wpAny_runValue ?_))
        have hlS : l < s.heap.objs.size:=Heap.lt_size hol; have hh3 : A.in1.in1.in1.handled=none:=by simp [hh]
        have zS : (s.heap.push (set0 w)).objs.size=s.heap.objs.size + 1:=Heap.size_push ..
        have hneI : l≠(s.heap.push (set0 w)).objs.size:=by rw [zS]; exact Nat.ne_of_lt (Nat.lt_succ_of_lt hlS)
        have hSf : s.heap.objs.size ∉ [(s.heap.push (set0 w)).objs.size,l]:=by
          rw [zS]; simp only [List.mem_cons,List.not_mem_nil,or_false,not_or]; exact ⟨Nat.ne_of_lt (Nat.lt_succ_self _),Nat.ne_of_gt hlS⟩
        have hln : ns.length=items.size:=by have:=PyProof.Rows.IntsAre.length hi; rw [Array.length_toList] at this; omega
        have hval : ∀ (i : Nat) (v : Value),items[i]? = some v→∃ t,v = .int (ns.getD i 0) t:=fun i v hv=>PyProof.Rows.IntsAre.int_at hi i v (by rw [Array.getElem?_toList]; exact hv)
        refine set_loop ((Walks.list hh3 _ l hneI items).toS) s.heap.objs.size hSf hln hval hb (items.size - 0) 0 _ (by omega) (Nat.zero_le _) ⟨⟨_,Heap.get?_push_size _ rfl,rfl,rfl⟩,(hl1.push _)⟩ (set0_I (Heap.get?_push_of_some _ hS)) fun s' hm hS'=>?_
        obtain ⟨h',g',d',tk',os'⟩:=s'
        obtain rfl : g' = s.gens:=hm.gens
        obtain rfl : d' = s.drawn:=hm.drawn
        obtain rfl : os' = s.os:=hm.os
        refine (show wpAny _ _ _ _ _ _ from wpAny_pure (show wpAny _ _ (ret Value.none) _ _ _ from wpAny_pure ⟨rfl,h',tk',rfl,hS',fun b o hb e=>?_⟩))
        have hb1 : b≠s.heap.objs.size:=Nat.ne_of_lt hb
        have hb2 : b≠(s.heap.push (set0 w)).objs.size:=by rw [zS]; exact Nat.ne_of_lt (Nat.lt_succ_of_lt hb)
        exact hm.heap b o (by simp only [List.mem_cons,List.not_mem_nil,or_false,not_or]; exact ⟨hb1,hb2⟩) (Heap.get?_push_of_some _ (Heap.get?_push_of_some _ e))
      · cases r₂ with
        | error e=>exact hr₂
        | ok fl₂=>
          cases fl₂ with
          | ret r=>obtain ⟨rfl,h',tk,rfl,hS',hk'⟩:=hr₂; (repeat (any_goals (first | assumption | wp_step))); exact h _ _ hS' hk'
          | _=>exact hr₂.elim
    | _=>exact hr.elim
end
section
variable {X : Cx}
def rSetI (K : PySem.W.Frag) (w : World) : List V→Hp→VK→Prop:=fun xs H Q=>∃ (p : Addr) (ns : List Int),xs=[.ref p]∧SqL K H p (ns.map V.int)∧ns.length≤1000∧∀ d H',H d=none→Same H H'→H' d=some (HS w d (setOfL ns))→Q (.ref d) H'
theorem call_setI (hc : X.calm=true) : CallR X (.type "set") (rSetI X.K X.w):=by
  intro pins s σ H xs us Q I r h
  obtain ⟨p,ns,rfl,hq,hn,q⟩:=h
  obtain ⟨u,rfl,ru⟩:=r.one
  cases ru
  obtain ⟨its,r',pl,hz⟩:=I.list hq
  have ia:=ints_of r'
  refine set_call (w:=X.w) (items:=its.toArray) (ns:=ns) (show X.A.handled=none from I.ok.hd hc) pl.isList (by simpa using ia) (by rw [List.size_toArray,PyProof.Rows.IntsAre.length ia]; unfold scanBound; omega) fun h' tk S' k=>?_
  exact ⟨.ref s.heap.objs.size,_,I.laid (t':=tk) (fun b o e=>k b o (Heap.lt_size e) e) (Nat.le_refl _) (hs_ok S'),rfl,q _ _ (I.hok.fresh (Nat.le_refl _)) (same_new (I.hok.fresh (Nat.le_refl _)) _) upd_same⟩
end
end L2
namespace K11
open PySem L2
abbrev s_law : Stmt:=top 45
abbrev n_law : List Str:=["_law_script","_law_draw","_law_lots","_law_outs","_law_term","_law_told","_law_seats","_law_duty","_law_units","_law_most"]
abbrev p_law : List Str:=["_law_script"]
theorem sc_law : FnScope n_law p_law (defScope s_law):=⟨rfl,rfl,rfl,by decide +kernel,rfl,by decide +kernel,by decide +kernel⟩
def spLaw (K : PySem.W.Frag) : Sp:=fun vs H Q _=>∃ (a : Addr) (ns : List Int),vs=[.ref a]∧SqL K H a (ns.map V.int)∧ns.length≤63∧∀ H',Q (.bl true) H'
def cutOf (u : Int) (r : List Int) : Int:=r.getD 1 0 * (if decide (u≤r.getD 2 0)=true then 1 else 0)
section
variable {P : Program} {w : World} {K : PySem.W.Frag} {mg : Str→Option Value} {base : Heap} {f : Addr} {fd : FuncData} {cl : Nat→Addr} (B : Bn mg) (N_set : mg "set" = none)
  (G_begin : Cal P w K mg base CX0 1 "_law_begin" p_begin (spBegin K)) (G_small : Cal P w K mg base CX0 3 "_law_small" p_small spSmall) (G_seat_row : Cal P w K mg base CX0 1 "_law_seat_row" p_seat_row spSeatRow) (G_unit_row : Cal P w K mg base CX0 1 "_law_unit_row" p_unit_row spUnitRow) (G_seated : Cal P w K mg base CX0 26 "_law_seated" p_seated spSeated)
  (G_best : Cal P w K mg base (CXE P w) 5 "best" p_best (spBest cl))
include B N_set G_begin G_small G_seat_row G_unit_row G_seated G_best
theorem ok_law (F : Fun K "law" "law" s_law f fd) : FnOk P w K mg base CX0 27 f fd p_law (spLaw K):=by
  refine F.ok sc_law (fun vs H Q E h=>?_) (fun cdv A outer s H vs Q E hr h=>?_)
  · obtain ⟨a,ns,rfl,_⟩:=h; rfl
  obtain ⟨a0,ns,rfl,hS,hlen,q⟩:=h
  refine ⟨_,(pss_cons (ps_set (i:=1) sc_law.nd rfl (Or.inl rfl) (pe_cal G_begin hr rfl pass0 (pa_c (pv 0) pa_nil)))
    (pss_cons (ps_asg (pe_cal G_small hr rfl pass0 (pa_c (pv 1) (pa_c pe_int (pa_c pe_int pa_nil)))) (pg_tup rfl (pgs_cons (pg_name (i:=2) sc_law.nd rfl (Or.inr rfl)) (pgs_cons (pg_name (i:=3) sc_law.nd rfl (Or.inl rfl)) (pgs_cons (pg_name (i:=4) sc_law.nd rfl (Or.inl rfl)) pgs_nil)))))
    (pss_cons (ps_set (i:=5) sc_law.nd rfl (Or.inr rfl) (pe_cal G_best hr rfl passN (pa_c (pv 2) (pa_c (pv 3) (pa_c (pv 4) pa_nil)))))
    (pss_cons (ps_set (i:=6) sc_law.nd rfl (Or.inl rfl) (pe_cal G_seat_row hr rfl pass0 (pa_c (pv 3) pa_nil)))
    (pss_cons (ps_for PassesOwn.never rfl (pi_list (pe_callB (call_sortS rfl) rfl B.sorted PyProof.Rows.boot_sorted (pa_c (pe_callTy (call_setI rfl) rfl N_set PyProof.Rows.boot_set (pa_c (pe_comp (N':=["_law_lot"]) (ix:=[none]) (g:=(gName 0)) (ti:=tIf0) (te:=(tOp (rIxT K) (tVar 0) (tC (.int 2)))) rfl (comp_scope (N:=n_law) (D:=defScope s_law) (by decide +kernel)) (pi_list (pv 2)) (fun C s H fp=>(pg_name (i:=0) (show (["_law_lot"] : List Str).Nodup by decide +kernel) rfl (Or.inl rfl))) (fun C s H fp=>pifs_nil) (fun C s H fp=>(pe_ix ix_tup (pv 0) pe_int (fun _ _=>rfl)))) pa_nil)) pa_nil))) (pg_name (i:=7) sc_law.nd rfl (Or.inr rfl)) (pss_cons (ps_set (i:=8) sc_law.nd rfl (Or.inl rfl) (pe_cal G_unit_row hr rfl pass0 (pa_c (pv 2) (pa_c (pe_comp (N':=["_law_lot","_law_duty"]) (ix:=[none,some 7]) (g:=(gName 0)) (ti:=tIf0) (te:=(tOp (rI CMul fun i j=>.int (i * j)) (tOp (rIxT K) (tVar 0) (tC (.int 1))) (tCB (fun (xs : List V) (H : Hp) (Q : VK)=>(∃ i,xs=[.int i]∧Q (.int i) H)∨∃ k,xs=[.bl k]∧Q (.int (if k=true then 1 else 0)) H) (tCons (tOp (rI0 fun i j=>.bl (decide (j≤i))) (tOp (rIxT K) (tVar 0) (tC (.int 2))) (tVar 1)) tNil)))) rfl (comp_scope (N:=n_law) (D:=defScope s_law) (by decide +kernel)) (pi_list (pv 2)) (fun C s H fp=>(pg_name (i:=0) (show (["_law_lot","_law_duty"] : List Str).Nodup by decide +kernel) rfl (Or.inl rfl))) (fun C s H fp=>pifs_nil) (fun C s H fp=>(pe_op op_mul (pe_ix ix_tup (pv 0) pe_int (fun _ _=>rfl)) (pe_callTy call_int1 rfl B.int PyProof.Rows.boot_int (pa_c (pe_cmpR op_ge (pe_ix ix_tup (pv 0) pe_int (fun _ _=>rfl)) (pv 1) (nomark _)) pa_nil))))) pa_nil))))
      (pss_cons (ps_set (i:=9) sc_law.nd rfl (Or.inl rfl) (pe_callB (call_sumI rfl) rfl B.sum PyProof.Rows.boot_sum (pa_c (pe_comp (N':=["_law_at","_law_duty","_law_lots","_law_told"]) (ix:=[none,some 7,some 2,some 5]) (g:=(gName 0)) (ti:=(tTest (tOp (rI0 fun i j=>.bl (decide (j≤i))) (tOp (rIxT K) (tOp (rIxL K) (tVar 2) (tVar 0)) (tC (.int 2))) (tVar 1)))) (te:=(tOp (rIxL K) (tVar 3) (tVar 0))) rfl (comp_scope (N:=n_law) (D:=defScope s_law) (by decide +kernel)) (pi_range1 rfl B.range (pa_c (pe_callB call_len_seq rfl B.len PySem.boot_len (pa_c (pv 2) pa_nil)) pa_nil)) (fun C s H fp=>(pg_name (i:=0) (show (["_law_at","_law_duty","_law_lots","_law_told"] : List Str).Nodup by decide +kernel) rfl (Or.inl rfl))) (fun C s H fp=>(pifs_one (pt_cmpR op_ge (pe_ix ix_tup (pe_ix ix_list (pv 2) (pv 0) (fun _ _=>rfl)) pe_int (fun _ _=>rfl)) (pv 1) (nomark _)))) (fun C s H fp=>(pe_ix ix_list (pv 3) (pv 0) (fun _ _=>rfl)))) pa_nil)))
      (pss_one (ps_if (pt_cmpR op_ne (pe_cal G_seated hr rfl pass0 (pa_c (pv 8) (pa_c (pv 6) (pa_c (pv 4) pa_nil)))) (pv 9) (nomark _)) (pss_one (ps_ret pe_bl)) pss_nil)))))
    (pss_one (ps_ret (pe_cmpR op_eq (pe_callB call_len_seq rfl B.len PySem.boot_len (pa_c (pv 5) pa_nil)) (pe_callB call_len_seq rfl B.len PySem.boot_len (pa_c (pv 2) pa_nil)) (nomark _))))))))),?_⟩
  refine ⟨_,rfl,a0,ns,rfl,hS,hlen,fun a c H1 ha hc s1 d1=>?_⟩
  clear s1 hS
  refine ⟨_,rfl,a,c,6,4,rfl,d1,by decide,by decide,by decide,by decide,fun t l o tm lo n ls os H2 hl ho nlo t0 t4 lo1 h1000 hls hos lsn osn d2 kb2 R2l R2o ht=>?_⟩
  refine ⟨t,_,rfl,SqT.of ht,rfl,_,_,rfl,_,_,rfl,_,_,rfl,rfl,?_⟩
  have g : GoodC ls os tm:=⟨fun r hr=>(hls r hr).good lo1 h1000 (by decide),fun r hr=>(hos r hr).good lo1 h1000 (by decide),by omega,by omega,t0,t4⟩
  have bn:=g.both
  have cl4 : ∀ r∈ls,∃ d c u,r=[d,c,u]∧1≤d∧d≤999∧1≤c∧c≤4:=fun r hr=>by
    obtain ⟨d,c,u,rfl,w1,w2,w3,w4,_⟩:=hls r hr
    exact ⟨d,c,u,rfl,by omega,by omega,w3,w4⟩
  have co4 : ∀ r∈os,0≤r.getD 1 0∧r.getD 1 0≤4:=fun r hr=>by
    obtain ⟨d,c,rfl,w1,w2,w3,w4⟩:=hos r hr
    show 0≤c∧c≤4
    omega
  refine ⟨_,rfl,_,rfl,_,rfl,l,o,tm,ls,os,rfl,R2l,g.h3,R2o,g.h2,fun n e=>(by rw [bn] at e; cases e),fun _ lt cs H3 hlt hb s3 I3=>?_⟩
  have L3:=R2l.same s3
  have O3:=R2o.same s3
  refine ⟨_,rfl,o,os,rfl,O3,g.h2,fun r hr=>(by have:=co4 r hr; omega),by omega,fun sa H4 hsa s4 I4s=>?_⟩
  have L4:=L3.same s4
  have I4 : IntsAt H4 lt cs:=s4 _ _ I3
  clear L3 O3 I3 s3 s4 R2l R2o
  have lss : (rowOf (outsBy os (uptoN os.length))).length≤24:=by
    have:=rowOf_len (m:=4) (L:=outsBy os (uptoN os.length)) fun p hp=>by
      rw [outs_rows] at hp
      obtain ⟨r,hr,rfl⟩:=List.mem_map.mp hp
      have:=co4 r hr
      show (r.getD 1 0).toNat≤4
      omega
    have e : (outsBy os (uptoN os.length)).length=os.length:=by rw [outs_rows,List.length_map]
    rw [e] at this
    omega
  obtain ⟨xs,ex,hx⟩:=L4.tups
  have lx:=hx.1
  have lc:=hb.len
  refine ⟨_,rfl,l,rfl,⟨_,SqL.of ex⟩,fun D hD=>?_⟩
  refine comp_by (fun i zs _=>zs=((ls.take i).map fun r=>r.getD 2 0).map V.int) hD ex (by omega) (fun i zs H H' h _=>h) rfl (fun i x zs H6 ei s6 hp K1 K2 k1 k2=>?_) fun zs H5 s5 hp lz hD5=>?_
  · obtain ⟨p,r,rfl,er,hp'⟩:=hx.at ei
    obtain ⟨dd,cc,uu,rfl⟩:=len3 (g.h3 r (List.mem_of_getElem? er))
    refine ⟨keep_set keep_refl rfl,?_⟩
    refine ⟨_,rfl,p,_,_,.int uu,rfl,rfl,SqT.of (s6 _ _ hp'),rfl,k1 _ _ (Same.refl _) ?_⟩
    rw [hp,getElem_next er,List.map_append,List.map_append]; rfl
  rw [show ls.take xs.length=ls by rw [lx,List.take_length]] at hp
  subst hp
  refine ⟨D,_,rfl,SqL.of hD5,by rw [List.length_map]; omega,fun st H5' hst sst est=>?_⟩
  have ll:=setOfL_len (ls.map fun r=>r.getD 2 0) []
  rw [List.length_map] at ll
  refine ⟨st,_,rfl,est,by unfold setOfL; simp only [List.length_nil] at ll; omega,fun sl ms hsl hpm hs=>?_⟩
  have v1:=s5.trans (sst.trans (same_new hsl (.lst (ms.map V.int))))
  have E5:=upd_same (H:=H5') (a:=sl) (o:=.lst (ms.map V.int))
  generalize L2.upd H5' sl (.lst (ms.map V.int))=H6 at *
  refine ⟨sl,rfl,⟨_,SqL.of E5⟩,?_⟩
  have L6:=L4.same v1
  have I6 : IntsAt H6 lt cs:=v1 _ _ I4
  have J6 : IntsAt H6 sa _:=v1 _ _ I4s
  clear L4 I4 I4s v1 sst s5 hs hpm hst hsl hD hD5 ex hx lz est ll lx d1 d2 kb2 ht hlt hsa
  refine for_list (xs:=ms.map V.int) (fun i σ H'=>∃ o7 o8 o9,σ=[some (.ref a0),some (.ref a),some (.ref l),some (.ref o),some (.int tm),some (.ref lt),some (.ref sa),o7,o8,o9]∧Same H6 H') ⟨_,_,_,rfl,Same.refl _⟩ ?_ ?_ ?_
  · rintro j σ H' _ ⟨_,_,_,rfl,k⟩
    exact SqL.of (k _ _ E5)
  · rintro j x σ H7 ej ⟨o7,o8,o9,rfl,s7⟩
    obtain ⟨u,rfl,eu⟩:=ints_at ej
    have L7:=L6.same s7
    obtain ⟨xs,ex,hx⟩:=L7.tups
    have lx:=hx.1
    refine ⟨_,rfl,_,rfl,l,rfl,⟨_,SqL.of ex⟩,fun D hD=>?_⟩
    refine comp_by (fun i zs _=>zs=((ls.take i).map (cutOf u)).map V.int) hD ex (by omega) (fun i zs H H' h _=>h) rfl (fun i x zs H8 ei s8 hp K1 K2 k1 k2=>?_) fun zs H8 s8 hp lz hD8=>?_
    · obtain ⟨p,r,rfl,er,hp'⟩:=hx.at ei
      obtain ⟨dd,cc,uu,rfl,w1,w2,w3,w4⟩:=cl4 r (List.mem_of_getElem? er)
      refine ⟨keep_set keep_refl rfl,?_⟩
      refine ⟨_,rfl,p,_,_,.int cc,rfl,rfl,SqT.of (s8 _ _ hp'),rfl,_,rfl,p,_,_,.int uu,rfl,rfl,SqT.of (s8 _ _ hp'),rfl,_,rfl,_,_,rfl,rfl,.inr ⟨_,rfl,_,_,rfl,rfl,.inl ⟨by omega,by omega⟩,k1 _ _ (Same.refl _) ?_⟩⟩
      rw [hp,getElem_next er,List.map_append,List.map_append]
      rfl
    rw [show ls.take xs.length=ls by rw [lx,List.take_length]] at hp
    subst hp
    have cb : ∀ r∈ls,cutOf u r=if u≤r.getD 2 0 then r.getD 1 0 else 0:=fun r _=>by
      unfold cutOf
      by_cases c : u≤r.getD 2 0
      · rw [if_pos c,if_pos (decide_eq_true c),Int.mul_one]
      · rw [if_neg c,if_neg (by rw [decide_eq_false c]; decide),Int.mul_zero]
    have L8:=L7.same s8
    obtain ⟨ts,ets⟩ : ∃ ts,ts=ls.map (cutOf u):=⟨_,rfl⟩
    rw [← ets] at hD8
    have lts : ts.length=ls.length:=by rw [ets,List.length_map]
    have bts : ∀ v∈ts,0≤v∧v≤4:=fun v hv=>by
      rw [ets] at hv
      obtain ⟨r,hr,rfl⟩:=List.mem_map.mp hv
      rw [cb r hr]
      obtain ⟨dd,cc,uu,rfl,w1,w2,w3,w4⟩:=cl4 r hr
      show 0≤(if u≤uu then cc else 0)∧(if u≤uu then cc else 0)≤4
      split <;> omega
    refine ⟨l,D,ls,ts,rfl,L8,g.h3,hD8,lts,fun v hv=>(by have:=bts v hv; omega),by omega,fun ua H9 hua s9 I9=>?_⟩
    have L9:=L8.same s9
    obtain ⟨ys,ey,hy⟩:=L9.tups
    have ly:=hy.1
    have J9 : IntsAt H9 sa _:=s9 _ _ (s8 _ _ (s7 _ _ J6))
    have C9 : IntsAt H9 lt cs:=s9 _ _ (s8 _ _ (s7 _ _ I6))
    refine ⟨_,rfl,l,_,rfl,.inl (SqL.of ey),_,rfl,by omega,by omega,fun D2 hD2=>?_⟩
    refine comp_rngF (n:=(ys.length : Int).toNat) (fun i zs=>zs=(((List.range i).filter fun i=>dearB u (ls.getD i [])).map fun i=>cs.getD i 0).map V.int) hD2 (by omega) rfl (fun i zs H10 hi s10 hz K1 K2 k1 k2=>?_) fun zs' H10 s10 hz' hD10=>?_
    · subst hz
      have hi' : i < ys.length:=by omega
      obtain ⟨pr,r,epr,er,hpr⟩:=(hy.same s10).at (List.getElem?_eq_getElem hi')
      obtain ⟨dd,cc,uu,rfl⟩:=len3 (g.h3 r (List.mem_of_getElem? er))
      have ev : cs[i]? = some (cs[i]'(by omega)):=List.getElem?_eq_getElem _
      have ft:=dear_next (u:=u) er ev
      generalize cs[i]'(by omega)=v at *
      have eat : atI ys (0 + (i : Int))=some (.ref pr):=atI_some (by omega) (by rw [show (0 + (i : Int)).toNat=i by omega,List.getElem?_eq_getElem hi',epr])
      have eav : atI (cs.map V.int) (0 + (i : Int))=some (.int v):=atI_some (by omega) (by rw [show (0 + (i : Int)).toNat=i by omega,List.getElem?_map,ev]; rfl)
      have eb : dearB u [dd,cc,uu]=decide (u≤uu):=rfl
      refine ⟨keep_set keep_refl rfl,?_⟩
      refine ⟨_,rfl,_,rfl,l,_,_,_,rfl,rfl,SqL.of (s10 _ _ ey),eat,pr,_,_,.int uu,rfl,rfl,SqT.of hpr,rfl,_,rfl,_,_,rfl,rfl,_,rfl,?_⟩
      by_cases c1 : u≤uu
      · rw [decide_eq_true c1]
        refine iteT ⟨_,rfl,_,rfl,lt,_,_,_,rfl,rfl,SqL.of (s10 _ _ C9),eav,k1 _ _ (Same.refl _) ?_⟩
        rw [ft,if_pos (by rw [eb,decide_eq_true c1]),List.map_append]; rfl
      · rw [decide_eq_false c1]
        exact iteF (k2 _ (Same.refl _) (by rw [ft,if_neg (by rw [eb,decide_eq_false c1]; decide),List.append_nil]))
    subst hz'
    rw [show (ys.length : Int).toNat=ls.length by omega] at hD10
    refine ⟨D2,_,rfl,SqL.of hD10,?_⟩
    have lus : (rowOf (lotsBy ls ts (uptoN ls.length))).length≤900:=by
      have:=rowOf_len (m:=4) (L:=lotsBy ls ts (uptoN ls.length)) fun p hp=>by
        obtain ⟨j,hj,rfl⟩:=List.mem_map.mp hp
        show (ts.getD j.toNat 0).toNat≤4
        rw [List.getD_eq_getElem?_getD]
        cases e : ts[j.toNat]? with
        | none=>exact Nat.zero_le _
        | some z=>have:=bts z (List.mem_of_getElem? e); show z.toNat≤4; omega
      have e : (lotsBy ls ts (uptoN ls.length)).length=ls.length:=by unfold lotsBy uptoN; rw [List.length_map,List.length_map,List.length_range]
      rw [e] at this
      omega
    refine ⟨_,rfl,_,rfl,_,rfl,ua,sa,_,_,tm,rfl,s10 _ _ I9,s10 _ _ J9,lus,lss,fun h ok fs H11 s11 S=>?_⟩
    have mo:=S.most hb t0 (fun r hr=>(by obtain ⟨dd,cc,uu,rfl,w1,w2,w3,w4⟩:=cl4 r hr; show 0≤cc; omega)) (fun r hr=>(co4 r hr).1) (fun r hr=>(by obtain ⟨dd,cc,uu,rfl,w1,w2,w3,w4⟩:=cl4 r hr; exact ⟨w1,w2⟩)) (u:=u) (ts:=ts) (fun i hi=>?_) rfl rfl
    · refine ⟨_,rfl,rfl,_,rfl,?_⟩
      unfold dearSum at mo
      rw [decide_eq_true (congrArg V.int mo)]
      exact iteF ⟨_,_,_,rfl,(((s7.trans s8).trans s9).trans s10).trans s11⟩
    · obtain ⟨h0,h1⟩:=uptoN_mem.mp hi
      have hl : i.toNat < ls.length:=by omega
      rw [ets,List.getD_eq_getElem?_getD,List.getElem?_map,List.getElem?_eq_getElem hl]
      show cutOf u ls[i.toNat]=_
      rw [cb _ (List.getElem_mem hl)]
      unfold colAt
      rw [List.getD_eq_getElem?_getD (l:=ls),List.getElem?_eq_getElem hl]
      rfl
  · rintro σ H7 ⟨o7,o8,o9,rfl,s7⟩
    obtain ⟨ys,ey,hy⟩:=(L6.same s7).tups
    have ly:=hy.1
    refine ⟨_,rfl,lt,_,rfl,.inl (SqL.of (s7 _ _ I6)),_,rfl,l,_,rfl,.inl (SqL.of ey),rfl,?_⟩
    rw [decide_eq_true (show V.int (((cs.map V.int).length : Nat) : Int)=V.int ((ys.length : Nat) : Int) by rw [List.length_map,lc,ly])]
    exact q _
end
end K11
namespace K11
open PySem L2
def clF (c_0 c_1 c_2 c_3 c_4 c_5 : Addr) : Nat→Addr
  | 0=>c_0
  | 1=>c_1
  | 2=>c_2
  | 3=>c_3
  | 4=>c_4
  | 5=>c_5
  | _=>c_0
theorem all_mk {l : PySem.W.OpenLaw} {w : World} {K : PySem.W.Frag} {h : Heap} {mg : Str→Option Value} {fa f0 f1 f2 f3 f4 f5 f6 f7 f8 f9 f10 f11 f12 f13 f14 f15 f16 f17 f18 f19 f20 f21 f22 f23 f24 f25 f26 f27 c_0 c_1 c_2 c_3 c_4 c_5 : Addr} {u_FIRST_DAY u_LAST_DAY u_MOST_TERM u_MOST_ROWS u_MOST_COUNT u_MOST_DUTY : Tok} (X : K.In h) (G : h.Ns mainGlobals mg) (hfa : mg "law" = some (.ref fa))
    {od0 an0 od1 an1 od2 an2 od3 an3 od4 an4 od5 an5 od6 an6 od7 an7 od8 an8 od9 an9 od10 an10 od11 an11 od12 an12 od13 an13 od14 an14 od15 an15 od16 an16 od17 an17 od18 an18 od19 an19 od20 an20 od21 an21 od22 an22 od23 an23 od24 an24 od25 an25 od26 an26 od27 an27 : Option Addr} {sl0 sl1 sl2 sl3 sl4 sl5 sl6 sl7 sl8 sl9 sl10 sl11 sl12 sl13 sl14 sl15 sl16 sl17 sl18 sl19 sl20 sl21 sl22 sl23 sl24 sl25 sl26 sl27 : Array (Option Value)} {oc0 kV0 dc0 pm0 cd0 ct0 oc1 kV1 dc1 pm1 cd1 ct1 oc2 kV2 dc2 pm2 cd2 ct2 oc3 kV3 dc3 pm3 cd3 ct3 oc4 kV4 dc4 pm4 cd4 ct4 oc5 kV5 dc5 pm5 cd5 ct5 oc6 kV6 dc6 pm6 cd6 ct6 oc7 kV7 dc7 pm7 cd7 ct7 oc8 kV8 dc8 pm8 cd8 ct8 oc9 kV9 dc9 pm9 cd9 ct9 oc10 kV10 dc10 pm10 cd10 ct10 oc11 kV11 dc11 pm11 cd11 ct11 oc12 kV12 dc12 pm12 cd12 ct12 oc13 kV13 dc13 pm13 cd13 ct13 oc14 kV14 dc14 pm14 cd14 ct14 oc15 kV15 dc15 pm15 cd15 ct15 oc16 kV16 dc16 pm16 cd16 ct16 oc17 kV17 dc17 pm17 cd17 ct17 oc18 kV18 dc18 pm18 cd18 ct18 oc19 kV19 dc19 pm19 cd19 ct19 oc20 kV20 dc20 pm20 cd20 ct20 oc21 kV21 dc21 pm21 cd21 ct21 oc22 kV22 dc22 pm22 cd22 ct22 oc23 kV23 dc23 pm23 cd23 ct23 oc24 kV24 dc24 pm24 cd24 ct24 oc25 kV25 dc25 pm25 cd25 ct25 oc26 kV26 dc26 pm26 cd26 ct26 oc27 kV27 dc27 pm27 cd27 ct27 : Value}
    (a0 : PySem.W.nsIn K mainGlobals "is_day" = some (some (.ref f0)))
    (l0 : K.lookup f0=some ⟨oc0,od0,.func (PySem.W.fnOf "is_day" "is_day" (defArgs s_is_day) (defBody s_is_day) (defScope s_is_day) .none kV0 dc0 pm0 an0 cd0 ct0),sl0⟩)
    (c0 : PySem.W.codeIn K cd0 "is_day" = true)
    (k0 : PySem.W.keepIn K (.ref f0)=true)
    (a1 : PySem.W.nsIn K mainGlobals "check_day" = some (some (.ref f1)))
    (l1 : K.lookup f1=some ⟨oc1,od1,.func (PySem.W.fnOf "check_day" "check_day" (defArgs s_check_day) (defBody s_check_day) (defScope s_check_day) .none kV1 dc1 pm1 an1 cd1 ct1),sl1⟩)
    (c1 : PySem.W.codeIn K cd1 "check_day" = true)
    (k1 : PySem.W.keepIn K (.ref f1)=true)
    (a2 : PySem.W.nsIn K mainGlobals "check_term" = some (some (.ref f2)))
    (l2 : K.lookup f2=some ⟨oc2,od2,.func (PySem.W.fnOf "check_term" "check_term" (defArgs s_check_term) (defBody s_check_term) (defScope s_check_term) .none kV2 dc2 pm2 an2 cd2 ct2),sl2⟩)
    (c2 : PySem.W.codeIn K cd2 "check_term" = true)
    (k2 : PySem.W.keepIn K (.ref f2)=true)
    (a3 : PySem.W.nsIn K mainGlobals "check_many" = some (some (.ref f3)))
    (l3 : K.lookup f3=some ⟨oc3,od3,.func (PySem.W.fnOf "check_many" "check_many" (defArgs s_check_many) (defBody s_check_many) (defScope s_check_many) .none kV3 dc3 pm3 an3 cd3 ct3),sl3⟩)
    (c3 : PySem.W.codeIn K cd3 "check_many" = true)
    (k3 : PySem.W.keepIn K (.ref f3)=true)
    (a4 : PySem.W.nsIn K mainGlobals "check_count" = some (some (.ref f4)))
    (l4 : K.lookup f4=some ⟨oc4,od4,.func (PySem.W.fnOf "check_count" "check_count" (defArgs s_check_count) (defBody s_check_count) (defScope s_check_count) .none kV4 dc4 pm4 an4 cd4 ct4),sl4⟩)
    (c4 : PySem.W.codeIn K cd4 "check_count" = true)
    (k4 : PySem.W.keepIn K (.ref f4)=true)
    (a5 : PySem.W.nsIn K mainGlobals "check_duty" = some (some (.ref f5)))
    (l5 : K.lookup f5=some ⟨oc5,od5,.func (PySem.W.fnOf "check_duty" "check_duty" (defArgs s_check_duty) (defBody s_check_duty) (defScope s_check_duty) .none kV5 dc5 pm5 an5 cd5 ct5),sl5⟩)
    (c5 : PySem.W.codeIn K cd5 "check_duty" = true)
    (k5 : PySem.W.keepIn K (.ref f5)=true)
    (a6 : PySem.W.nsIn K mainGlobals "checked_lots" = some (some (.ref f6)))
    (l6 : K.lookup f6=some ⟨oc6,od6,.func (PySem.W.fnOf "checked_lots" "checked_lots" (defArgs s_checked_lots) (defBody s_checked_lots) (defScope s_checked_lots) .none kV6 dc6 pm6 an6 cd6 ct6),sl6⟩)
    (c6 : PySem.W.codeIn K cd6 "checked_lots" = true)
    (k6 : PySem.W.keepIn K (.ref f6)=true)
    (a7 : PySem.W.nsIn K mainGlobals "checked_outs" = some (some (.ref f7)))
    (l7 : K.lookup f7=some ⟨oc7,od7,.func (PySem.W.fnOf "checked_outs" "checked_outs" (defArgs s_checked_outs) (defBody s_checked_outs) (defScope s_checked_outs) .none kV7 dc7 pm7 an7 cd7 ct7),sl7⟩)
    (c7 : PySem.W.codeIn K cd7 "checked_outs" = true)
    (k7 : PySem.W.keepIn K (.ref f7)=true)
    (a8 : PySem.W.nsIn K mainGlobals "checked_both" = some (some (.ref f8)))
    (l8 : K.lookup f8=some ⟨oc8,od8,.func (PySem.W.fnOf "checked_both" "checked_both" (defArgs s_checked_both) (defBody s_checked_both) (defScope s_checked_both) .none kV8 dc8 pm8 an8 cd8 ct8),sl8⟩)
    (c8 : PySem.W.codeIn K cd8 "checked_both" = true)
    (k8 : PySem.W.keepIn K (.ref f8)=true)
    (a9 : PySem.W.nsIn K mainGlobals "dearest" = some (some (.ref f9)))
    (l9 : K.lookup f9=some ⟨oc9,od9,.func (PySem.W.fnOf "dearest" "dearest" (defArgs s_dearest) (defBody s_dearest) (defScope s_dearest) .none kV9 dc9 pm9 an9 cd9 ct9),sl9⟩)
    (c9 : PySem.W.codeIn K cd9 "dearest" = true)
    (k9 : PySem.W.keepIn K (.ref f9)=true)
    (a10 : PySem.W.nsIn K mainGlobals "going" = some (some (.ref f10)))
    (l10 : K.lookup f10=some ⟨oc10,od10,.func (PySem.W.fnOf "going" "going" (defArgs s_going) (defBody s_going) (defScope s_going) .none kV10 dc10 pm10 an10 cd10 ct10),sl10⟩)
    (c10 : PySem.W.codeIn K cd10 "going" = true)
    (k10 : PySem.W.keepIn K (.ref f10)=true)
    (a11 : PySem.W.nsIn K mainGlobals "days_of" = some (some (.ref f11)))
    (l11 : K.lookup f11=some ⟨oc11,od11,.func (PySem.W.fnOf "days_of" "days_of" (defArgs s_days_of) (defBody s_days_of) (defScope s_days_of) .none kV11 dc11 pm11 an11 cd11 ct11),sl11⟩)
    (c11 : PySem.W.codeIn K cd11 "days_of" = true)
    (k11 : PySem.W.keepIn K (.ref f11)=true)
    (a12 : PySem.W.nsIn K mainGlobals "stretches_of" = some (some (.ref f12)))
    (l12 : K.lookup f12=some ⟨oc12,od12,.func (PySem.W.fnOf "stretches_of" "stretches_of" (defArgs s_stretches_of) (defBody s_stretches_of) (defScope s_stretches_of) .none kV12 dc12 pm12 an12 cd12 ct12),sl12⟩)
    (c12 : PySem.W.codeIn K cd12 "stretches_of" = true)
    (k12 : PySem.W.keepIn K (.ref f12)=true)
    (a13 : PySem.W.nsIn K mainGlobals "against_each" = some (some (.ref f13)))
    (l13 : K.lookup f13=some ⟨oc13,od13,.func (PySem.W.fnOf "against_each" "against_each" (defArgs s_against_each) (defBody s_against_each) (defScope s_against_each) .none kV13 dc13 pm13 an13 cd13 ct13),sl13⟩)
    (c13 : PySem.W.codeIn K cd13 "against_each" = true)
    (k13 : PySem.W.keepIn K (.ref f13)=true)
    (a14 : PySem.W.nsIn K mainGlobals "lessened" = some (some (.ref f14)))
    (l14 : K.lookup f14=some ⟨oc14,od14,.func (PySem.W.fnOf "lessened" "lessened" (defArgs s_lessened) (defBody s_lessened) (defScope s_lessened) .none kV14 dc14 pm14 an14 cd14 ct14),sl14⟩)
    (c14 : PySem.W.codeIn K cd14 "lessened" = true)
    (k14 : PySem.W.keepIn K (.ref f14)=true)
    (a15 : PySem.W.nsIn K mainGlobals "free_at" = some (some (.ref f15)))
    (l15 : K.lookup f15=some ⟨oc15,od15,.func (PySem.W.fnOf "free_at" "free_at" (defArgs s_free_at) (defBody s_free_at) (defScope s_free_at) .none kV15 dc15 pm15 an15 cd15 ct15),sl15⟩)
    (c15 : PySem.W.codeIn K cd15 "free_at" = true)
    (k15 : PySem.W.keepIn K (.ref f15)=true)
    (a16 : PySem.W.nsIn K mainGlobals "best_of" = some (some (.ref f16)))
    (l16 : K.lookup f16=some ⟨oc16,od16,.func (PySem.W.fnOf "best_of" "best_of" (defArgs s_best_of) (defBody s_best_of) (defScope s_best_of) .none kV16 dc16 pm16 an16 cd16 ct16),sl16⟩)
    (c16 : PySem.W.codeIn K cd16 "best_of" = true)
    (k16 : PySem.W.keepIn K (.ref f16)=true)
    (a17 : PySem.W.nsIn K mainGlobals "best" = some (some (.ref f17)))
    (l17 : K.lookup f17=some ⟨oc17,od17,.func (PySem.W.fnOf "best" "best" (defArgs s_best) (defBody s_best) (defScope s_best) .none kV17 dc17 pm17 an17 cd17 ct17),sl17⟩)
    (c17 : PySem.W.codeIn K cd17 "best" = true)
    (k17 : PySem.W.keepIn K (.ref f17)=true)
    (a18 : PySem.W.nsIn K mainGlobals "_law_begin" = some (some (.ref f18)))
    (l18 : K.lookup f18=some ⟨oc18,od18,.func (PySem.W.fnOf "_law_begin" "_law_begin" (defArgs s_begin) (defBody s_begin) (defScope s_begin) .none kV18 dc18 pm18 an18 cd18 ct18),sl18⟩)
    (c18 : PySem.W.codeIn K cd18 "_law_begin" = true)
    (k18 : PySem.W.keepIn K (.ref f18)=true)
    (a19 : PySem.W.nsIn K mainGlobals "_law_pick" = some (some (.ref f19)))
    (l19 : K.lookup f19=some ⟨oc19,od19,.func (PySem.W.fnOf "_law_pick" "_law_pick" (defArgs s_pick) (defBody s_pick) (defScope s_pick) .none kV19 dc19 pm19 an19 cd19 ct19),sl19⟩)
    (c19 : PySem.W.codeIn K cd19 "_law_pick" = true)
    (k19 : PySem.W.keepIn K (.ref f19)=true)
    (a20 : PySem.W.nsIn K mainGlobals "_law_some_lots" = some (some (.ref f20)))
    (l20 : K.lookup f20=some ⟨oc20,od20,.func (PySem.W.fnOf "_law_some_lots" "_law_some_lots" (defArgs s_some_lots) (defBody s_some_lots) (defScope s_some_lots) .none kV20 dc20 pm20 an20 cd20 ct20),sl20⟩)
    (c20 : PySem.W.codeIn K cd20 "_law_some_lots" = true)
    (k20 : PySem.W.keepIn K (.ref f20)=true)
    (a21 : PySem.W.nsIn K mainGlobals "_law_some_outs" = some (some (.ref f21)))
    (l21 : K.lookup f21=some ⟨oc21,od21,.func (PySem.W.fnOf "_law_some_outs" "_law_some_outs" (defArgs s_some_outs) (defBody s_some_outs) (defScope s_some_outs) .none kV21 dc21 pm21 an21 cd21 ct21),sl21⟩)
    (c21 : PySem.W.codeIn K cd21 "_law_some_outs" = true)
    (k21 : PySem.W.keepIn K (.ref f21)=true)
    (a22 : PySem.W.nsIn K mainGlobals "_law_small" = some (some (.ref f22)))
    (l22 : K.lookup f22=some ⟨oc22,od22,.func (PySem.W.fnOf "_law_small" "_law_small" (defArgs s_small) (defBody s_small) (defScope s_small) .none kV22 dc22 pm22 an22 cd22 ct22),sl22⟩)
    (c22 : PySem.W.codeIn K cd22 "_law_small" = true)
    (k22 : PySem.W.keepIn K (.ref f22)=true)
    (a23 : PySem.W.nsIn K mainGlobals "_law_seat_row" = some (some (.ref f23)))
    (l23 : K.lookup f23=some ⟨oc23,od23,.func (PySem.W.fnOf "_law_seat_row" "_law_seat_row" (defArgs s_seat_row) (defBody s_seat_row) (defScope s_seat_row) .none kV23 dc23 pm23 an23 cd23 ct23),sl23⟩)
    (c23 : PySem.W.codeIn K cd23 "_law_seat_row" = true)
    (k23 : PySem.W.keepIn K (.ref f23)=true)
    (a24 : PySem.W.nsIn K mainGlobals "_law_unit_row" = some (some (.ref f24)))
    (l24 : K.lookup f24=some ⟨oc24,od24,.func (PySem.W.fnOf "_law_unit_row" "_law_unit_row" (defArgs s_unit_row) (defBody s_unit_row) (defScope s_unit_row) .none kV24 dc24 pm24 an24 cd24 ct24),sl24⟩)
    (c24 : PySem.W.codeIn K cd24 "_law_unit_row" = true)
    (k24 : PySem.W.keepIn K (.ref f24)=true)
    (a25 : PySem.W.nsIn K mainGlobals "_law_goes_over" = some (some (.ref f25)))
    (l25 : K.lookup f25=some ⟨oc25,od25,.func (PySem.W.fnOf "_law_goes_over" "_law_goes_over" (defArgs s_goes_over) (defBody s_goes_over) (defScope s_goes_over) .none kV25 dc25 pm25 an25 cd25 ct25),sl25⟩)
    (c25 : PySem.W.codeIn K cd25 "_law_goes_over" = true)
    (k25 : PySem.W.keepIn K (.ref f25)=true)
    (a26 : PySem.W.nsIn K mainGlobals "_law_seated" = some (some (.ref f26)))
    (l26 : K.lookup f26=some ⟨oc26,od26,.func (PySem.W.fnOf "_law_seated" "_law_seated" (defArgs s_seated) (defBody s_seated) (defScope s_seated) .none kV26 dc26 pm26 an26 cd26 ct26),sl26⟩)
    (c26 : PySem.W.codeIn K cd26 "_law_seated" = true)
    (k26 : PySem.W.keepIn K (.ref f26)=true)
    (a27 : PySem.W.nsIn K mainGlobals "law" = some (some (.ref f27)))
    (l27 : K.lookup f27=some ⟨oc27,od27,.func (PySem.W.fnOf "law" "law" (defArgs s_law) (defBody s_law) (defScope s_law) .none kV27 dc27 pm27 an27 cd27 ct27),sl27⟩)
    (c27 : PySem.W.codeIn K cd27 "law" = true)
    (k27 : PySem.W.keepIn K (.ref f27)=true)
    (z_len : PySem.W.nsIn K mainGlobals "len" = some none)
    (z_list : PySem.W.nsIn K mainGlobals "list" = some none)
    (z_isi : PySem.W.nsIn K mainGlobals "isinstance" = some none)
    (z_bool : PySem.W.nsIn K mainGlobals "bool" = some none)
    (z_int : PySem.W.nsIn K mainGlobals "int" = some none)
    (z_str : PySem.W.nsIn K mainGlobals "str" = some none)
    (z_tuple : PySem.W.nsIn K mainGlobals "tuple" = some none)
    (z_all : PySem.W.nsIn K mainGlobals "all" = some none)
    (z_any : PySem.W.nsIn K mainGlobals "any" = some none)
    (z_zip : PySem.W.nsIn K mainGlobals "zip" = some none)
    (z_range : PySem.W.nsIn K mainGlobals "range" = some none)
    (z_max : PySem.W.nsIn K mainGlobals "max" = some none)
    (z_min : PySem.W.nsIn K mainGlobals "min" = some none)
    (z_enumerate : PySem.W.nsIn K mainGlobals "enumerate" = some none)
    (z_sum : PySem.W.nsIn K mainGlobals "sum" = some none)
    (z_sorted : PySem.W.nsIn K mainGlobals "sorted" = some none)
    (z_verr : PySem.W.nsIn K mainGlobals "ValueError" = some none)
    (z_set : PySem.W.nsIn K mainGlobals "set" = some none)
    (g_FIRST_DAY : PySem.W.nsIn K mainGlobals "FIRST_DAY" = some (some (.int 1 u_FIRST_DAY)))
    (g_LAST_DAY : PySem.W.nsIn K mainGlobals "LAST_DAY" = some (some (.int 999 u_LAST_DAY)))
    (g_MOST_TERM : PySem.W.nsIn K mainGlobals "MOST_TERM" = some (some (.int 400 u_MOST_TERM)))
    (g_MOST_ROWS : PySem.W.nsIn K mainGlobals "MOST_ROWS" = some (some (.int 30 u_MOST_ROWS)))
    (g_MOST_COUNT : PySem.W.nsIn K mainGlobals "MOST_COUNT" = some (some (.int 10000000000 u_MOST_COUNT)))
    (g_MOST_DUTY : PySem.W.nsIn K mainGlobals "MOST_DUTY" = some (some (.int 1000000 u_MOST_DUTY)))
    (g_0 : PySem.W.nsIn K mainGlobals "CustomsError" = some (some (.ref c_0)))
    (g_1 : PySem.W.nsIn K mainGlobals "BadDay" = some (some (.ref c_1)))
    (g_2 : PySem.W.nsIn K mainGlobals "BadTerm" = some (some (.ref c_2)))
    (g_3 : PySem.W.nsIn K mainGlobals "BadCount" = some (some (.ref c_3)))
    (g_4 : PySem.W.nsIn K mainGlobals "BadDuty" = some (some (.ref c_4)))
    (g_5 : PySem.W.nsIn K mainGlobals "BadRows" = some (some (.ref c_5)))
    (x_1 : PySem.W.excIn K c_1 vbm "ValueError.__new__" = true)
    (x_2 : PySem.W.excIn K c_2 vbm "ValueError.__new__" = true)
    (x_3 : PySem.W.excIn K c_3 vbm "ValueError.__new__" = true)
    (x_4 : PySem.W.excIn K c_4 vbm "ValueError.__new__" = true)
    (x_5 : PySem.W.excIn K c_5 vbm "ValueError.__new__" = true)
    : ∃ fd : FuncData,(∀ (s : Shared) (v : Value),BindsTo s fd ⟨[v],[]⟩ [("_law_script",v)])∧∀ base : Heap,K.In base→base.Ns mainGlobals mg→FnOk l.prog w K mg base CX0 27 fa fd ["_law_script"] (spLaw K):=by
  have e:=hfa.symm.trans (PySem.W.mg_of X G a27)
  cases e
  have F0:=fun_mk (st:=s_is_day) l0 c0 k0
  have F1:=fun_mk (st:=s_check_day) l1 c1 k1
  have F2:=fun_mk (st:=s_check_term) l2 c2 k2
  have F3:=fun_mk (st:=s_check_many) l3 c3 k3
  have F4:=fun_mk (st:=s_check_count) l4 c4 k4
  have F5:=fun_mk (st:=s_check_duty) l5 c5 k5
  have F6:=fun_mk (st:=s_checked_lots) l6 c6 k6
  have F7:=fun_mk (st:=s_checked_outs) l7 c7 k7
  have F8:=fun_mk (st:=s_checked_both) l8 c8 k8
  have F9:=fun_mk (st:=s_dearest) l9 c9 k9
  have F10:=fun_mk (st:=s_going) l10 c10 k10
  have F11:=fun_mk (st:=s_days_of) l11 c11 k11
  have F12:=fun_mk (st:=s_stretches_of) l12 c12 k12
  have F13:=fun_mk (st:=s_against_each) l13 c13 k13
  have F14:=fun_mk (st:=s_lessened) l14 c14 k14
  have F15:=fun_mk (st:=s_free_at) l15 c15 k15
  have F16:=fun_mk (st:=s_best_of) l16 c16 k16
  have F17:=fun_mk (st:=s_best) l17 c17 k17
  have F18:=fun_mk (st:=s_begin) l18 c18 k18
  have F19:=fun_mk (st:=s_pick) l19 c19 k19
  have F20:=fun_mk (st:=s_some_lots) l20 c20 k20
  have F21:=fun_mk (st:=s_some_outs) l21 c21 k21
  have F22:=fun_mk (st:=s_small) l22 c22 k22
  have F23:=fun_mk (st:=s_seat_row) l23 c23 k23
  have F24:=fun_mk (st:=s_unit_row) l24 c24 k24
  have F25:=fun_mk (st:=s_goes_over) l25 c25 k25
  have F26:=fun_mk (st:=s_seated) l26 c26 k26
  have F27:=fun_mk (st:=s_law) l27 c27 k27
  have b0:=F0.binds (ps:=p_is_day) fun _ _ _ _ _ _ us hl=>match us,hl with | [_],_=>rfl
  have m0:=PySem.W.mg_of X G a0
  have b1:=F1.binds (ps:=p_check_day) fun _ _ _ _ _ _ us hl=>match us,hl with | [_],_=>rfl
  have m1:=PySem.W.mg_of X G a1
  have b2:=F2.binds (ps:=p_check_term) fun _ _ _ _ _ _ us hl=>match us,hl with | [_],_=>rfl
  have m2:=PySem.W.mg_of X G a2
  have b3:=F3.binds (ps:=p_check_many) fun _ _ _ _ _ _ us hl=>match us,hl with | [_],_=>rfl
  have m3:=PySem.W.mg_of X G a3
  have b4:=F4.binds (ps:=p_check_count) fun _ _ _ _ _ _ us hl=>match us,hl with | [_],_=>rfl
  have m4:=PySem.W.mg_of X G a4
  have b5:=F5.binds (ps:=p_check_duty) fun _ _ _ _ _ _ us hl=>match us,hl with | [_],_=>rfl
  have m5:=PySem.W.mg_of X G a5
  have b6:=F6.binds (ps:=p_checked_lots) fun _ _ _ _ _ _ us hl=>match us,hl with | [_],_=>rfl
  have m6:=PySem.W.mg_of X G a6
  have b7:=F7.binds (ps:=p_checked_outs) fun _ _ _ _ _ _ us hl=>match us,hl with | [_],_=>rfl
  have m7:=PySem.W.mg_of X G a7
  have b8:=F8.binds (ps:=p_checked_both) fun _ _ _ _ _ _ us hl=>match us,hl with | [_,_,_],_=>rfl
  have m8:=PySem.W.mg_of X G a8
  have b9:=F9.binds (ps:=p_dearest) fun _ _ _ _ _ _ us hl=>match us,hl with | [_],_=>rfl
  have m9:=PySem.W.mg_of X G a9
  have b10:=F10.binds (ps:=p_going) fun _ _ _ _ _ _ us hl=>match us,hl with | [_,_,_],_=>rfl
  have m10:=PySem.W.mg_of X G a10
  have b11:=F11.binds (ps:=p_days_of) fun _ _ _ _ _ _ us hl=>match us,hl with | [_],_=>rfl
  have m11:=PySem.W.mg_of X G a11
  have b12:=F12.binds (ps:=p_stretches_of) fun _ _ _ _ _ _ us hl=>match us,hl with | [_],_=>rfl
  have m12:=PySem.W.mg_of X G a12
  have b13:=F13.binds (ps:=p_against_each) fun _ _ _ _ _ _ us hl=>match us,hl with | [_,_,_],_=>rfl
  have m13:=PySem.W.mg_of X G a13
  have b14:=F14.binds (ps:=p_lessened) fun _ _ _ _ _ _ us hl=>match us,hl with | [_,_,_],_=>rfl
  have m14:=PySem.W.mg_of X G a14
  have b15:=F15.binds (ps:=p_free_at) fun _ _ _ _ _ _ us hl=>match us,hl with | [_,_,_],_=>rfl
  have m15:=PySem.W.mg_of X G a15
  have b16:=F16.binds (ps:=p_best_of) fun _ _ _ _ _ _ us hl=>match us,hl with | [_,_,_],_=>rfl
  have m16:=PySem.W.mg_of X G a16
  have b17:=F17.binds (ps:=p_best) fun _ _ _ _ _ _ us hl=>match us,hl with | [_,_,_],_=>rfl
  have m17:=PySem.W.mg_of X G a17
  have b18:=F18.binds (ps:=p_begin) fun _ _ _ _ _ _ us hl=>match us,hl with | [_],_=>rfl
  have m18:=PySem.W.mg_of X G a18
  have b19:=F19.binds (ps:=p_pick) fun _ _ _ _ _ _ us hl=>match us,hl with | [_,_],_=>rfl
  have m19:=PySem.W.mg_of X G a19
  have b20:=F20.binds (ps:=p_some_lots) fun _ _ _ _ _ _ us hl=>match us,hl with | [_,_,_,_],_=>rfl
  have m20:=PySem.W.mg_of X G a20
  have b21:=F21.binds (ps:=p_some_outs) fun _ _ _ _ _ _ us hl=>match us,hl with | [_,_,_,_],_=>rfl
  have m21:=PySem.W.mg_of X G a21
  have b22:=F22.binds (ps:=p_small) fun _ _ _ _ _ _ us hl=>match us,hl with | [_,_,_],_=>rfl
  have m22:=PySem.W.mg_of X G a22
  have b23:=F23.binds (ps:=p_seat_row) fun _ _ _ _ _ _ us hl=>match us,hl with | [_],_=>rfl
  have m23:=PySem.W.mg_of X G a23
  have b24:=F24.binds (ps:=p_unit_row) fun _ _ _ _ _ _ us hl=>match us,hl with | [_,_],_=>rfl
  have m24:=PySem.W.mg_of X G a24
  have b25:=F25.binds (ps:=p_goes_over) fun _ _ _ _ _ _ us hl=>match us,hl with | [_,_,_,_,_,_],_=>rfl
  have m25:=PySem.W.mg_of X G a25
  have b26:=F26.binds (ps:=p_seated) fun _ _ _ _ _ _ us hl=>match us,hl with | [_,_,_],_=>rfl
  have m26:=PySem.W.mg_of X G a26
  have B : Bn mg:=⟨PySem.W.mg_none_of X G z_len,PySem.W.mg_none_of X G z_list,PySem.W.mg_none_of X G z_isi,PySem.W.mg_none_of X G z_bool,PySem.W.mg_none_of X G z_int,PySem.W.mg_none_of X G z_str,PySem.W.mg_none_of X G z_tuple,PySem.W.mg_none_of X G z_all,PySem.W.mg_none_of X G z_any,PySem.W.mg_none_of X G z_zip,PySem.W.mg_none_of X G z_range,PySem.W.mg_none_of X G z_max,PySem.W.mg_none_of X G z_min,PySem.W.mg_none_of X G z_enumerate,PySem.W.mg_none_of X G z_sum,PySem.W.mg_none_of X G z_sorted,PySem.W.mg_none_of X G z_verr⟩
  have N_set : mg "set" = none:=PySem.W.mg_none_of X G z_set
  have TY : ∃ cl : Nat→Addr,Txt K mg cl:=by
    refine ⟨(clF c_0 c_1 c_2 c_3 c_4 c_5),⟨⟨_,PySem.W.mg_of X G g_FIRST_DAY⟩,⟨_,PySem.W.mg_of X G g_LAST_DAY⟩,⟨_,PySem.W.mg_of X G g_MOST_TERM⟩,⟨_,PySem.W.mg_of X G g_MOST_ROWS⟩,⟨_,PySem.W.mg_of X G g_MOST_COUNT⟩,⟨_,PySem.W.mg_of X G g_MOST_DUTY⟩,PySem.W.mg_of X G g_0,PySem.W.mg_of X G g_1,PySem.W.mg_of X G g_2,PySem.W.mg_of X G g_3,PySem.W.mg_of X G g_4,PySem.W.mg_of X G g_5,x_1,x_2,x_3,x_4,x_5⟩⟩
  obtain ⟨cl,T⟩:=TY
  refine ⟨PySem.W.fnOf "law" "law" (defArgs s_law) (defBody s_law) (defScope s_law) .none kV27 dc27 pm27 an27 cd27 ct27,fun s v=>.of_eq rfl,fun base _ _=>?_⟩
  have G0 : Cal l.prog w K mg base CX0 1 "is_day" p_is_day spIsDay:=⟨⟨_,_,ok_is_day T B F0,b0,k0,m0⟩⟩
  have G1 : Cal l.prog w K mg base (CXE l.prog w) 2 "check_day" p_check_day (spIn (cl 1) 999):=⟨⟨_,_,ok_check_day T B G0 F1,b1,k1,m1⟩⟩
  have G2 : Cal l.prog w K mg base (CXE l.prog w) 2 "check_term" p_check_term (spTerm (cl 2)):=⟨⟨_,_,ok_check_term T B F2,b2,k2,m2⟩⟩
  have G3 : Cal l.prog w K mg base (CXE l.prog w) 2 "check_many" p_check_many (spMany (cl 5)):=⟨⟨_,_,ok_check_many T B F3,b3,k3,m3⟩⟩
  have G4 : Cal l.prog w K mg base (CXE l.prog w) 2 "check_count" p_check_count (spIn (cl 3) 10000000000):=⟨⟨_,_,ok_check_count T B F4,b4,k4,m4⟩⟩
  have G5 : Cal l.prog w K mg base (CXE l.prog w) 2 "check_duty" p_check_duty (spIn (cl 4) 1000000):=⟨⟨_,_,ok_check_duty T B F5,b5,k5,m5⟩⟩
  have G6 : Cal l.prog w K mg base (CXE l.prog w) 3 "checked_lots" p_checked_lots (spChk (cl 5) (clCol cl) 3):=⟨⟨_,_,ok_checked_lots T B G3 G1 G4 G5 F6,b6,k6,m6⟩⟩
  have G7 : Cal l.prog w K mg base (CXE l.prog w) 3 "checked_outs" p_checked_outs (spChk (cl 5) (clCol cl) 2):=⟨⟨_,_,ok_checked_outs T B G3 G1 G4 F7,b7,k7,m7⟩⟩
  have G8 : Cal l.prog w K mg base (CXE l.prog w) 4 "checked_both" p_checked_both (spBoth cl):=⟨⟨_,_,ok_checked_both T B G6 G7 G2 F8,b8,k8,m8⟩⟩
  have G9 : Cal l.prog w K mg base CX0 1 "dearest" p_dearest (spOrd keyD okD):=⟨⟨_,_,ok_dearest T B F9,b9,k9,m9⟩⟩
  have G10 : Cal l.prog w K mg base CX0 1 "going" p_going spGoing:=⟨⟨_,_,ok_going T B F10,b10,k10,m10⟩⟩
  have G11 : Cal l.prog w K mg base CX0 1 "days_of" p_days_of spDaysOf:=⟨⟨_,_,ok_days_of T B F11,b11,k11,m11⟩⟩
  have G12 : Cal l.prog w K mg base CX0 2 "stretches_of" p_stretches_of spStretchesOf:=⟨⟨_,_,ok_stretches_of T B G11 F12,b12,k12,m12⟩⟩
  have G13 : Cal l.prog w K mg base CX0 3 "against_each" p_against_each spAgainstEach:=⟨⟨_,_,ok_against_each T B G12 G10 F13,b13,k13,m13⟩⟩
  have G14 : Cal l.prog w K mg base CX0 1 "lessened" p_lessened spLessened:=⟨⟨_,_,ok_lessened T B F14,b14,k14,m14⟩⟩
  have G15 : Cal l.prog w K mg base CX0 1 "free_at" p_free_at spFreeAt:=⟨⟨_,_,ok_free_at T B F15,b15,k15,m15⟩⟩
  have G16 : Cal l.prog w K mg base CX0 4 "best_of" p_best_of spBestOf:=⟨⟨_,_,ok_best_of T B G13 G9 G15 G14 F16,b16,k16,m16⟩⟩
  have G17 : Cal l.prog w K mg base (CXE l.prog w) 5 "best" p_best (spBest cl):=⟨⟨_,_,ok_best T B G8 G16 F17,b17,k17,m17⟩⟩
  have G18 : Cal l.prog w K mg base CX0 1 "_law_begin" p_begin (spBegin K):=⟨⟨_,_,ok_begin F18 B,b18,k18,m18⟩⟩
  have G19 : Cal l.prog w K mg base CX0 1 "_law_pick" p_pick spPick:=⟨⟨_,_,ok_pick F19 B,b19,k19,m19⟩⟩
  have G20 : Cal l.prog w K mg base CX0 2 "_law_some_lots" p_some_lots spLots:=⟨⟨_,_,ok_some_lots B G19 F20,b20,k20,m20⟩⟩
  have G21 : Cal l.prog w K mg base CX0 2 "_law_some_outs" p_some_outs spOuts:=⟨⟨_,_,ok_some_outs B G19 F21,b21,k21,m21⟩⟩
  have G22 : Cal l.prog w K mg base CX0 3 "_law_small" p_small spSmall:=⟨⟨_,_,ok_small B G19 G20 G21 F22,b22,k22,m22⟩⟩
  have G23 : Cal l.prog w K mg base CX0 1 "_law_seat_row" p_seat_row spSeatRow:=⟨⟨_,_,ok_seat_row B F23,b23,k23,m23⟩⟩
  have G24 : Cal l.prog w K mg base CX0 1 "_law_unit_row" p_unit_row spUnitRow:=⟨⟨_,_,ok_unit_row B F24,b24,k24,m24⟩⟩
  have G25 : Cal l.prog w K mg base CX0 25 "_law_goes_over" p_goes_over (spGoes 25):=⟨⟨_,_,ok_goes B F25 b25 k25 m25 25,b25,k25,m25⟩⟩
  have G26 : Cal l.prog w K mg base CX0 26 "_law_seated" p_seated spSeated:=⟨⟨_,_,ok_seated B G25 F26,b26,k26,m26⟩⟩
  exact ok_law B N_set G18 G22 G23 G24 G26 G17 F27
theorem walk {l : PySem.W.OpenLaw} {q : Program} {loose : List Str} {XP : (Str→Option Value)→Heap→Prop} {YP : World→Heap→Prop} {d : DefRec} {K : Params→PySem.W.Frag} (hn : l.most=some 63) (hdf : d.params.defaults=[])
    (hY : ∀ (w : World) (h : Heap),YP w h→(K w.params).In h)
    (F : ∀ (w : World) (mg : Str→Option Value) (fa : Addr) (h : Heap),(K w.params).In h→h.Ns mainGlobals mg→mg d.name=some (.ref fa)→
      ∃ fd : FuncData,(∀ (s : Shared) (u : Value),BindsTo s fd ⟨[u],[]⟩ [("_law_script",u)])∧∀ base : Heap,(K w.params).In base→base.Ns mainGlobals mg→FnOk l.prog w (K w.params) mg base CX0 27 fa fd ["_law_script"] (spLaw (K w.params))) :
    PySem.W.WalkO q loose XP YP l.row.toRowW d [] (fun f vs=>PySem.call f vs):=
  L2.walk_of (n:=63) (k:=27) (x := "_law_script") (CX:=fun _=>CX0) (sp:=fun w=>spLaw (K w.params)) hn (by decide) hdf ⟨rfl,by decide,by decide⟩ hY F (fun _ _ a ns hl _ hS=>⟨a,ns,rfl,hS,hl,fun _=>rfl⟩) fun _ _ _ _ _ z=>z
end K11
def PySem.W.Fast.tw14358989943210821286 : Nat:=0
def PySem.W.Fast.tw5473988882533840439 : Nat:=0
def PySem.W.Fast.tw8752796602117070564 : Nat:=0
def PySem.W.Fast.tw14612514609846915452 : Nat:=0
def PySem.W.Fast.tw14307575523130284919 : Nat:=0
def PySem.W.Fast.tw783414598055288426 : Nat:=0
def PySem.W.Fast.tw4742208414319099491 : Nat:=0
def PySem.W.Fast.tw12446541778337994638 : Nat:=0
def PySem.W.Fast.tw9457904537966096693 : Nat:=0
def PySem.W.Fast.tw4293660868855662601 : Nat:=0
def PySem.W.Fast.tw2301517407893819064 : Nat:=0
def PySem.W.Fast.tw9973787416156203352 : Nat:=0
def PySem.W.Fast.tw1239978066648623072 : Nat:=0
def PySem.W.Fast.tw12186928263677394829 : Nat:=0
def PySem.W.Fast.tw1023387543688188329 : Nat:=0
def PySem.W.Fast.tw3659407221459643634 : Nat:=0
def PySem.W.Fast.tw17236117895902368515 : Nat:=0
def PySem.W.Fast.tw3717787563942167357 : Nat:=0
def PySem.W.Fast.tw3833384843030910097 : Nat:=0
def PySem.W.Fast.tw6380499647521367571 : Nat:=0
def PySem.W.Fast.tw9597859604292592404 : Nat:=0
def PySem.W.Fast.tw2805708929608364114 : Nat:=0
def PySem.W.Fast.tw16690230026816689443 : Nat:=0
def PySem.W.Fast.tw16053020428431087892 : Nat:=0
def PySem.W.Fast.tw3048750725333740822 : Nat:=0
def PySem.W.Fast.tw7479344895246684437 : Nat:=0
def PySem.W.Fast.tw11064090643696770089 : Nat:=0
def PySem.W.Fast.tw6774548180336630799 : Nat:=0
def PySem.W.Fast.tw11807794547792509960 : Nat:=0
def PySem.W.Fast.tw17860927150519723912 : Nat:=0
def PySem.W.Fast.tw1244082929517001304 : Nat:=0
def PySem.W.Fast.tw18132333017203765379 : Nat:=0
def PySem.W.Fast.tw17069170482291878435 : Nat:=0
def PySem.W.Fast.tw2599693144991048683 : Nat:=0
def PySem.W.Fast.tw9852964941070685176 : Nat:=0
def PySem.W.Fast.tw7407283298004862926 : Nat:=0
def PySem.W.Fast.tw16758865036816145696 : Nat:=0
def PySem.W.Fast.tw7919116103680486817 : Nat:=0
def PySem.W.Fast.tw4093137491761093147 : Nat:=0
def PySem.W.Fast.tw9503428148438570052 : Nat:=0
def PySem.W.Fast.tw10747593694289371337 : Nat:=0
def PySem.W.Fast.tw8863388128325263939 : Nat:=0
def PySem.W.Fast.tw16878474962631541708 : Nat:=0
def PySem.W.Fast.tw3261677023041727961 : Nat:=0
def PySem.W.Fast.tw8441032268966300042 : Nat:=0
def PySem.W.Fast.tw5268222511588340425 : Nat:=0
def PySem.W.Fast.tw12894770745129150729 : Nat:=0
def PySem.W.Fast.tw11048869043778992238 : Nat:=0
def PySem.W.Fast.tw14689731409757191258 : Nat:=0
def PySem.W.Fast.tw1661462695643855975 : Nat:=0
def PySem.W.Fast.tw12212316387736713023 : Nat:=0
def PySem.W.Fast.tw10296603224097167823 : Nat:=0
def PySem.W.Fast.tw12661291811683410408 : Nat:=0
def PySem.W.Fast.tw3329500563032354445 : Nat:=0
def PySem.W.Fast.tw4624640330577803488 : Nat:=0
def PySem.W.Fast.tw14976282931307127778 : Nat:=0
def PySem.W.Fast.tw16089565630603209502 : Nat:=0
def PySem.W.Fast.tw1738364803659003691 : Nat:=0
def PySem.W.Fast.tw13347275594466528274 : Nat:=0
def PySem.W.Fast.tw880633689759382025 : Nat:=0
def PySem.W.Fast.tw2447678290329606410 : Nat:=0
def PySem.W.Fast.tw10837516292079356745 : Nat:=0
def PySem.W.Fast.tw13941179220809408533 : Nat:=0
def PySem.W.Fast.tw1211193876918212373 : Nat:=0
def PySem.W.Fast.tw3934911365028372377 : Nat:=0
def PySem.W.Fast.tw16281649657113179693 : Nat:=0
def PySem.W.Fast.tw18116380924870200313 : Nat:=0
def PySem.W.Fast.tw13772680581538883924 : Nat:=0
def PySem.W.Fast.tw16302038160546480975 : Nat:=0
def PySem.W.Fast.tw7831379900827497302 : Nat:=0
def PySem.W.Fast.tw13635896273509848793 : Nat:=0
def PySem.W.Fast.tw4380179905180309680 : Nat:=0
def PySem.W.Fast.tw14193514226870571802 : Nat:=0
def PySem.W.Fast.tw11619941749446759217 : Nat:=0
def PySem.W.Fast.tw3416483648231812257 : Nat:=0
def PySem.W.Fast.tw12147651826067912803 : Nat:=0
def PySem.W.Fast.tw13899762971050916492 : Nat:=0
def PySem.W.Fast.tw11857694622332869824 : Nat:=0
def PySem.W.Fast.tw18445830785690025769 : Nat:=0
def PySem.W.Fast.tw1324235527658668114 : Nat:=0
def PySem.W.Fast.tw12985387175767159461 : Nat:=0
def PySem.W.Fast.tw14761097191087626215 : Nat:=0
def PySem.W.Fast.tw14503546357280745586 : Nat:=0
def PySem.W.Fast.tw7233256301714828129 : Nat:=0
def PySem.W.Fast.tw14108997205897901645 : Nat:=0
def PySem.W.Fast.tw16886355509534568825 : Nat:=0
def PySem.W.Fast.tw7940170997748480515 : Nat:=0
def PySem.W.Fast.tw4160305027623451974 : Nat:=0
def PySem.W.Fast.tw15047031556806284436 : Nat:=0
def PySem.W.Fast.tw3197702527350243807 : Nat:=0
def PySem.W.Fast.tw3123816552409309576 : Nat:=0
def PySem.W.Fast.tw5326013769067393732 : Nat:=0
def PySem.W.Fast.tw437089749498645673 : Nat:=0
def PySem.W.Fast.tw17219279060889219156 : Nat:=0
def PySem.W.Fast.tw478100621198793153 : Nat:=0
def PySem.W.Fast.tw15267072383336109700 : Nat:=0
def PySem.W.Fast.tw13436741202718111999 : Nat:=0
def PySem.W.Fast.tw10714762859155138125 : Nat:=0
def PySem.W.Fast.tw5435120217770291955 : Nat:=0
def PySem.W.Fast.tw10202178934927585014 : Nat:=0
def PySem.W.Fast.tw12307573531404178607 : Nat:=0
def PySem.W.Fast.tw11646991898116488796 : Nat:=0
def PySem.W.Fast.tw6653562527245859743 : Nat:=0
def PySem.W.Fast.tw5174150438962006160 : Nat:=0
def PySem.W.Fast.tw9977803815271270358 : Nat:=0
def PySem.W.Fast.tw1058200366338444132 : Nat:=0
def PySem.W.Fast.tw15732454911929696263 : Nat:=0
def PySem.W.Fast.tw7318096114350222890 : Nat:=0
def PySem.W.Fast.tw13829558383263647451 : Nat:=0
def PySem.W.Fast.tw16076205542545889000 : Nat:=0
def PySem.W.Fast.tw12453510029553442378 : Nat:=0
def PySem.W.Fast.tw14571121389620601416 : Nat:=0
def PySem.W.Fast.tw510994238540195055 : Nat:=0
def PySem.W.Fast.tw18278388355369603635 : Nat:=0
def PySem.W.Fast.tw16596284619539259396 : Nat:=0
def PySem.W.Fast.tw5883838122898393304 : Nat:=0
def PySem.W.Fast.tw9194981475437579881 : Nat:=0
def PySem.W.Fast.tw15831836739591069684 : Nat:=0
def PySem.W.Fast.tw6428522275203772370 : Nat:=0
def PySem.W.Fast.tw6276088343438737662 : Nat:=0
def PySem.W.Fast.tw9731098602583849994 : Nat:=0
def PySem.W.Fast.tw16594823842307581980 : Nat:=0
def PySem.W.Fast.tw3741058828767356542 : Nat:=0
def PySem.W.Fast.tw12783173729184264172 : Nat:=0
def PySem.W.Fast.tw9937353327018434959 : Nat:=0
def PySem.W.Fast.tw9840335566719405480 : Nat:=0
def PySem.W.Fast.tw10116715820803766744 : Nat:=0
def PySem.W.Fast.tw14224851819791723541 : Nat:=0
def PySem.W.Fast.tw14336389818276442154 : Nat:=0
def PySem.W.Fast.tw2555483124272672534 : Nat:=0
def PySem.W.Fast.tw9173362390695980643 : Nat:=0
def PySem.W.Fast.tw1850084896024124328 : Nat:=0
def PySem.W.Fast.tw12233369925552005905 : Nat:=0
def PySem.W.Fast.tw9249160744704203673 : Nat:=0
def PySem.W.Fast.tw9406998347500401743 : Nat:=0
def PySem.W.Fast.tw14739365417968365942 : Nat:=0
def PySem.W.Fast.tw10953123234903243852 : Nat:=0
def PySem.W.Fast.tw2853409990551099282 : Nat:=0
def PySem.W.Fast.tw6291843552869532282 : Nat:=0
def PySem.W.Fast.tw7269140332202243503 : Nat:=0
def PySem.W.Fast.tw12628147859376610110 : Nat:=0
def PySem.W.Fast.tw6546937571929654225 : Nat:=0
def PySem.W.Fast.tw3570161246914742167 : Nat:=0
def PySem.W.Fast.tw15540633307106288137 : Nat:=0
def PySem.W.Fast.tw7132466391747334781 : Nat:=0
def PySem.W.Fast.tw17653470145590922275 : Nat:=0
def PySem.W.Fast.tw14623144397860983637 : Nat:=0
def PySem.W.Fast.tw16040129936210013874 : Nat:=0
def PySem.W.Fast.tw12840357759969528011 : Nat:=0
def PySem.W.Fast.tw4570043469585943501 : Nat:=0
def PySem.W.Fast.tw7814976074579295776 : Nat:=0
def PySem.W.Fast.tw1808380449864872636 : Nat:=0
def PySem.W.Fast.tw9056468664390917151 : Nat:=0
def PySem.W.Fast.tw3274802487187682070 : Nat:=0
def PySem.W.Fast.tw3250979036072285648 : Nat:=0
def PySem.W.Fast.tw90974162923982563 : Nat:=0
def PySem.W.Fast.tw9855946156167964924 : Nat:=0
def PySem.W.Fast.tw4854527214791662421 : Nat:=0
def PySem.W.Fast.tw5830744824258141832 : Nat:=0
def PySem.W.Fast.tw12653994890604961353 : Nat:=0
def PySem.W.Fast.tw5491187889856629287 : Nat:=0
def PySem.W.Fast.tw6728317356086766409 : Nat:=0
def PySem.W.Fast.tw2499097079527374812 : Nat:=0
def PySem.W.Fast.tw3015570119862618263 : Nat:=0
def PySem.W.Fast.tw7080321372401952306 : Nat:=0
def PySem.W.Fast.tw14190241920103978106 : Nat:=0
def PySem.W.Fast.tw14406613835812851008 : Nat:=0
def PySem.W.Fast.tw4683639054230796929 : Nat:=0
def PySem.W.Fast.tw12127108927434060980 : Nat:=0
def PySem.W.Fast.tw11521176521426911637 : Nat:=0
def PySem.W.Fast.tw5938687253080448624 : Nat:=0
def PySem.W.Fast.tw14599864616257310990 : Nat:=0
def PySem.W.Fast.tw8850047009057482676 : Nat:=0
def PySem.W.Fast.tw13353535524031395819 : Nat:=0
def PySem.W.Fast.tw16363683067552578955 : Nat:=0
def PySem.W.Fast.tw4243721567666610886 : Nat:=0
def PySem.W.Fast.tw9707813051546167183 : Nat:=0
def PySem.W.Fast.tw2962144038628075358 : Nat:=0
def PySem.W.Fast.tw13191621960629169570 : Nat:=0
def PySem.W.Fast.tw182584310633335928 : Nat:=0
def PySem.W.Fast.tw12519194168987139650 : Nat:=0
def PySem.W.Fast.tw9673209655980792494 : Nat:=0
def PySem.W.Fast.tw4523685008676661623 : Nat:=0
def PySem.W.Fast.tw646511235544079964 : Nat:=0
def PySem.W.Fast.tw10630684664398090465 : Nat:=0
def PySem.W.Fast.tw2448163854071616954 : Nat:=0
def PySem.W.Fast.tw2581586945233655381 : Nat:=0
def PySem.W.Fast.tw12031981349089254925 : Nat:=0
def PySem.W.Fast.tw5564010577153256445 : Nat:=0
def PySem.W.Fast.tw1450889124680464219 : Nat:=0
def PySem.W.Fast.tw237841717151558287 : Nat:=0
open PySem PySem.W PyProof.Rows
set_option maxRecDepth 100000 in
set_option maxHeartbeats 0 in
theorem PySem.Challenge.cw_drawback_k11_whole_most_units_at_each_du_holds : PySem.Challenge.rw_drawback_k11_whole_most_units_at_each_du.Holds := by
  w_on; o_law; k_head; (case hw=>w_witness2)
  k_fill
  refine K11.walk (l:=PySem.Challenge.rw_drawback_k11_whole_most_units_at_each_du) rfl rfl (fun w h Y=>PySem.W.kIn_of Y) ?F
  case F=>
    intro w mg fa h KX G hmg
    refine' K11.all_mk KX G hmg ?a0 ?l0 ?c0 ?k0 ?a1 ?l1 ?c1 ?k1 ?a2 ?l2 ?c2 ?k2 ?a3 ?l3 ?c3 ?k3 ?a4 ?l4 ?c4 ?k4 ?a5 ?l5 ?c5 ?k5 ?a6 ?l6 ?c6 ?k6 ?a7 ?l7 ?c7 ?k7 ?a8 ?l8 ?c8 ?k8 ?a9 ?l9 ?c9 ?k9 ?a10 ?l10 ?c10 ?k10 ?a11 ?l11 ?c11 ?k11 ?a12 ?l12 ?c12 ?k12 ?a13 ?l13 ?c13 ?k13 ?a14 ?l14 ?c14 ?k14 ?a15 ?l15 ?c15 ?k15 ?a16 ?l16 ?c16 ?k16 ?a17 ?l17 ?c17 ?k17 ?a18 ?l18 ?c18 ?k18 ?a19 ?l19 ?c19 ?k19 ?a20 ?l20 ?c20 ?k20 ?a21 ?l21 ?c21 ?k21 ?a22 ?l22 ?c22 ?k22 ?a23 ?l23 ?c23 ?k23 ?a24 ?l24 ?c24 ?k24 ?a25 ?l25 ?c25 ?k25 ?a26 ?l26 ?c26 ?k26 ?a27 ?l27 ?c27 ?k27 ?z_len ?z_list ?z_isi ?z_bool ?z_int ?z_str ?z_tuple ?z_all ?z_any ?z_zip ?z_range ?z_max ?z_min ?z_enumerate ?z_sum ?z_sorted ?z_verr ?z_set ?g_FIRST_DAY ?g_LAST_DAY ?g_MOST_TERM ?g_MOST_ROWS ?g_MOST_COUNT ?g_MOST_DUTY ?g_0 ?g_1 ?g_2 ?g_3 ?g_4 ?g_5 ?x_1 ?x_2 ?x_3 ?x_4 ?x_5
    (case a0=>k_is)
    (case l0=>k_is)
    (case c0=>k_is)
    (case k0=>k_is)
    (case a1=>k_is)
    (case l1=>k_is)
    (case c1=>k_is)
    (case k1=>k_is)
    (case a2=>k_is)
    (case l2=>k_is)
    (case c2=>k_is)
    (case k2=>k_is)
    (case a3=>k_is)
    (case l3=>k_is)
    (case c3=>k_is)
    (case k3=>k_is)
    (case a4=>k_is)
    (case l4=>k_is)
    (case c4=>k_is)
    (case k4=>k_is)
    (case a5=>k_is)
    (case l5=>k_is)
    (case c5=>k_is)
    (case k5=>k_is)
    (case a6=>k_is)
    (case l6=>k_is)
    (case c6=>k_is)
    (case k6=>k_is)
    (case a7=>k_is)
    (case l7=>k_is)
    (case c7=>k_is)
    (case k7=>k_is)
    (case a8=>k_is)
    (case l8=>k_is)
    (case c8=>k_is)
    (case k8=>k_is)
    (case a9=>k_is)
    (case l9=>k_is)
    (case c9=>k_is)
    (case k9=>k_is)
    (case a10=>k_is)
    (case l10=>k_is)
    (case c10=>k_is)
    (case k10=>k_is)
    (case a11=>k_is)
    (case l11=>k_is)
    (case c11=>k_is)
    (case k11=>k_is)
    (case a12=>k_is)
    (case l12=>k_is)
    (case c12=>k_is)
    (case k12=>k_is)
    (case a13=>k_is)
    (case l13=>k_is)
    (case c13=>k_is)
    (case k13=>k_is)
    (case a14=>k_is)
    (case l14=>k_is)
    (case c14=>k_is)
    (case k14=>k_is)
    (case a15=>k_is)
    (case l15=>k_is)
    (case c15=>k_is)
    (case k15=>k_is)
    (case a16=>k_is)
    (case l16=>k_is)
    (case c16=>k_is)
    (case k16=>k_is)
    (case a17=>k_is)
    (case l17=>k_is)
    (case c17=>k_is)
    (case k17=>k_is)
    (case a18=>k_is)
    (case l18=>k_is)
    (case c18=>k_is)
    (case k18=>k_is)
    (case a19=>k_is)
    (case l19=>k_is)
    (case c19=>k_is)
    (case k19=>k_is)
    (case a20=>k_is)
    (case l20=>k_is)
    (case c20=>k_is)
    (case k20=>k_is)
    (case a21=>k_is)
    (case l21=>k_is)
    (case c21=>k_is)
    (case k21=>k_is)
    (case a22=>k_is)
    (case l22=>k_is)
    (case c22=>k_is)
    (case k22=>k_is)
    (case a23=>k_is)
    (case l23=>k_is)
    (case c23=>k_is)
    (case k23=>k_is)
    (case a24=>k_is)
    (case l24=>k_is)
    (case c24=>k_is)
    (case k24=>k_is)
    (case a25=>k_is)
    (case l25=>k_is)
    (case c25=>k_is)
    (case k25=>k_is)
    (case a26=>k_is)
    (case l26=>k_is)
    (case c26=>k_is)
    (case k26=>k_is)
    (case a27=>k_is)
    (case l27=>k_is)
    (case c27=>k_is)
    (case k27=>k_is)
    (case z_len=>k_is)
    (case z_list=>k_is)
    (case z_isi=>k_is)
    (case z_bool=>k_is)
    (case z_int=>k_is)
    (case z_str=>k_is)
    (case z_tuple=>k_is)
    (case z_all=>k_is)
    (case z_any=>k_is)
    (case z_zip=>k_is)
    (case z_range=>k_is)
    (case z_max=>k_is)
    (case z_min=>k_is)
    (case z_enumerate=>k_is)
    (case z_sum=>k_is)
    (case z_sorted=>k_is)
    (case z_verr=>k_is)
    (case z_set=>k_is)
    (case g_FIRST_DAY=>k_is)
    (case g_LAST_DAY=>k_is)
    (case g_MOST_TERM=>k_is)
    (case g_MOST_ROWS=>k_is)
    (case g_MOST_COUNT=>k_is)
    (case g_MOST_DUTY=>k_is)
    (case g_0=>k_is)
    (case g_1=>k_is)
    (case g_2=>k_is)
    (case g_3=>k_is)
    (case g_4=>k_is)
    (case g_5=>k_is)
    (case x_1=>first | k_is | k_exc)
    (case x_2=>first | k_is | k_exc)
    (case x_3=>first | k_is | k_exc)
    (case x_4=>first | k_is | k_exc)
    (case x_5=>first | k_is | k_exc)
