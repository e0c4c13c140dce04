import PyProof.Rows.All
import Wide.All
import OpenK.AllK
import Wide.FinOn
import Lean
import PyProof.EqAt
import PyProof.EqKinds
import PyProof.TupleCall
import PySem.Challenge.RW_drawback_k55_lines_read_or_refused
set_option Elab.async false
set_option linter.all false
set_option maxRecDepth 100000
namespace L2
open PySem PySem.Spec PyProof.Rows
abbrev Key:=Sum Int Str
def keyIs : Key→Value→Bool
  | .inl k,v=>Value.isInt k v
  | .inr x,v=>Value.isStrOf x v
def keyH (w : World) : Key→Int
  | .inl k=>hashInt k
  | .inr x=>hashStr w x
theorem keyIs_shape : ∀ {k : Key} {v : Value},keyIs k v=true→(∃ i t,k=Sum.inl i∧v=Value.int i t)∨(∃ x t,k=Sum.inr x∧v=Value.str x t)
  | .inl i,v,h=>by
    obtain ⟨t,e⟩:=Value.isInt_shape (k:=i) (v:=v) h
    exact .inl ⟨i,t,rfl,e⟩
  | .inr x,v,h=>by
    obtain ⟨t,e⟩:=Value.isStrOf_shape (x:=x) (v:=v) h
    exact .inr ⟨x,t,rfl,e⟩
theorem keyIs_int (i : Int) (t : Tok) : keyIs (.inl i) (.int i t)=true:=by simp [keyIs,Value.isInt]
theorem keyIs_str (x : Str) (t : Tok) : keyIs (.inr x) (.str x t)=true:=by simp [keyIs,Value.isStrOf]
theorem key_ll (a b : Int) : decide ((Sum.inl a : Key)=Sum.inl b)=(a == b):=by
  by_cases e : a=b
  · subst e; simp
  · have h : ¬ (Sum.inl a : Key)=Sum.inl b:=fun q=>e (Sum.inl.inj q)
    rw [decide_eq_false h]
    exact (beq_eq_false_iff_ne.mpr e).symm
theorem key_rr (a b : Str) : decide ((Sum.inr a : Key)=Sum.inr b)=decide (a=b):=by
  by_cases e : a=b
  · subst e; simp
  · have h : ¬ (Sum.inr a : Key)=Sum.inr b:=fun q=>e (Sum.inr.inj q)
    rw [decide_eq_false h,decide_eq_false e]
theorem key_lr (a : Int) (b : Str) : decide ((Sum.inl a : Key)=Sum.inr b)=false:=decide_eq_false (fun q=>nomatch q)
theorem key_rl (a : Str) (b : Int) : decide ((Sum.inr a : Key)=Sum.inl b)=false:=decide_eq_false (fun q=>nomatch q)
def mixKind (prog : Program) (w : World) : PySem.KeyKind prog w Key where
  is:=keyIs
  hash:=keyH w
  inj:=fun v a b ha hb=>by
    rcases keyIs_shape ha with ⟨i,t,rfl,rfl⟩ | ⟨x,t,rfl,rfl⟩
    · rcases keyIs_shape hb with ⟨j,u,rfl,e⟩ | ⟨y,u,rfl,e⟩
      · injection e with e1 _; rw [e1]
      · exact nomatch e
    · rcases keyIs_shape hb with ⟨j,u,rfl,e⟩ | ⟨y,u,rfl,e⟩
      · exact nomatch e
      · injection e with e1 _; rw [e1]
  byValue:=fun k v h=>by
    rcases keyIs_shape h with ⟨i,t,rfl,rfl⟩ | ⟨x,t,rfl,rfl⟩ <;> rfl
  pyHash:=fun hv h=>by
    rcases keyIs_shape hv with ⟨i,t,rfl,rfl⟩ | ⟨x,t,rfl,rfl⟩
    · exact wpAny_pyHash_int h
    · exact wpAny_pyHash_str h
  eqBool:=fun hu hv h=>by
    rcases keyIs_shape hu with ⟨i,t,rfl,rfl⟩ | ⟨x,t,rfl,rfl⟩
    · rcases keyIs_shape hv with ⟨j,u,rfl,rfl⟩ | ⟨y,u,rfl,rfl⟩
      · rw [key_ll] at h; exact wpAny_eqBool_int h
      · rw [key_lr] at h; exact SeqAt.EqAt.int_str i t y u _ _ _ _ h
    · rcases keyIs_shape hv with ⟨j,u,rfl,rfl⟩ | ⟨y,u,rfl,rfl⟩
      · rw [key_rl] at h; exact SeqAt.EqAt.str_int x t j u _ _ _ _ h
      · rw [key_rr] at h; exact wpAny_eqBool_str h
  «strs»:=fun k x t v h=>by
    rcases keyIs_shape h with ⟨i,u,rfl,e⟩ | ⟨y,u,rfl,e⟩
    · exact nomatch e
    · injection e with e1 _
      subst e1
      cases v <;> rfl
theorem mixKind_int (prog : Program) (w : World) (i : Int) (t : Tok) : (mixKind prog w).is (.inl i) (.int i t)=true:=keyIs_int i t
theorem mixKind_str (prog : Program) (w : World) (x : Str) (t : Tok) : (mixKind prog w).is (.inr x) (.str x t)=true:=keyIs_str x t
end L2
namespace L2
open PySem PySem.Spec PyProof.Rows
inductive V where
  | non | bl (b : Bool) | int (i : Int) | str (x : Str) | byt (b : Array UInt8) | flt (b : UInt64) | ref (a : Addr) | ty (n : String)
  deriving DecidableEq
def RelV : V→Value→Prop
  | .non,u=>u=Value.none
  | .bl b,u=>u=Value.bool b
  | .int i,u=>∃ t,u=Value.int i t
  | .str x,u=>∃ t,u=Value.str x t
  | .byt b,u=>∃ t,u=Value.bytes b t
  | .flt b,u=>∃ t,u=Value.float b t
  | .ref a,u=>u=Value.ref a
  | .ty n,u=>u=Value.type n
abbrev Vals : List V→List Value→Prop:=Paired RelV
theorem Vals.length {xs : List V} {us : List Value} (r : Vals xs us) : xs.length=us.length:=Paired.length r
theorem Vals.get : ∀ {xs : List V} {us : List Value} {i : Nat} {x : V},Vals xs us→xs[i]? = some x→∃ u,us[i]? = some u∧RelV x u
  | _,_,_,_,.nil,e=>by simp at e
  | _,_,0,_,.cons r _,e=>by simp at e; subst e; exact ⟨_,rfl,r⟩
  | _,_,i + 1,x,.cons _ t,e=>by
    obtain ⟨u,h1,h2⟩:=Vals.get (i:=i) (x:=x) t (by simpa using e)
    exact ⟨u,by simpa using h1,h2⟩
theorem Vals.set {x : V} {u : Value} (r : RelV x u) : ∀ {xs : List V} {us : List Value} (i : Nat),Vals xs us→Vals (xs.set i x) (us.set i u)
  | _,_,_,.nil=>.nil
  | _,_,0,.cons _ t=>.cons r t
  | _,_,i + 1,.cons q t=>.cons q (Vals.set r i t)
theorem Vals.append : ∀ {xs ys : List V} {us ws : List Value},Vals xs us→Vals ys ws→Vals (xs ++ ys) (us ++ ws)
  | _,_,_,_,.nil,s=>s
  | _,_,_,_,.cons r t,s=>.cons r (Vals.append t s)
theorem Vals.take : ∀ {xs : List V} {us : List Value} (n : Nat),Vals xs us→Vals (xs.take n) (us.take n)
  | _,_,0,_=>.nil
  | _,_,_ + 1,.nil=>.nil
  | _,_,n + 1,.cons r t=>.cons r (Vals.take n t)
theorem Vals.drop : ∀ {xs : List V} {us : List Value} (n : Nat),Vals xs us→Vals (xs.drop n) (us.drop n)
  | _,_,0,r=>r
  | _,_,_ + 1,.nil=>.nil
  | _,_,n + 1,.cons _ t=>Vals.drop n t
def RelO : Option V→Option Value→Prop
  | some v,some u=>RelV v u
  | none,none=>True
  | _,_=>False
def KV {κ : Type} : List (κ×V)→List (κ×Value)→Prop:=Paired fun (p : κ×V) (q : κ×Value)=>p.1=q.1∧RelV p.2 q.2
def kV : Key→V
  | .inl i=>.int i
  | .inr x=>.str x
inductive HO where
  | lst (xs : List V)
  | tup (xs : List V)
  | dK (kvs : List (Key×V)) | dT (kvs : List (List Key×V))
  | set (S : Int→Bool) (n : Nat)
  | ins (C dx : Addr) (fs : List (Str×V))
  | own (x : Addr)
  | xd (fs : List (Str×V))
  | met (f x : Addr)
  | rng (lo hi : Int)
  | frz (o : Obj) (u : HO)
  | tbl (ps : Array Value)
  | ext (φ : Heap→Prop)
  | cod (q : Str) (pos : Pos)
abbrev Hp:=Addr→Option HO
def upd (H : Hp) (a : Addr) (o : HO) : Hp:=fun b=>if b=a then some o else H b
theorem upd_same {H : Hp} {a : Addr} {o : HO} : upd H a o a=some o:=by unfold upd; rw [if_pos rfl]
theorem upd_ne {H : Hp} {a b : Addr} {o : HO} (h : b≠a) : upd H a o b=H b:=by unfold upd; rw [if_neg h]
theorem upd_upd {H : Hp} {a : Addr} {o u : HO} : upd (upd H a o) a u=upd H a u:=by
  funext b; unfold upd; split <;> rfl
theorem ne_of {H : Hp} {a b : Addr} {o u : HO} (h : H a=some o) (h' : H b=some u) (d : o≠u) : a≠b:=by
  intro e; subst e; rw [h] at h'; exact d (Option.some.inj h')
theorem ne_of_none {H : Hp} {a b : Addr} {o : HO} (h : H a=some o) (h' : H b=none) : a≠b:=by
  intro e; subst e; rw [h] at h'; cases h'
section
variable (P : Program) (w : World)
def ObjOk (H : Hp) (h : Heap) (a : Addr) : HO→Prop
  | .lst xs=>xs.length≤sizeLine∧∃ (its : List Value) (n : Nat),Vals xs its∧h.get? a=some { cls:=.type "list",data:=.seq its.toArray n }
  | .tup xs=>xs.length≤sizeLine∧∃ its : List Value,Vals xs its∧IsTup h a its.toArray
  | .dK kvs=>kvs.length≤sizeLine∧(a == sysModules)=false∧∃ vs,KV kvs vs∧h.DictOf (mixKind P w) a vs
  | .dT kvs=>kvs.length≤sizeLine∧(a == sysModules)=false∧∃ xs : List (List Key×Addr×Value),
      Paired (fun (p : List Key×V) (q : List Key×Addr×Value)=>p.1=q.1∧H q.2.1=some (.tup (p.1.map kV))∧RelV p.2 q.2.2) kvs xs∧
      ∃ o es ep,h.get? a=some o∧o.ExactDict∧o.data = .dict es ep∧es.toList=xs.map (entryOfKey (tupleKind (mixKind P w)))∧(xs.map (·.1)).Nodup
  | .set S n=>h.SetOf (intKind P w) a S n
  | .ins C dx fs=>H dx=some (.own a)∧fs.length≤1000∧dx≠a∧h.get? a=some (PySem.W.instObj C dx)∧
      ∃ mA,h.Ns1 dx mA∧(∀ f,RelO (fs.lookup f) (mA f))∧PySem.Within mA (fs.map (·.1))
  | .own _=>∃ o,h.get? a=some o
  | .xd fs=>∃ mA,h.Ns1 a mA∧∀ f,RelO (fs.lookup f) (mA f)
  | .rng lo hi=>∃ t u v,h.get? a=some { cls:=.type "range",data:=.fields #[.int lo t,.int hi u,.int 1 v] }
  | .frz o u=>h.get? a=some o∧ObjOk H h a u
  | .tbl ps=>h.get? a=some { cls:=.none,data:=.fields ps }
  | .met f x=>h.get? a=some (PySem.W.methodObj (.ref f) (.ref x))
  | .ext φ=>φ h∧(∃ o,h.get? a=some o)∧∀ h1 h2 : Heap,φ h1→(∀ o,h1.get? a=some o→h2.get? a=some o)→φ h2
  | .cod q pos=>h.get? a=some { cls:=.none,data:=.fields #[] }∨∃ c,h.get? a=some { cls:=.none,data:=.fields #[rawInt pos.line,rawInt pos.col,.ref c] }∧H c=some (.own a)∧h.CodeRec (.ref c) q
def HOk (H : Hp) (h : Heap) : Prop:=∀ a o,H a=some o→ObjOk P w H h a o
end
section
variable {P : Program} {w : World} {H H' : Hp} {h h' : Heap} {a : Addr} {o : HO}
theorem ObjOk.lt (x : ObjOk P w H h a o) : a < h.objs.size:=by
  cases o with
  | lst xs=>obtain ⟨_,_,_,_,e⟩:=x; exact Heap.lt_size e
  | tup xs=>obtain ⟨_,_,_,p⟩:=x; exact p.lt
  | dK kvs=>obtain ⟨_,_,_,_,o,_,_,e,_⟩:=x; exact Heap.lt_size e
  | dT kvs=>obtain ⟨_,_,_,_,o,_,_,e,_⟩:=x; exact Heap.lt_size e
  | set S n=>obtain ⟨o,_,_,_,e,_⟩:=x; exact Heap.lt_size e
  | ins C dx fs=>obtain ⟨_,_,_,e,_⟩:=x; exact Heap.lt_size e
  | own y=>obtain ⟨_,e⟩:=x; exact Heap.lt_size e
  | xd fs=>obtain ⟨_,⟨_,_,_,e,_⟩,_⟩:=x; exact Heap.lt_size e
  | rng lo hi=>obtain ⟨_,_,_,e⟩:=x; exact Heap.lt_size e
  | frz ob u=>obtain ⟨e,_⟩:=x; exact Heap.lt_size e
  | tbl ps=>exact Heap.lt_size (show h.get? a=some _ from x)
  | met f y=>exact Heap.lt_size (show h.get? a=some _ from x)
  | ext φ=>obtain ⟨_,⟨_,e⟩,_⟩:=x; exact Heap.lt_size e
  | cod q pos=>rcases x with e | ⟨_,e,_⟩ <;> exact Heap.lt_size e
theorem Paired.mapP {α β : Type} {F G : α→β→Prop} : ∀ {l₁ : List α} {l₂ : List β},Paired F l₁ l₂→(∀ a b,F a b→G a b)→Paired G l₁ l₂
  | _,_,.nil,_=>.nil
  | _,_,.cons r t,f=>.cons (f _ _ r) (Paired.mapP t f)
theorem ObjOk.stay (x : ObjOk P w H h a o) (k : ∀ b u,(b=a∨H b=some (.own a))→h.get? b=some u→h'.get? b=some u)
    (ho : ∀ b,H b=some (.own a)→H' b=some (.own a)) (ht : ∀ b xs,H b=some (.tup xs)→H' b=some (.tup xs)) : ObjOk P w H' h' a o:=by
  induction o with
  | lst xs=>obtain ⟨z,its,n,r,e⟩:=x; exact ⟨z,its,n,r,k _ _ (.inl rfl) e⟩
  | tup xs=>obtain ⟨z,its,r,ob,e,c⟩:=x; exact ⟨z,its,r,ob,k _ _ (.inl rfl) e,c⟩
  | dK kvs=>obtain ⟨z,y,vs,r,ob,es,ep,e,c⟩:=x; exact ⟨z,y,vs,r,ob,es,ep,k _ _ (.inl rfl) e,c⟩
  | dT kvs=>
    obtain ⟨z,y,xs,r,ob,es,ep,e,c⟩:=x
    exact ⟨z,y,xs,Paired.mapP r fun p q z=>⟨z.1,ht _ _ z.2.1,z.2.2⟩,ob,es,ep,k _ _ (.inl rfl) e,c⟩
  | set S n=>obtain ⟨ob,es,ep,t,e,c⟩:=x; exact ⟨ob,es,ep,t,k _ _ (.inl rfl) e,c⟩
  | ins C dx fs=>
    obtain ⟨d,z,ne,e,mA,⟨od,es,ep,e2,c⟩,r⟩:=x
    exact ⟨ho _ d,z,ne,k _ _ (.inl rfl) e,mA,⟨od,es,ep,k _ _ (.inr d) e2,c⟩,r⟩
  | own y=>obtain ⟨ob,e⟩:=x; exact ⟨ob,k _ _ (.inl rfl) e⟩
  | xd fs=>obtain ⟨mA,⟨od,es,ep,e,c⟩,r⟩:=x; exact ⟨mA,⟨od,es,ep,k _ _ (.inl rfl) e,c⟩,r⟩
  | rng lo hi=>obtain ⟨t,u,v,e⟩:=x; exact ⟨t,u,v,k _ _ (.inl rfl) e⟩
  | frz ob u ih=>obtain ⟨e,q⟩:=x; exact ⟨k _ _ (.inl rfl) e,ih q⟩
  | tbl ps=>
    have e : h.get? a=some { cls:=.none,data:=.fields ps }:=x
    show h'.get? a=some { cls:=.none,data:=.fields ps }
    exact k a _ (.inl rfl) e
  | met f y=>
    have e : h.get? a=some (PySem.W.methodObj (.ref f) (.ref y)):=x
    show h'.get? a=some (PySem.W.methodObj (.ref f) (.ref y))
    exact k a _ (.inl rfl) e
  | ext φ=>obtain ⟨p,⟨o,e⟩,st⟩:=x; exact ⟨st _ _ p fun o q=>k _ _ (.inl rfl) q,⟨o,k _ _ (.inl rfl) e⟩,st⟩
  | cod q pos=>
    rcases x with e | ⟨c,e,hw,c2,oc,vs,t,e1,e2,r⟩
    · exact .inl (k _ _ (.inl rfl) e)
    · cases e1
      exact .inr ⟨c,k _ _ (.inl rfl) e,ho _ hw,c,oc,vs,t,rfl,k _ _ (.inr hw) e2,r⟩
theorem HOk.lt (x : HOk P w H h) (e : H a=some o) : a < h.objs.size:=(x a o e).lt
theorem HOk.fresh (x : HOk P w H h) (e : h.objs.size≤a) : H a=none:=by
  cases q : H a with
  | none=>rfl
  | some u=>exact absurd (Nat.lt_of_lt_of_le (x.lt q) e) (Nat.lt_irrefl _)
theorem HOk.kept (x : HOk P w H h) (k : ∀ b u,h.get? b=some u→h'.get? b=some u) : HOk P w H h':=fun a o e=>
  (x a o e).stay (fun b u _ q=>k b u q) (fun _ q=>q) fun _ _ q=>q
theorem HOk.laid (x : HOk P w H h) (k : ∀ b u,h.get? b=some u→h'.get? b=some u) (hp : h.objs.size≤a) (new : ObjOk P w (upd H a o) h' a o) : HOk P w (upd H a o) h':=fun b u e=>by
  have hn:=x.fresh hp
  by_cases hb : b=a
  · subst hb; rw [upd_same] at e; cases e; exact new
  · rw [upd_ne hb] at e
    exact (x b u e).stay (fun c v _ q=>k c v q) (fun c q=>by rw [upd_ne (ne_of_none q hn)]; exact q) fun c xs q=>by rw [upd_ne (ne_of_none q hn)]; exact q
end
def Rd (H : Hp) (a : Addr) (u : HO) : Prop:=H a=some u∨∃ o,H a=some (.frz o u)
theorem Rd.ok {P : Program} {w : World} {H : Hp} {h : Heap} {a : Addr} {u : HO} (r : Rd H a u) (x : HOk P w H h) : ObjOk P w H h a u:=by
  rcases r with r | ⟨o,r⟩
  · exact x a u r
  · obtain ⟨_,q⟩:=x a _ r
    exact q
def Mut : Option HO→Prop
  | some (.lst _)=>True
  | some (.dK _)=>True
  | some (.dT _)=>True
  | some (.set _ _)=>True
  | some (.ins _ _ _)=>True
  | some (.ext _)=>True
  | _=>False
section
variable {P : Program} {w : World} {H : Hp} {h h' : Heap} {x e : Addr} {o' : HO}
theorem HOk.write (ok : HOk P w H h) (mu : Mut (H x)) (he : e=x∨H e=some (.own x)) (k : ∀ b u,b≠e→h.get? b=some u→h'.get? b=some u) (heo : ∃ u,h'.get? e=some u)
    (new : ObjOk P w (upd H x o') h' x o') : HOk P w (upd H x o') h':=fun b u q=>by
  have nown : ∀ c y,H c=some (.own y)→c≠x:=fun c y r z=>by subst z; rw [r] at mu; exact mu
  have ntup : ∀ c xs,H c=some (.tup xs)→c≠x:=fun c xs r z=>by subst z; rw [r] at mu; exact mu
  by_cases hb : b=x
  · subst hb; rw [upd_same] at q; cases q; exact new
  · rw [upd_ne hb] at q
    by_cases hbe : b=e
    · have q' : H b=some (.own x):=by
        rcases he with z | z
        · exact absurd (hbe.trans z) hb
        · rw [hbe]; exact z
      rw [q] at q'; cases q'
      obtain ⟨v,hv⟩:=heo
      exact ⟨v,by rw [hbe]; exact hv⟩
    · refine (ok b u q).stay (fun c v hc r=>k c v ?_ r) (fun c r=>by rw [upd_ne (nown c b r)]; exact r) fun c xs r=>by rw [upd_ne (ntup c xs r)]; exact r
      rcases hc with rfl | hc
      · exact hbe
      · rintro rfl
        rcases he with z | z
        · exact nown c b hc z
        · rw [hc] at z; cases z; exact hb rfl
end
structure Un (fs ex : List Addr) (H H' : Hp) (h h' : Heap) : Prop where
  keep : ∀ b o,h.get? b=some o→H b=none→b ∉ fs→b ∉ ex→h'.get? b=some o
  slot : ∀ b o,h.get? b=some o→H b=none→b∈fs→b ∉ ex→∃ sl,h'.get? b=some { o with slots:=sl }
  free : ∀ b o,h.get? b=some o→H b=none→b ∉ ex→H' b=none
  there : ∀ b o,h.get? b=some o→b ∉ ex→∃ o',h'.get? b=some o'
  tups : ∀ b xs,H b=some (.tup xs)→H' b=some (.tup xs)
  frzs : ∀ b o u,H b=some (.frz o u)→H' b=some (.frz o u)
  tbls : ∀ b ps,H b=some (.tbl ps)→∃ more,H' b=some (.tbl (ps ++ more))
section
variable {fs fs' ex ex' : List Addr} {H H1 H2 : Hp} {h h1 h2 h' : Heap} {a x e : Addr} {o : HO}
theorem Un.any (u : Un fs ex H H1 h h1) {b : Addr} {ob : Obj} (q : h.get? b=some ob) (n : H b=none) (hx : b ∉ ex) : ∃ sl,h1.get? b=some { ob with slots:=sl }:=by
  by_cases hb : b∈fs
  · exact u.slot b ob q n hb hx
  · exact ⟨ob.slots,u.keep b ob q n hb hx⟩
theorem Un.kept (k : ∀ b u,h.get? b=some u→h'.get? b=some u) : Un fs ex H H h h':=
  ⟨fun b ob q _ _ _=>k b ob q,fun b ob q _ _ _=>⟨ob.slots,k b ob q⟩,fun _ _ _ n _=>n,fun b ob q _=>⟨ob,k b ob q⟩,fun _ _ q=>q,fun _ _ _ q=>q,fun _ ps q=>⟨#[],by rw [q]; simp⟩⟩
theorem Un.refl : Un fs ex H H h h:=Un.kept fun _ _ q=>q
theorem Un.laid (k : ∀ b u,h.get? b=some u→h'.get? b=some u) (hp : h.objs.size≤a) (hn : H a=none) : Un fs ex H (upd H a o) h h' where
  keep:=fun b u q _ _ _=>k b u q
  slot:=fun b u q _ _ _=>⟨u.slots,k b u q⟩
  free:=fun b u q n _=>by rw [upd_ne (Nat.ne_of_lt (Nat.lt_of_lt_of_le (Heap.lt_size q) hp))]; exact n
  there:=fun b u q _=>⟨u,k b u q⟩
  tups:=fun b xs q=>by rw [upd_ne (ne_of_none q hn)]; exact q
  frzs:=fun b u xs q=>by rw [upd_ne (ne_of_none q hn)]; exact q
  tbls:=fun b ps q=>⟨#[],by rw [upd_ne (ne_of_none q hn),q]; simp⟩
theorem Un.write (mu : Mut (H x)) (he : e=x∨H e=some (.own x)) (k : ∀ b u,b≠e→h.get? b=some u→h'.get? b=some u) (heo : ∃ u,h'.get? e=some u) : Un fs ex H (upd H x o) h h':=by
  have hx : ∀ b,H b=none→b≠x:=fun b n z=>by subst z; rw [n] at mu; exact mu
  have hb : ∀ b,H b=none→b≠e:=fun b n z=>by
    subst z
    rcases he with r | r
    · exact hx b n r
    · rw [n] at r; cases r
  have hm : ∀ b u,H b=some u→¬ Mut (some u)→b≠x:=fun b u q nm z=>by subst z; rw [q] at mu; exact nm mu
  refine ⟨fun b u q n _ _=>k b u (hb b n) q,fun b u q n _ _=>⟨u.slots,k b u (hb b n) q⟩,fun b u q n _=>by rw [upd_ne (hx b n)]; exact n,fun b u q _=>?_,
    fun b xs q=>by rw [upd_ne (hm b _ q fun z=>z)]; exact q,fun b u xs q=>by rw [upd_ne (hm b _ q fun z=>z)]; exact q,fun b ps q=>⟨#[],by rw [upd_ne (hm b _ q fun z=>z),q]; simp⟩⟩
  by_cases hbe : b=e
  · subst hbe; exact heo
  · exact ⟨u,k b u hbe q⟩
end
def trk (h : Heap) (H : Hp) : List Addr:=(List.range h.objs.size).filter fun a=>(H a).isSome
def hidT (h : Heap) (H : Hp) : Heap:=PySem.W.hideAll h (trk h H)
theorem hidT_size (h : Heap) (H : Hp) : (hidT h H).objs.size=h.objs.size:=PySem.W.hideAll_size _ _
theorem hidT_get {h : Heap} {H : Hp} {b : Addr} {o : Obj} (e : h.get? b=some o) (n : H b=none) : (hidT h H).get? b=some o:=
  PySem.W.hideAll_get _ e fun hm=>by
    have q : (H b).isSome=true:=(List.mem_filter.mp hm).2
    rw [n] at q; simp at q
theorem of_hidT {h : Heap} {H : Hp} {b : Addr} {o : Obj} (e : (hidT h H).get? b=some o) : h.get? b=some o∧H b=none:=by
  have e' : h.get? b=some o:=PySem.W.of_hideAll (trk h H) e
  refine ⟨e',?_⟩
  cases q : H b with
  | none=>rfl
  | some x=>
    have hm : b∈trk h H:=List.mem_filter.mpr ⟨List.mem_range.mpr (Heap.lt_size e'),by simp [q]⟩
    have z : (hidT h H).get? b=none:=PySem.W.hideAll_none (trk h H) hm
    rw [z] at e; cases e
def allNews (g h : Heap) (L : Addr) : List (Addr×Obj):=(List.range h.objs.size).filterMap fun a=>if a=L∨(g.get? a).isSome=true then none else (h.get? a).map fun o=>(a,o)
def rest (g h : Heap) (L d : Addr) : List (Addr×Obj):=(allNews g h L).filter fun p=>decide (p.1≠d)
end L2
namespace L2
open PySem PySem.Spec PyProof.Rows
structure Mod (K : PySem.W.Frag) (mg : Str→Option Value) (base : Heap) : Prop where
  kin : K.In base
  glob : base.Ns mainGlobals mg
  blt : ∃ mb,base.Ns builtinsNs mb∧∀ x : Str,x ≠ "__name__" → mb x=bootBuiltins x
  nolimit : base.NoLimit
structure Cx where
  prog : Program
  w : World
  K : PySem.W.Frag
  mg : Str→Option Value
  base : Heap
  A : Around
  N : List Str
  s₀ : Shared
  H₀ : Hp
  env : Env
  outer : List Env
  stack : List Env
  ex : List Addr
  fn : Str→Bool
  calm : Bool
  pn : List (Addr×Obj)
  xe : Value→Shared→Prop
def frs (l : List Env) : List Addr:=l.filterMap (·.frame)
abbrev Cx.fs (X : Cx) : List Addr:=frs X.outer
def Vis (sc : Scope) (x : Str) : Prop:=sc.names.lookup x=some .local∨sc.names.lookup x=some .cell∨sc.names.lookup x=some .free
def Loc (sc : Scope) (x : Str) : Prop:=sc.names.lookup x=some .local∨sc.names.lookup x=some .cell
def Look (env : Env) (h : Heap) (m : Str→Option Value) (x : Str) (u : Value) : Prop:=
  (env.kindOf x=some .local∧m x=some u)∨((env.kindOf x=some .cell∨env.kindOf x=some .free)∧∃ c,env.cells.lookup x=some c∧h.IsCell c (some u))
structure Cx.Ok (X : Cx) : Prop where
  mod : Mod X.K X.mg X.base
  kind : X.env.scope.kind = .function
  glob : X.env.globals=mainGlobals
  blt : X.env.builtins=builtinsNs
  above : X.s₀.heap.objs.size≤X.env.locals
  inj : ∀ x y c,X.env.cells.lookup x=some c→X.env.cells.lookup y=some c→x=y
  has : ∀ x,(X.env.kindOf x=some .cell∨X.env.kindOf x=some .free)→∃ c,X.env.cells.lookup x=some c
  cab : ∀ x c,X.fn x=true→X.env.cells.lookup x=some c→X.s₀.heap.objs.size≤c
  hd : X.calm=true→X.A.handled=none
  frames : X.A.frames=some X.stack
  stk : X.stack=X.outer∨(X.stack=X.env :: X.outer∧X.env.frame=some X.env.locals)
  exf : ∀ b∈X.ex,b≠X.env.locals∧∀ x c,X.env.cells.lookup x=some c→c≠b
  bs : ∀ b o,X.base.get? b=some o→X.s₀.heap.get? b=some o∧X.H₀ b=none
  bsz : X.base.objs.size≤X.s₀.heap.objs.size
  noex : ∀ b o,X.base.get? b=some o→b ∉ X.ex
  exfs : ∀ b∈X.ex,b ∉ X.fs
  funs : X.s₀.heap.FunFrames X.base X.outer
  frf : ∀ b∈X.fs,X.H₀ b=none
structure Inv (X : Cx) (pins : List (Addr×Obj)) (σ : List (Option V)) (H : Hp) (s : Shared) : Prop where
  ok : X.Ok
  os : s.os=X.s₀.os
  bare : AllBare s.gens
  base : Un X.fs X.ex X.H₀ H X.s₀.heap s.heap
  loc : ∃ m,s.heap.Ns X.env.locals m∧∀ (i : Nat) (x : Str) (v : V),X.N[i]? = some x→σ[i]? = some (some v)→Vis X.env.scope x→∃ u,RelV v u∧Look X.env s.heap m x u
  cell : ∀ x c,X.env.cells.lookup x=some c→∃ v,s.heap.IsCell c v
  free : H X.env.locals=none
  freeC : ∀ x c,X.env.cells.lookup x=some c→H c=none
  pin : ∀ p∈X.pn ++ pins,s.heap.get? p.1=some p.2∧H p.1=none∧p.1≠X.env.locals∧p.1 ∉ X.fs∧∀ v,p.2.data≠.cell v
  hok : HOk X.prog X.w H s.heap
  len : σ.length=X.N.length
section
variable {X : Cx} {pins : List (Addr×Obj)} {σ : List (Option V)} {H H' : Hp} {s : Shared} {h' : Heap}
theorem Cx.Ok.nofr (ok : X.Ok) {b : Addr} {o : Obj} (e : X.base.get? b=some o) : b ∉ X.fs:=fun hb=>by
  have:=(ok.funs.mem hb).1
  rw [e] at this; cases this
theorem Inv.bs (I : Inv X pins σ H s) : ∀ b o,X.base.get? b=some o→s.heap.get? b=some o∧H b=none:=fun b o e=>
  ⟨I.base.keep b o (I.ok.bs b o e).1 (I.ok.bs b o e).2 (I.ok.nofr e) (I.ok.noex b o e),I.base.free b o (I.ok.bs b o e).1 (I.ok.bs b o e).2 (I.ok.noex b o e)⟩
theorem Inv.bk (I : Inv X pins σ H s) : ∀ b o,X.base.get? b=some o→s.heap.get? b=some o:=fun b o e=>(I.bs b o e).1
theorem Inv.mod (I : Inv X pins σ H s) : Mod X.K X.mg X.base:=I.ok.mod
theorem Inv.kIn (I : Inv X pins σ H s) : X.K.In s.heap:=I.ok.mod.kin.keeps I.bk
theorem Inv.lt (I : Inv X pins σ H s) : X.env.locals < s.heap.objs.size:=let ⟨_,hn,_⟩:=I.loc; hn.lt
theorem Inv.sz (I : Inv X pins σ H s) : X.s₀.heap.objs.size≤s.heap.objs.size:=Nat.le_trans I.ok.above (Nat.le_of_lt I.lt)
theorem Inv.nofs (I : Inv X pins σ H s) {a : Addr} (h : s.heap.objs.size≤a) : a ∉ X.fs:=fun hb=>by
  obtain ⟨_,o,ho,_⟩:=I.ok.funs.mem hb
  exact absurd (Nat.lt_of_lt_of_le (Heap.lt_size ho) (Nat.le_trans I.sz h)) (Nat.lt_irrefl _)
theorem Inv.cne (I : Inv X pins σ H s) : ∀ x c,X.env.cells.lookup x=some c→c≠X.env.locals:=fun x c e z=>by
  obtain ⟨v,o,ho,hd⟩:=I.cell x c e
  obtain ⟨m,⟨o',es,ep,ho',hd',_⟩,_⟩:=I.loc
  rw [z,ho'] at ho; cases ho; rw [hd'] at hd; cases hd
theorem Inv.funs (I : Inv X pins σ H s) : s.heap.FunFrames X.base X.outer:=by
  have all : ∀ (l : List Env),(∀ b∈frs l,b∈X.fs)→X.s₀.heap.FunFrames X.base l→s.heap.FunFrames X.base l:=by
    intro l
    induction l with
    | nil=>intro _ _; trivial
    | cons env r ih=>
      intro hs hl
      obtain ⟨hk,⟨L,o,hf,hn,ho,hd⟩,hr⟩:=hl
      have hL : L∈X.fs:=hs L (by unfold frs; rw [List.filterMap_cons,hf]; exact List.mem_cons_self)
      obtain ⟨sl,e⟩:=I.base.slot L o ho (I.ok.frf L hL) hL fun z=>I.ok.exfs L z hL
      exact ⟨hk,⟨L,_,hf,hn,e,hd⟩,ih (fun b hb=>hs b (by unfold frs; rw [List.filterMap_cons,hf]; exact List.mem_cons_of_mem _ hb)) hr⟩
  exact all X.outer (fun _ hb=>hb) I.ok.funs
theorem Inv.stack (I : Inv X pins σ H s) : s.heap.FunFrames X.base X.stack:=by
  rcases I.ok.stk with e | ⟨e,hf⟩
  · rw [e]; exact I.funs
  · rw [e]
    obtain ⟨m,hn,_⟩:=I.loc
    refine .cons (by rw [I.ok.kind]; decide) hf hn ?_ I.funs
    exact Heap.get?_none_of_le (Nat.le_trans I.ok.bsz I.ok.above)
theorem Inv.stkSub (I : Inv X pins σ H s) : ∀ b∈frs X.stack,b∈X.env.locals :: X.fs:=fun b hb=>by
  rcases I.ok.stk with e | ⟨e,hf⟩
  · rw [e] at hb; exact List.mem_cons_of_mem _ hb
  · rw [e] at hb
    unfold frs at hb
    rw [List.filterMap_cons,hf] at hb
    exact hb
theorem Inv.stkFree (I : Inv X pins σ H s) : ∀ b∈frs X.stack,H b=none:=fun b hb=>by
  rcases List.mem_cons.mp (I.stkSub b hb) with e | hb
  · rw [e]; exact I.free
  · obtain ⟨_,o,ho,_⟩:=I.ok.funs.mem hb
    exact I.base.free b o ho (I.ok.frf b hb) fun z=>I.ok.exfs b z hb
theorem Inv.step {g' : Array GenState} {t' : Nat} {d' : Drawn} {ch : List Addr} (I : Inv X pins σ H s)
    (hch : ∀ b∈ch,(b∈X.ex∨X.s₀.heap.objs.size≤b)∧b≠X.env.locals∧(∀ x c,X.env.cells.lookup x=some c→c≠b)∧∀ p∈X.pn ++ pins,p.1≠b)
    (keep : ∀ b o,b≠X.env.locals→b ∉ X.fs→b ∉ ch→s.heap.get? b=some o→H b=none→h'.get? b=some o)
    (slot : ∀ b o,b≠X.env.locals→b∈X.fs→b ∉ ch→s.heap.get? b=some o→H b=none→∃ sl,h'.get? b=some { o with slots:=sl }) (free : ∀ b o,b ∉ ch→s.heap.get? b=some o→H b=none→H' b=none)
    (there : ∀ b o,b ∉ ch→s.heap.get? b=some o→∃ o',h'.get? b=some o')
    (tups : ∀ b xs,H b=some (.tup xs)→H' b=some (.tup xs)) (frzs : ∀ b o u,H b=some (.frz o u)→H' b=some (.frz o u)) (tbls : ∀ b ps,H b=some (.tbl ps)→∃ more,H' b=some (.tbl (ps ++ more)))
    (ns : ∀ m,s.heap.Ns X.env.locals m→h'.Ns X.env.locals m) (hok : HOk X.prog X.w H' h') (hg : AllBare g') :
    Inv X pins σ H' { s with heap:=h',gens:=g',drawn:=d',toks:=t' }:=by
  have neL : ∀ b o,X.s₀.heap.get? b=some o→b≠X.env.locals:=fun b o e=>Nat.ne_of_lt (Nat.lt_of_lt_of_le (Heap.lt_size e) I.ok.above)
  have neC : ∀ b o,X.s₀.heap.get? b=some o→b ∉ X.ex→b ∉ ch:=fun b o e hx hb=>by
    rcases (hch b hb).1 with z | z
    · exact hx z
    · exact absurd (Nat.lt_of_lt_of_le (Heap.lt_size e) z) (Nat.lt_irrefl _)
  have cellK : ∀ x c,X.env.cells.lookup x=some c→∀ v,s.heap.IsCell c v→h'.IsCell c v:=fun x c e v ⟨o,ho,hd⟩=>by
    have nch : c ∉ ch:=fun z=>(hch c z).2.2.1 x c e rfl
    by_cases hc : c∈X.fs
    · obtain ⟨sl,q⟩:=slot c o (I.cne x c e) hc nch ho (I.freeC x c e)
      exact ⟨_,q,hd⟩
    · exact ⟨o,keep c o (I.cne x c e) hc nch ho (I.freeC x c e),hd⟩
  refine ⟨I.ok,I.os,hg,⟨fun b o e n hb hx=>?_,fun b o e n hb hx=>?_,fun b o e n hx=>?_,fun b o e hx=>?_,fun b xs e=>tups b xs (I.base.tups b xs e),fun b o xs e=>frzs b o xs (I.base.frzs b o xs e),fun b ps e=>?_⟩,?_,fun x c e=>?_,?_,fun x c e=>?_,fun p hp=>?_,hok,I.len⟩
  · exact keep b o (neL b o e) hb (neC b o e hx) (I.base.keep b o e n hb hx) (I.base.free b o e n hx)
  · obtain ⟨sl,e1⟩:=I.base.slot b o e n hb hx
    obtain ⟨sl',e2⟩:=slot b _ (neL b o e) hb (neC b o e hx) e1 (I.base.free b o e n hx)
    exact ⟨sl',e2⟩
  · obtain ⟨o',e1⟩:=I.base.there b o e hx
    exact free b o' (neC b o e hx) e1 (I.base.free b o e n hx)
  · obtain ⟨o',e1⟩:=I.base.there b o e hx
    exact there b o' (neC b o e hx) e1
  · obtain ⟨m1,e1⟩:=I.base.tbls b ps e
    obtain ⟨m2,e2⟩:=tbls b _ e1
    exact ⟨m1 ++ m2,by rw [e2,Array.append_assoc]⟩
  · obtain ⟨m,hn,hl⟩:=I.loc
    refine ⟨m,ns m hn,fun i x v e1 e2 e3=>?_⟩
    obtain ⟨u,r,l⟩:=hl i x v e1 e2 e3
    refine ⟨u,r,?_⟩
    rcases l with l | ⟨k,c,e,z⟩
    · exact .inl l
    · exact .inr ⟨k,c,e,cellK x c e _ z⟩
  · obtain ⟨v,z⟩:=I.cell x c e
    exact ⟨v,cellK x c e v z⟩
  · obtain ⟨m,⟨o,_,_,ho,_⟩,_⟩:=I.loc
    exact free _ o (fun z=>(hch _ z).2.1 rfl) ho I.free
  · obtain ⟨v,o,ho,hd⟩:=I.cell x c e
    exact free c o (fun z=>(hch c z).2.2.1 x c e rfl) ho (I.freeC x c e)
  · obtain ⟨e,n,ne,nf,d⟩:=I.pin p hp
    have nch : p.1 ∉ ch:=fun z=>(hch p.1 z).2.2.2 p hp rfl
    exact ⟨keep p.1 p.2 ne nf nch e n,free p.1 p.2 nch e n,ne,nf,d⟩
theorem Inv.un {t' : Nat} (I : Inv X pins σ H s) (u : Un X.fs [] H H' s.heap h') (hok : HOk X.prog X.w H' h') : Inv X pins σ H' { s with heap:=h',toks:=t' }:=by
  obtain ⟨m,⟨o,es,ep,ho,r⟩,_⟩:=id I.loc
  obtain ⟨sl,hL⟩:=u.any ho I.free (by simp)
  exact I.step (g':=s.gens) (d':=s.drawn) (ch:=[]) (fun _ z=>nomatch z) (fun b o _ hb _ e n=>u.keep b o e n hb (by simp)) (fun b o _ hb _ e n=>u.slot b o e n hb (by simp)) (fun b o _ e n=>u.free b o e n (by simp)) (fun b o _ e=>u.there b o e (by simp)) u.tups u.frzs u.tbls (fun m' hm=>by
    obtain ⟨o',es',ep',ho',r'⟩:=hm
    rw [ho] at ho'; cases ho'
    exact ⟨_,es',ep',hL,r'⟩) hok I.bare
theorem Inv.call {g' : Array GenState} {t' : Nat} {d' : Drawn} {ch : List Addr} (I : Inv X pins σ H s) (u : Un (frs X.stack) ch H H' s.heap h') (hok : HOk X.prog X.w H' h') (hg : AllBare g')
    (hch : ∀ b∈ch,(b∈X.ex∨X.s₀.heap.objs.size≤b)∧b≠X.env.locals∧(∀ x c,X.env.cells.lookup x=some c→c≠b)∧∀ p∈X.pn ++ pins,p.1≠b) :
    Inv X pins σ H' { s with heap:=h',gens:=g',drawn:=d',toks:=t' }:=by
  obtain ⟨m,⟨o,es,ep,ho,r⟩,_⟩:=id I.loc
  obtain ⟨sl,hL⟩:=u.any ho I.free fun z=>(hch _ z).2.1 rfl
  exact I.step (ch:=ch) hch (fun b o hL hb hc e n=>u.keep b o e n (fun z=>(List.mem_cons.mp (I.stkSub b z)).elim hL hb) hc) (fun b o _ _ hc e n=>u.any e n hc) (fun b o hc e n=>u.free b o e n hc) (fun b o hc e=>u.there b o e hc) u.tups u.frzs u.tbls (fun m' hm=>by
    obtain ⟨o',es',ep',ho',r'⟩:=hm
    rw [ho] at ho'; cases ho'
    exact ⟨_,es',ep',hL,r'⟩) hok hg
theorem Inv.turned {t' : Nat} {it : Addr} (I : Inv X pins σ H s) (k : ∀ b o,b≠it→s.heap.get? b=some o→h'.get? b=some o) (hn : H it=none) (hL : it≠X.env.locals)
    (h1 : it∈X.ex∨X.s₀.heap.objs.size≤it) (h2 : ∀ x c,X.env.cells.lookup x=some c→c≠it) (h3 : ∀ p∈X.pn ++ pins,p.1≠it) : Inv X pins σ H { s with heap:=h',toks:=t' }:=by
  have nit : ∀ b u,H b=some u→b≠it:=fun b u e z=>by rw [z,hn] at e; cases e
  refine I.step (g':=s.gens) (d':=s.drawn) (ch:=[it]) (fun b hb=>?_) (fun b o _ _ hc e _=>k b o (fun z=>hc (by simp [z])) e) (fun b o _ _ hc e _=>⟨o.slots,k b o (fun z=>hc (by simp [z])) e⟩) (fun _ _ _ _ n=>n)
    (fun b o hc e=>⟨o,k b o (fun z=>hc (by simp [z])) e⟩) (fun _ _ e=>e) (fun _ _ _ e=>e) (fun b ps e=>⟨#[],by rw [e]; simp⟩) (fun m hm=>?_) (fun b u e=>?_) I.bare
  · have e : b=it:=by simpa using hb
    subst e
    exact ⟨h1,hL,h2,h3⟩
  · obtain ⟨o,es,ep,ho,r⟩:=hm
    exact ⟨o,es,ep,k _ o (Ne.symm hL) ho,r⟩
  · refine (I.hok b u e).stay (fun c v hc q=>k c v ?_ q) (fun _ q=>q) fun _ _ q=>q
    rcases hc with z | z
    · rw [z]; exact nit b u e
    · exact nit c _ z
theorem Inv.tok (I : Inv X pins σ H s) (t : Nat) : Inv X pins σ H { s with toks:=t }:=I.un (h':=s.heap) (t':=t) Un.refl I.hok
theorem Inv.kept {t' : Nat} (I : Inv X pins σ H s) (k : ∀ b u,s.heap.get? b=some u→h'.get? b=some u) : Inv X pins σ H { s with heap:=h',toks:=t' }:=I.un (Un.kept k) (I.hok.kept k)
theorem Inv.laid {a : Addr} {o : HO} {t' : Nat} (I : Inv X pins σ H s) (k : ∀ b u,s.heap.get? b=some u→h'.get? b=some u) (hp : s.heap.objs.size≤a) (new : ObjOk X.prog X.w (upd H a o) h' a o) :
    Inv X pins σ (upd H a o) { s with heap:=h',toks:=t' }:=I.un (Un.laid k hp (I.hok.fresh hp)) (I.hok.laid k hp new)
theorem Inv.write {x e : Addr} {o : HO} {t' : Nat} (I : Inv X pins σ H s) (mu : Mut (H x)) (he : e=x∨H e=some (.own x)) (k : ∀ b u,b≠e→s.heap.get? b=some u→h'.get? b=some u) (heo : ∃ u,h'.get? e=some u)
    (new : ObjOk X.prog X.w (upd H x o) h' x o) : Inv X pins σ (upd H x o) { s with heap:=h',toks:=t' }:=I.un (Un.write mu he k heo) (I.hok.write mu he k heo new)
theorem Inv.weak {σ' : List (Option V)} (I : Inv X pins σ H s) (hl : σ'.length=σ.length) (w : ∀ (i : Nat) v,σ'[i]? = some (some v)→σ[i]? = some (some v)) : Inv X pins σ' H s:=
  ⟨I.ok,I.os,I.bare,I.base,let ⟨m,hn,hl'⟩:=I.loc; ⟨m,hn,fun i x v e1 e2 e3=>hl' i x v e1 (w i v e2) e3⟩,I.cell,I.free,I.freeC,I.pin,I.hok,hl.trans I.len⟩
theorem Inv.pins_of {pins' : List (Addr×Obj)} (I : Inv X pins σ H s) (h : ∀ p∈pins',s.heap.get? p.1=some p.2∧H p.1=none∧p.1≠X.env.locals∧p.1 ∉ X.fs∧∀ v,p.2.data≠.cell v) : Inv X pins' σ H s:=
  ⟨I.ok,I.os,I.bare,I.base,I.loc,I.cell,I.free,I.freeC,fun p hp=>(List.mem_append.mp hp).elim (fun z=>I.pin p (List.mem_append_left _ z)) (h p),I.hok,I.len⟩
theorem nodup_ix {N : List Str} (hN : N.Nodup) {i j : Nat} {x : Str} (a : N[i]? = some x) (b : N[j]? = some x) : i=j:=by
  obtain ⟨h1,e1⟩:=List.getElem?_eq_some_iff.mp a
  obtain ⟨h2,e2⟩:=List.getElem?_eq_some_iff.mp b
  exact (List.getElem_inj hN).mp (e1.trans e2.symm)
theorem store_ok2 {M : Model} {A : Around} {E : Value→Shared→Prop} {i : Nat} {x : Str} {v : V} {u : Value} {Q : Unit→Shared→Prop} (I : Inv X pins σ H s) (hN : X.N.Nodup) (hi : X.N[i]? = some x) (hx : Loc X.env.scope x) (r : RelV v u)
    (h : ∀ s',Inv X pins (σ.set i (some v)) H s'→(∃ a,Heap.SameBut a s.heap s'.heap∧(a=X.env.locals∨X.env.cells.lookup x=some a))→Q () s') (hf : X.fn x=true∨X.env.scope.names.lookup x=some .local:=by first | exact .inl rfl | exact .inr rfl | assumption) : wpAny M A (storeName X.env x u) Q E s:=by
  obtain ⟨m,hn,hl⟩:=id I.loc
  have hcls : (X.env.scope.kind == .class || (X.env.scope.kind == .module && X.env.locals != X.env.globals))=false:=by rw [I.ok.kind]; rfl
  have hiσ : i < σ.length:=by rw [I.len]; exact (List.getElem?_eq_some_iff.mp hi).1
  have cne:=I.cne
  have tracked : ∀ {a : Addr} {h' : Heap},(∃ o,s.heap.get? a=some o∧H a=none)→Heap.SameBut a s.heap h'→HOk X.prog X.w H h':=fun {a h'} ha hs b ob e=>by
    obtain ⟨_,_,hfree⟩:=ha
    refine (I.hok b ob e).stay (fun c w' hc q=>(hs.2 c ?_).trans q) (fun _ q=>q) fun _ _ q=>q
    rintro rfl
    rcases hc with rfl | hc
    · rw [hfree] at e; cases e
    · rw [hfree] at hc; cases hc
  rcases hx with hk | hk
  · refine wpAny_storeName_local hk hn (fun h' hn' hs=>?_) hcls
    obtain ⟨oL,_,_,hoL,_⟩:=id hn
    refine h _ ⟨I.ok,I.os,I.bare,⟨fun b o e n hb hx=>?_,fun b o e n hb hx=>?_,I.base.free,fun b o e hx=>?_,I.base.tups,I.base.frzs,I.base.tbls⟩,⟨_,hn',fun j y v' e1 e2 e3=>?_⟩,fun y c e=>?_,I.free,I.freeC,fun p hp=>?_,tracked ⟨oL,hoL,I.free⟩ hs,by simpa using I.len⟩ ⟨_,hs,.inl rfl⟩
    · exact (hs.2 b (Nat.ne_of_lt (Nat.lt_of_lt_of_le (Heap.lt_size e) I.ok.above))).trans (I.base.keep b o e n hb hx)
    · obtain ⟨sl,e1⟩:=I.base.slot b o e n hb hx
      exact ⟨sl,(hs.2 b (Nat.ne_of_lt (Nat.lt_of_lt_of_le (Heap.lt_size e) I.ok.above))).trans e1⟩
    · obtain ⟨o',e1⟩:=I.base.there b o e hx
      exact ⟨o',(hs.2 b (Nat.ne_of_lt (Nat.lt_of_lt_of_le (Heap.lt_size e) I.ok.above))).trans e1⟩
    · by_cases hj : j=i
      · subst hj
        rw [hi] at e1; cases e1
        rw [List.getElem?_set_self hiσ] at e2
        cases e2
        exact ⟨u,r,.inl ⟨hk,by simp⟩⟩
      · rw [List.getElem?_set_ne (Ne.symm hj)] at e2
        obtain ⟨u',r',q⟩:=hl j y v' e1 e2 e3
        refine ⟨u',r',?_⟩
        rcases q with ⟨k,e⟩ | ⟨k,c,e,z⟩
        · refine .inl ⟨k,?_⟩
          have : y≠x:=fun e=>hj (nodup_ix hN e1 (e ▸ hi))
          simp [this,e]
        · exact .inr ⟨k,c,e,z.sameBut hs (cne y c e)⟩
    · obtain ⟨w',z⟩:=I.cell y c e
      exact ⟨w',z.sameBut hs (cne y c e)⟩
    · obtain ⟨e,n,ne,nf,d⟩:=I.pin p hp
      exact ⟨(hs.2 p.1 ne).trans e,n,ne,nf,d⟩
  · have hfn : X.fn x=true:=by
      rcases hf with z | z
      · exact z
      · rw [z] at hk; cases hk
    obtain ⟨c,hc⟩:=I.ok.has x (.inl hk)
    obtain ⟨w',z⟩:=I.cell x c hc
    refine wpAny_storeName_cell I.ok.kind hk hc z (fun h' hc' hs=>?_)
    obtain ⟨oc,hoc,hocd⟩:=id z
    refine h { s with heap:=h' } ⟨I.ok,I.os,I.bare,⟨fun b o e n hb hx=>?_,fun b o e n hb hx=>?_,I.base.free,fun b o e hx=>?_,I.base.tups,I.base.frzs,I.base.tbls⟩,⟨m,hn.sameBut hs (Ne.symm (cne x c hc)),fun j y v' e1 e2 e3=>?_⟩,fun y c' e=>?_,I.free,I.freeC,fun p hp=>?_,tracked ⟨oc,hoc,I.freeC x c hc⟩ hs,by simpa using I.len⟩ ⟨c,hs,.inr hc⟩
    · exact (hs.2 b (Nat.ne_of_lt (Nat.lt_of_lt_of_le (Heap.lt_size e) (I.ok.cab x c hfn hc)))).trans (I.base.keep b o e n hb hx)
    · obtain ⟨sl,e1⟩:=I.base.slot b o e n hb hx
      exact ⟨sl,(hs.2 b (Nat.ne_of_lt (Nat.lt_of_lt_of_le (Heap.lt_size e) (I.ok.cab x c hfn hc)))).trans e1⟩
    · obtain ⟨o',e1⟩:=I.base.there b o e hx
      exact ⟨o',(hs.2 b (Nat.ne_of_lt (Nat.lt_of_lt_of_le (Heap.lt_size e) (I.ok.cab x c hfn hc)))).trans e1⟩
    · by_cases hj : j=i
      · subst hj
        rw [hi] at e1; cases e1
        rw [List.getElem?_set_self hiσ] at e2
        cases e2
        exact ⟨u,r,.inr ⟨.inl hk,c,hc,hc'⟩⟩
      · rw [List.getElem?_set_ne (Ne.symm hj)] at e2
        obtain ⟨u',r',q⟩:=hl j y v' e1 e2 e3
        refine ⟨u',r',?_⟩
        rcases q with q | ⟨k,c',e,z'⟩
        · exact .inl q
        · refine .inr ⟨k,c',e,z'.sameBut hs ?_⟩
          rintro rfl
          exact hj (nodup_ix hN e1 (I.ok.inj _ _ _ e hc ▸ hi))
    · by_cases hcc : c' = c
      · subst hcc; exact ⟨_,hc'⟩
      · obtain ⟨w2,z2⟩:=I.cell y c' e
        exact ⟨w2,z2.sameBut hs hcc⟩
    · obtain ⟨e,n,ne,nf,d⟩:=I.pin p hp
      refine ⟨(hs.2 p.1 ?_).trans e,n,ne,nf,d⟩
      intro q
      rw [q,hoc] at e
      have q' : oc=p.2:=Option.some.inj e
      exact d w' (by rw [← q']; exact hocd)
theorem store_ok {M : Model} {A : Around} {E : Value→Shared→Prop} {i : Nat} {x : Str} {v : V} {u : Value} {Q : Unit→Shared→Prop} (I : Inv X pins σ H s) (hN : X.N.Nodup) (hi : X.N[i]? = some x) (hx : Loc X.env.scope x) (r : RelV v u)
    (h : ∀ s',Inv X pins (σ.set i (some v)) H s'→Q () s') (hf : X.fn x=true∨X.env.scope.names.lookup x=some .local:=by first | exact .inl rfl | exact .inr rfl | assumption) : wpAny M A (storeName X.env x u) Q E s:=
  store_ok2 I hN hi hx r (fun s' I' _=>h s' I') hf
theorem Inv.call' {s' : Shared} {ch : List Addr} (I : Inv X pins σ H s) (ho : s'.os=s.os) (u : Un (frs X.stack) ch H H' s.heap s'.heap) (hok : HOk X.prog X.w H' s'.heap) (hg : AllBare s'.gens)
    (hch : ∀ b∈ch,(b∈X.ex∨X.s₀.heap.objs.size≤b)∧b≠X.env.locals∧(∀ x c,X.env.cells.lookup x=some c→c≠b)∧∀ p∈X.pn ++ pins,p.1≠b) : Inv X pins σ H' s':=by
  obtain ⟨h',g',d',t',o'⟩:=s'
  have e : o' = s.os:=ho
  subst e
  exact I.call (g':=g') (t':=t') (d':=d') u hok hg hch
end
abbrev XK:=Value→Option Addr→Hp→Prop
abbrev St:=List (Option V)
abbrev VK:=V→Hp→Prop
abbrev TE:=St→Hp→VK→Prop
abbrev TT:=St→Hp→(Bool→Hp→Prop)→Prop
abbrev TA:=St→Hp→(List V→Hp→Prop)→Prop
structure Ends where
  nx : St→Hp→Prop
  rt : VK
  bk : St→Hp→Prop:=fun _ _=>False
  ct : St→Hp→Prop:=fun _ _=>False
abbrev TS:=Ends→St→Hp→Prop
def EP (X : Cx) (pins : List (Addr×Obj)) (σ : St) (Q : VK) (u : Value) (s' : Shared) : Prop:=∃ v H',Inv X pins σ H' s'∧RelV v u∧Q v H'
def TP (X : Cx) (pins : List (Addr×Obj)) (σ : St) (Q : Bool→Hp→Prop) (b : Bool) (s' : Shared) : Prop:=∃ H',Inv X pins σ H' s'∧Q b H'
def AP (X : Cx) (pins : List (Addr×Obj)) (σ : St) (Q : List V→Hp→Prop) (us : List Value) (s' : Shared) : Prop:=∃ vs H',Inv X pins σ H' s'∧Vals vs us∧Q vs H'
def SP (X : Cx) (pins : List (Addr×Obj)) (D : Ends) (f : Flow) (s' : Shared) : Prop:=
  match f with
  | .next=>∃ σ' H',Inv X pins σ' H' s'∧D.nx σ' H'
  | .brk=>∃ σ' H',Inv X pins σ' H' s'∧D.bk σ' H'
  | .cont=>∃ σ' H',Inv X pins σ' H' s'∧D.ct σ' H'
  | .ret u=>∃ v σ' H',Inv X pins σ' H' s'∧RelV v u∧D.rt v H'
def PE0 (X : Cx) (e : Expr) (t : TE) : Prop:=
  ∀ (pins : List (Addr×Obj)) (s : Shared) (σ : St) (H : Hp) (Q : VK),Inv X pins σ H s→t σ H Q→wpAny (model X.prog X.w) X.A (eval e X.env) (EP X pins σ Q) X.xe s
structure PE (X : Cx) (e : Expr) (t : TE) : Prop where
  out : PE0 X e t
instance {X : Cx} {e : Expr} {t : TE} : CoeFun (PE X e t) (fun _=>PE0 X e t):=⟨PE.out⟩
def PT0 (X : Cx) (e : Expr) (t : TT) : Prop:=
  ∀ (pins : List (Addr×Obj)) (s : Shared) (σ : St) (H : Hp) (Q : Bool→Hp→Prop),Inv X pins σ H s→t σ H Q→wpAny (model X.prog X.w) X.A (isTrue e X.env (eval e X.env)) (TP X pins σ Q) X.xe s
structure PT (X : Cx) (e : Expr) (t : TT) : Prop where
  out : PT0 X e t
instance {X : Cx} {e : Expr} {t : TT} : CoeFun (PT X e t) (fun _=>PT0 X e t):=⟨PT.out⟩
def PW0 (X : Cx) (e : Expr) (t : TT) : Prop:=
  ∀ (whole : Sem Value) (pins : List (Addr×Obj)) (s : Shared) (σ : St) (H : Hp) (Q : Bool→Hp→Prop),Inv X pins σ H s→t σ H Q→wpAny (model X.prog X.w) X.A (isTrue e X.env whole) (TP X pins σ Q) X.xe s
structure PW (X : Cx) (e : Expr) (t : TT) : Prop where
  out : PW0 X e t
instance {X : Cx} {e : Expr} {t : TT} : CoeFun (PW X e t) (fun _=>PW0 X e t):=⟨PW.out⟩
theorem PW.pt {X : Cx} {e : Expr} {t : TT} (h : PW X e t) : PT X e t:=⟨h _⟩
def PA0 (X : Cx) (es : List Expr) (t : TA) : Prop:=
  ∀ (pos : Pos) (pins : List (Addr×Obj)) (s : Shared) (σ : St) (H : Hp) (Q : List V→Hp→Prop),Inv X pins σ H s→t σ H Q→wpAny (model X.prog X.w) X.A (spliced (backTo pos (starEach es X.env))) (AP X pins σ Q) X.xe s
structure PA (X : Cx) (es : List Expr) (t : TA) : Prop where
  out : PA0 X es t
instance {X : Cx} {es : List Expr} {t : TA} : CoeFun (PA X es t) (fun _=>PA0 X es t):=⟨PA.out⟩
def PS0 (X : Cx) (st : Stmt) (t : TS) : Prop:=
  ∀ (pins : List (Addr×Obj)) (s : Shared) (σ : St) (H : Hp) (D : Ends),Inv X pins σ H s→t D σ H→wpAny (model X.prog X.w) X.A (exec st X.env) (SP X pins D) X.xe s
structure PS (X : Cx) (st : Stmt) (t : TS) : Prop where
  out : PS0 X st t
instance {X : Cx} {st : Stmt} {t : TS} : CoeFun (PS X st t) (fun _=>PS0 X st t):=⟨PS.out⟩
def PSs0 (X : Cx) (st : List Stmt) (t : TS) : Prop:=
  ∀ (pins : List (Addr×Obj)) (s : Shared) (σ : St) (H : Hp) (D : Ends),Inv X pins σ H s→t D σ H→wpAny (model X.prog X.w) X.A (execs st X.env) (SP X pins D) X.xe s
structure PSs (X : Cx) (st : List Stmt) (t : TS) : Prop where
  out : PSs0 X st t
instance {X : Cx} {st : List Stmt} {t : TS} : CoeFun (PSs X st t) (fun _=>PSs0 X st t):=⟨PSs.out⟩
theorem thn {α : Type} {t : Sem α} {Q Q' : α→Shared→Prop} {M : Model} {A : Around} {E : Value→Shared→Prop} {s : Shared} (h : wpAny M A t Q E s) (hQ : ∀ a s,Q a s→Q' a s) : wpAny M A t Q' E s:=wpAny_mono h hQ fun _ _ x=>x
end L2
namespace L2
open PySem PySem.Spec PyProof.Rows
section
variable {X : Cx}
def tVar (i : Nat) : TE:=fun σ H Q=>∃ v,σ[i]? = some (some v)∧Q v H
def tC (v : V) : TE:=fun _ H Q=>Q v H
theorem pe_var {i : Nat} {x : Str} {pos : Pos} (hN : X.N[i]? = some x) (hv : Vis X.env.scope x) (hd : (x == ("__debug__" : Str))=false:=by decide) (hcd : (x == ("__classdict__" : Str))=false:=by decide) : PE X (.Name x pos) (tVar i):=by
  refine ⟨?_⟩
  intro pins s σ H Q I h
  obtain ⟨v,e,h⟩:=h
  obtain ⟨m,hn,hl⟩:=I.loc
  obtain ⟨u,r,l⟩:=hl i x v hN e hv
  have fin : EP X pins σ Q u s:=⟨v,H,I,r,h⟩
  rcases l with ⟨hk,hm⟩ | ⟨hk,c,hc,hcell⟩
  · exact wpAny_Name (wpAny_loadName_local I.ok.kind hk hn hm fin) hd
  · rcases hk with hk | hk
    · exact wpAny_Name (wpAny_loadName_cell I.ok.kind hk hc hcell fin) hd
    · exact wpAny_Name (wpAny_loadName_free I.ok.kind hk hc hcell fin hcd) hd
theorem pe_int {i j pos} : PE X (.Constant (.int i) j pos) (tC (.int i)):=⟨fun _ _ _ H _ I h=>wpAny_Constant_int ⟨.int i,H,I.tok _,⟨_,rfl⟩,h⟩⟩
theorem pe_bl {b j pos} : PE X (.Constant (.bool b) j pos) (tC (.bl b)):=⟨fun _ _ _ H _ I h=>Constant_bool ⟨.bl b,H,I,rfl,h⟩⟩
theorem pe_non {j pos} : PE X (.Constant .none j pos) (tC .non):=⟨fun _ _ _ H _ I h=>Constant_none ⟨.non,H,I,rfl,h⟩⟩
theorem pe_str {x j pos} : PE X (.Constant (.str x) j pos) (tC (.str x)):=⟨fun _ _ _ H _ I h=>Calls.Constant_str ⟨.str x,H,I.tok _,⟨_,rfl⟩,h⟩⟩
def Gl (X : Cx) (x : Str) : Prop:=X.env.kindOf x=some .globalImplicit
theorem ld_glob {E : Value→Shared→Prop} {pins : List (Addr×Obj)} {s : Shared} {σ : St} {H : Hp} {x : Str} {u : Value} {pos : Pos} {Q : Value→Shared→Prop} (I : Inv X pins σ H s) (hg : Gl X x) (hm : X.mg x=some u) (h : Q u s)
    (hd : (x == ("__debug__" : Str))=false:=by decide) : wpAny (model X.prog X.w) X.A (eval (.Name x pos) X.env) Q E s :=
  Calls.Name_function_global I.ok.kind hg (Calls.loadGlobal_global (by rw [I.ok.glob]; exact I.mod.glob.keeps I.bk) hm h) hd
theorem ld_blt {E : Value→Shared→Prop} {pins : List (Addr×Obj)} {s : Shared} {σ : St} {H : Hp} {x : Str} {u : Value} {pos : Pos} {Q : Value→Shared→Prop} (I : Inv X pins σ H s) (hg : Gl X x) (hm : X.mg x=none) (hv : bootBuiltins x=some u) (h : Q u s)
    (hn : x ≠ "__name__" := by decide) (hd : (x == ("__debug__" : Str))=false:=by decide) : wpAny (model X.prog X.w) X.A (eval (.Name x pos) X.env) Q E s:=by
  obtain ⟨mb,h1,h2⟩:=I.mod.blt
  exact Calls.Name_function_global I.ok.kind hg (Calls.loadGlobal_builtin (by rw [I.ok.glob]; exact I.mod.glob.keeps I.bk) hm (by rw [I.ok.blt]; exact h1.keeps I.bk) ((h2 x hn).trans hv) h) hd
theorem pe_glob {x : Str} {v : V} {u : Value} {pos : Pos} (hg : Gl X x) (hm : X.mg x=some u) (r : RelV v u) (hd : (x == ("__debug__" : Str))=false:=by decide) : PE X (.Name x pos) (tC v) :=
  ⟨fun _ _ _ H _ I h=>ld_glob I hg hm ⟨v,H,I,r,h⟩ hd⟩
theorem pe_bltn {x : Str} {v : V} {u : Value} {pos : Pos} (hg : Gl X x) (hm : X.mg x=none) (hv : bootBuiltins x=some u) (r : RelV v u) (hn : x ≠ "__name__" := by decide) (hd : (x == ("__debug__" : Str))=false:=by decide) : PE X (.Name x pos) (tC v) :=
  ⟨fun _ _ _ H _ I h=>ld_blt I hg hm hv ⟨v,H,I,r,h⟩ hn hd⟩
variable {a b : Expr} {ta tb : TE} {pos : Pos}
def PC (X : Cx) (op : CmpOp) (a b : Expr) (t : TE) : Prop:=
  ∀ (pins : List (Addr×Obj)) (s : Shared) (σ : St) (H : Hp) (Q : VK),Inv X pins σ H s→t σ H Q→
    wpAny (model X.prog X.w) X.A (eval a X.env) (fun v s₁=>wpAny (model X.prog X.w) X.A (eval b X.env) (fun u s₂=>wpAny (model X.prog X.w) X.A (compareOp op v u) (EP X pins σ Q) X.xe s₂) X.xe s₁) X.xe s
def tB (t : TE) : TT:=fun σ H Q=>t σ H fun x H1=>∃ c,x = .bl c∧Q c H1
theorem pt_cmp {op : CmpOp} {t : TE} (h : PC X op a b t) (h1 : behindInMarks op b=false:=by first | exact nobehind _ (by decide) (by decide) | rfl) : PT X (.Compare a [op] [b] pos) (tB t):=by
  refine ⟨?_⟩
  intro pins s σ H Q I hw
  refine wpAny_isTrue_Compare1 (thn (h pins s σ H _ I hw) fun v s1 h1=>thn h1 fun u s2 h2=>thn h2 fun c s3 ⟨x,H1,I1,r1,q1⟩=>?_) h1
  obtain ⟨d,rfl,q⟩:=q1
  cases r1
  exact wpAny_truthy_bool ⟨H1,I1,q⟩
variable {tA tB' : TT} {rest : List Expr}
def tAnd (t u : TT) : TT:=fun σ H Q=>t σ H fun c H1=>if c=true then u σ H1 Q else Q false H1
def tOr (t u : TT) : TT:=fun σ H Q=>t σ H fun c H1=>if c=true then Q true H1 else u σ H1 Q
def tNot (t : TT) : TT:=fun σ H Q=>t σ H fun c H1=>Q (!c) H1
theorem pw_and1 (ha : PT X a tA) : PW X (.BoolOp .And [a] pos) tA:=by
  refine ⟨?_⟩
  intro wh pins s σ H Q I h
  refine isTrue_and (thn (ha pins s σ H Q I h) fun c s1 e=>?_)
  cases c with
  | true=>exact isTrue_and_nil e
  | false=>exact e
theorem pw_or1 (ha : PT X a tA) : PW X (.BoolOp .Or [a] pos) tA:=by
  refine ⟨?_⟩
  intro wh pins s σ H Q I h
  refine isTrue_or (thn (ha pins s σ H Q I h) fun c s1 e=>?_)
  cases c with
  | false=>exact isTrue_or_nil e
  | true=>exact e
theorem pw_and (ha : PT X a tA) (hb : PW X (.BoolOp .And (b :: rest) pos) tB') : PW X (.BoolOp .And (a :: b :: rest) pos) (tAnd tA tB'):=by
  refine ⟨?_⟩
  intro wh pins s σ H Q I h
  refine isTrue_and (thn (ha pins s σ H _ I h) fun c s1 ⟨H1,I1,q1⟩=>?_)
  cases c with
  | true=>exact hb wh pins s1 σ H1 Q I1 q1
  | false=>exact ⟨H1,I1,q1⟩
theorem pw_or (ha : PT X a tA) (hb : PW X (.BoolOp .Or (b :: rest) pos) tB') : PW X (.BoolOp .Or (a :: b :: rest) pos) (tOr tA tB'):=by
  refine ⟨?_⟩
  intro wh pins s σ H Q I h
  refine isTrue_or (thn (ha pins s σ H _ I h) fun c s1 ⟨H1,I1,q1⟩=>?_)
  cases c with
  | true=>exact ⟨H1,I1,q1⟩
  | false=>exact hb wh pins s1 σ H1 Q I1 q1
theorem pt_not (ha : PT X a tA) : PT X (.UnaryOp .Not a pos) (tNot tA):=by
  refine ⟨?_⟩
  intro pins s σ H Q I h
  exact isTrue_not (ha pins s σ H (fun c H1=>Q (!c) H1) I h)
def tAndV (ta tb : TE) : TE:=fun σ H Q=>ta σ H fun x H1=>∃ c,x = .bl c∧if c=true then tb σ H1 Q else Q (.bl false) H1
def tOrV (ta tb : TE) : TE:=fun σ H Q=>ta σ H fun x H1=>∃ c,x = .bl c∧if c=true then Q (.bl true) H1 else tb σ H1 Q
def tNotV (ta : TE) : TE:=fun σ H Q=>ta σ H fun x H1=>∃ c,x = .bl c∧Q (.bl (!c)) H1
theorem pe_one {op} {t : TE} (h : PE X a t) : PE X (.BoolOp op [a] pos) t:=⟨fun pins s σ H Q I hw=>BoolOp_one (h pins s σ H Q I hw)⟩
theorem pe_and (ha : PE X a ta) (hb : PE X (.BoolOp .And (b :: rest) pos) tb) : PE X (.BoolOp .And (a :: b :: rest) pos) (tAndV ta tb):=by
  refine ⟨?_⟩
  intro pins s σ H Q I h
  refine BoolOp_and (thn (ha pins s σ H _ I h) fun v s1 ⟨x,H1,I1,r1,q1⟩=>?_)
  obtain ⟨c,rfl,q1⟩:=q1
  cases r1
  refine wpAny_truthy_bool ?_
  cases c with
  | true=>exact hb pins s1 σ H1 Q I1 q1
  | false=>exact ⟨.bl false,H1,I1,rfl,q1⟩
theorem pe_or (ha : PE X a ta) (hb : PE X (.BoolOp .Or (b :: rest) pos) tb) : PE X (.BoolOp .Or (a :: b :: rest) pos) (tOrV ta tb):=by
  refine ⟨?_⟩
  intro pins s σ H Q I h
  refine BoolOp_or (thn (ha pins s σ H _ I h) fun v s1 ⟨x,H1,I1,r1,q1⟩=>?_)
  obtain ⟨c,rfl,q1⟩:=q1
  cases r1
  refine wpAny_truthy_bool ?_
  cases c with
  | false=>exact hb pins s1 σ H1 Q I1 q1
  | true=>exact ⟨.bl true,H1,I1,rfl,q1⟩
theorem pe_not (ha : PE X a ta) : PE X (.UnaryOp .Not a pos) (tNotV ta):=by
  refine ⟨?_⟩
  intro pins s σ H Q I h
  refine UnaryOp_ (thn (ha pins s σ H _ I h) fun v s1 ⟨x,H1,I1,r1,q1⟩=>?_)
  obtain ⟨c,rfl,q1⟩:=q1
  cases r1
  exact not_of (wpAny_truthy_bool ⟨.bl (!c),H1,I1,rfl,q1⟩)
def tIf (t : TT) (ta tb : TE) : TE:=fun σ H Q=>t σ H fun c H1=>if c=true then ta σ H1 Q else tb σ H1 Q
theorem pe_ifExp {c : Expr} (hc : PT X c tA) (ha : PE X a ta) (hb : PE X b tb) : PE X (.IfExp c a b pos) (tIf tA ta tb):=by
  refine ⟨?_⟩
  intro pins s σ H Q I h
  refine wpAny_IfExp (thn (hc pins s σ H _ I h) fun d s1 ⟨H1,I1,q1⟩=>?_)
  cases d with
  | true=>exact ha pins s1 σ H1 Q I1 q1
  | false=>exact hb pins s1 σ H1 Q I1 q1
end
end L2
namespace L2
open PySem PySem.Spec PyProof.Rows
def SqL (K : PySem.W.Frag) (H : Hp) (a : Addr) (xs : List V) : Prop:=
  Rd H a (.lst xs)∨
    ∃ (o : Obj) (its : Array Value) (n : Nat),K.lookup a=some o∧o.cls = .type "list" ∧ o.dict=none∧o.data = .seq its n∧its.size≤sizeLine∧Vals xs its.toList
def SqT (K : PySem.W.Frag) (H : Hp) (a : Addr) (xs : List V) : Prop:=
  Rd H a (.tup xs)∨
    ∃ (o : Obj) (its : Array Value) (n : Nat),K.lookup a=some o∧o.cls = .type "tuple" ∧ o.data = .seq its n∧its.size≤sizeLine∧Vals xs its.toList
def absV : Value→Option V
  | .none=>some .non
  | .bool b=>some (.bl b)
  | .int i _=>some (.int i)
  | .str x _=>some (.str x)
  | .bytes b _=>some (.byt b)
  | .float b _=>some (.flt b)
  | .ref a=>some (.ref a)
  | .type n=>some (.ty n)
  | _=>none
theorem RelV.abs {x : V} {u : Value} (r : RelV x u) : absV u=some x:=by
  cases x with
  | non=>cases r; rfl
  | bl _=>cases r; rfl
  | int _=>obtain ⟨t,rfl⟩:=r; rfl
  | str _=>obtain ⟨t,rfl⟩:=r; rfl
  | byt _=>obtain ⟨t,rfl⟩:=r; rfl
  | flt _=>obtain ⟨t,rfl⟩:=r; rfl
  | ref _=>cases r; rfl
  | ty _=>cases r; rfl
theorem RelV.inj {x y : V} {u : Value} (r : RelV x u) (q : RelV y u) : x=y:=Option.some.inj (r.abs.symm.trans q.abs)
theorem Vals.inj : ∀ {xs ys : List V} {us : List Value},Vals xs us→Vals ys us→xs=ys
  | _,_,_,.nil,.nil=>rfl
  | _,_,_,.cons r t,.cons r' t'=>by rw [r.inj r',Vals.inj t t']
section
variable {X : Cx} {pins : List (Addr×Obj)} {σ : St} {H : Hp} {s : Shared} {a : Addr} {xs ys : List V}
theorem SqL.of {K : PySem.W.Frag} (h : H a=some (.lst xs)) : SqL K H a xs:=.inl (.inl h)
theorem SqT.of {K : PySem.W.Frag} (h : H a=some (.tup xs)) : SqT K H a xs:=.inl (.inl h)
theorem Inv.list (I : Inv X pins σ H s) (h : SqL X.K H a xs) : ∃ its : List Value,Vals xs its∧PlainL s.heap a its.toArray∧xs.length≤sizeLine:=by
  rcases h with h | ⟨o,its,n,hk,hc,hd,hs,hz,r⟩
  · obtain ⟨z,its,n,r,e⟩:=h.ok I.hok
    exact ⟨its,r,⟨_,n,e,rfl,rfl,rfl⟩,z⟩
  · refine ⟨its.toList,r,⟨o,n,I.kIn a o hk,hc,hd,by simpa using hs⟩,?_⟩
    have e:=r.length
    simp only [Array.length_toList] at e
    omega
theorem Inv.tuple (I : Inv X pins σ H s) (h : SqT X.K H a xs) : ∃ its : List Value,Vals xs its∧IsTup s.heap a its.toArray∧xs.length≤sizeLine:=by
  rcases h with h | ⟨o,its,n,hk,hc,hs,hz,r⟩
  · obtain ⟨z,its,r,p⟩:=h.ok I.hok
    exact ⟨its,r,p,z⟩
  · refine ⟨its.toList,r,⟨o,I.kIn a o hk,hc,n,by simpa using hs⟩,?_⟩
    have e:=r.length
    simp only [Array.length_toList] at e
    omega
theorem Inv.list_inj (I : Inv X pins σ H s) (h : SqL X.K H a xs) (h' : SqL X.K H a ys) : xs=ys:=by
  obtain ⟨its,r,⟨o,n,e,_,_,d⟩,_⟩:=I.list h
  obtain ⟨its',r',⟨o',n',e',_,_,d'⟩,_⟩:=I.list h'
  rw [e] at e'; cases e'
  rw [d] at d'
  injection d' with d1 _
  have : its=its':=by simpa using congrArg Array.toList d1
  subst this
  exact r.inj r'
theorem Inv.tuple_inj (I : Inv X pins σ H s) (h : SqT X.K H a xs) (h' : SqT X.K H a ys) : xs=ys:=by
  obtain ⟨its,r,⟨o,e,_,n,d⟩,_⟩:=I.tuple h
  obtain ⟨its',r',⟨o',e',_,n',d'⟩,_⟩:=I.tuple h'
  rw [e] at e'; cases e'
  rw [d] at d'
  injection d' with d1 _
  have : its=its':=by simpa using congrArg Array.toList d1
  subst this
  exact r.inj r'
end
abbrev Cx.wish (X : Cx) (E : Value→Shared→Prop) : Cx:={ X with xe:=E }
abbrev Cx.nox (X : Cx) : Cx:=X.wish fun _ _=>False
theorem Cx.Ok.wish {X : Cx} (ok : X.Ok) (E : Value→Shared→Prop) : (X.wish E).Ok:=
  ⟨ok.mod,ok.kind,ok.glob,ok.blt,ok.above,ok.inj,ok.has,ok.cab,ok.hd,ok.frames,ok.stk,ok.exf,ok.bs,ok.bsz,ok.noex,ok.exfs,ok.funs,ok.frf⟩
theorem Cx.Ok.unwish {X : Cx} {E : Value→Shared→Prop} (ok : (X.wish E).Ok) : X.Ok:=
  ⟨ok.mod,ok.kind,ok.glob,ok.blt,ok.above,ok.inj,ok.has,ok.cab,ok.hd,ok.frames,ok.stk,ok.exf,ok.bs,ok.bsz,ok.noex,ok.exfs,ok.funs,ok.frf⟩
section
variable {X : Cx} {pins : List (Addr×Obj)} {σ : St} {H : Hp} {s : Shared} {E : Value→Shared→Prop}
theorem Inv.wish (I : Inv X pins σ H s) (E : Value→Shared→Prop) : Inv (X.wish E) pins σ H s:=⟨I.ok.wish E,I.os,I.bare,I.base,I.loc,I.cell,I.free,I.freeC,I.pin,I.hok,I.len⟩
theorem Inv.unwish (I : Inv (X.wish E) pins σ H s) : Inv X pins σ H s:=⟨I.ok.unwish,I.os,I.bare,I.base,I.loc,I.cell,I.free,I.freeC,I.pin,I.hok,I.len⟩
theorem SP.unwish {D : Ends} {f : Flow} {s' : Shared} (h : SP (X.wish E) pins D f s') : SP X pins D f s':=by
  cases f with
  | next=>obtain ⟨σ',H',I,q⟩:=h; exact ⟨σ',H',I.unwish,q⟩
  | brk=>obtain ⟨σ',H',I,q⟩:=h; exact ⟨σ',H',I.unwish,q⟩
  | cont=>obtain ⟨σ',H',I,q⟩:=h; exact ⟨σ',H',I.unwish,q⟩
  | ret u=>obtain ⟨v,σ',H',I,r,q⟩:=h; exact ⟨v,σ',H',I.unwish,r,q⟩
theorem PSs.nox {st : List Stmt} {t : TS} (h : PSs X.nox st t) : PSs X st t:=⟨fun pins s σ H D I hw=>
  wpAny_mono (h pins s σ H D (I.wish _) hw) (fun _ _ q=>q.unwish) fun _ _ z=>False.elim z⟩
end
section
variable {X : Cx} {st : Stmt} {rest : List Stmt} {t u : TS} {e : Expr} {te : TE} {pos : Pos}
def tNext : TS:=fun D σ H=>D.nx σ H
def tSeq (t u : TS) : TS:=fun D σ H=>t { D with nx:=u D } σ H
theorem pss_nil : PSs X [] tNext:=⟨fun _ _ σ H _ I h=>wpAny_execs_nil ⟨σ,H,I,h⟩⟩
theorem pss_cons (h1 : PS X st t) (h2 : PSs X rest u) : PSs X (st :: rest) (tSeq t u):=by
  refine ⟨?_⟩
  intro pins s σ H D I h
  refine wpAny_execs_cons (thn (h1 pins s σ H { D with nx:=u D } I h) fun f s1 q=>?_)
  cases f with
  | next=>
    obtain ⟨σ',H',I',q⟩:=q
    exact h2 pins s1 σ' H' D I' q
  | ret v=>exact q
  | brk=>exact q
  | cont=>exact q
theorem pss_one (h1 : PS X st t) : PSs X [st] t:=by
  refine ⟨?_⟩
  intro pins s σ H D I h
  refine wpAny_execs_cons (thn (h1 pins s σ H D I h) fun f s1 q=>?_)
  cases f with
  | next=>exact wpAny_execs_nil q
  | ret v=>exact q
  | brk=>exact q
  | cont=>exact q
theorem Inv.quiet {pins : List (Addr×Obj)} {σ : St} {H : Hp} {s : Shared} (I : Inv X pins σ H s) : interactive X.env=false:=by simp [interactive,I.ok.kind]
def tDrop (te : TE) : TS:=fun D σ H=>te σ H fun _ H1=>D.nx σ H1
theorem ps_expr (he : PE X e te) (hs : swapsWith e none pos.line X.env=pure false:=by rfl) : PS X (.Expr e pos) (tDrop te):=by
  refine ⟨?_⟩
  intro pins s σ H D I h
  exact wpAny_Expr_any (thn (he pins s σ H _ I h) fun v s1 ⟨x,H1,I1,r1,q1⟩=>⟨σ,H1,I1,q1⟩) I.quiet hs
def tRet (te : TE) : TS:=fun D σ H=>te σ H D.rt
theorem ps_ret (he : PE X e te) : PS X (.Return (some e) pos) (tRet te):=by
  refine ⟨?_⟩
  intro pins s σ H D I h
  exact wpAny_Return_some (thn (he pins s σ H _ I h) fun v s1 ⟨x,H1,I1,r1,q1⟩=>⟨x,σ,H1,I1,r1,q1⟩)
def tIfS (c : TT) (t u : TS) : TS:=fun D σ H=>c σ H fun b H1=>if b=true then t D σ H1 else u D σ H1
theorem ps_if {c : Expr} {a b : List Stmt} {tc : TT} (hc : PT X c tc) (ha : PSs X a t) (hb : PSs X b u) : PS X (.If c a b pos) (tIfS tc t u):=by
  refine ⟨?_⟩
  intro pins s σ H D I h
  refine wpAny_If (thn (hc pins s σ H _ I h) fun d s1 ⟨H1,I1,q1⟩=>?_)
  cases d with
  | true=>exact ha pins s1 σ H1 D I1 q1
  | false=>exact hb pins s1 σ H1 D I1 q1
end
abbrev TG:=V→St→Hp→(St→Hp→Prop)→Prop
abbrev TGs:=List V→St→Hp→(St→Hp→Prop)→Prop
def PG0 (X : Cx) (target : Expr) (t : TG) : Prop:=
  ∀ (pins : List (Addr×Obj)) (s : Shared) (σ : St) (H : Hp) (v : V) (u : Value) (Q : St→Hp→Prop),Inv X pins σ H s→RelV v u→t v σ H Q→
    wpAny (model X.prog X.w) X.A (assign target X.env u) (fun _ s'=>∃ σ' H',Inv X pins σ' H' s'∧Q σ' H') X.xe s
structure PG (X : Cx) (target : Expr) (t : TG) : Prop where
  out : PG0 X target t
instance {X : Cx} {target : Expr} {t : TG} : CoeFun (PG X target t) (fun _=>PG0 X target t):=⟨PG.out⟩
def PGs0 (X : Cx) (ts : List Expr) (t : TGs) : Prop:=
  ∀ (pins : List (Addr×Obj)) (s : Shared) (σ : St) (H : Hp) (vs : List V) (us : List Value) (Q : St→Hp→Prop),Inv X pins σ H s→Vals vs us→t vs σ H Q→
    wpAny (model X.prog X.w) X.A (assignInOrder ((assignEach ts X.env).map (·.2)) us) (fun _ s'=>∃ σ' H',Inv X pins σ' H' s'∧Q σ' H') X.xe s
structure PGs (X : Cx) (ts : List Expr) (t : TGs) : Prop where
  out : PGs0 X ts t
instance {X : Cx} {ts : List Expr} {t : TGs} : CoeFun (PGs X ts t) (fun _=>PGs0 X ts t):=⟨PGs.out⟩
abbrev TSet:=V→V→V→Hp→(Hp→Prop)→Prop
def PSet (X : Cx) (t : TSet) : Prop:=
  ∀ (pins : List (Addr×Obj)) (s : Shared) (σ : St) (H : Hp) (o i v : V) (ov iv u : Value) (Q : Hp→Prop),Inv X pins σ H s→RelV o ov→RelV i iv→RelV v u→t o i v H Q→
    wpAny (model X.prog X.w) X.A (setItem ov iv u) (fun _ s'=>∃ H',Inv X pins σ H' s'∧Q H') X.xe s
section
variable {X : Cx} {pos : Pos}
def gName (i : Nat) : TG:=fun v σ H Q=>Q (σ.set i (some v)) H
theorem pg_name {i : Nat} {x : Str} (hN : X.N.Nodup) (hi : X.N[i]? = some x) (hx : Loc X.env.scope x) (hf : X.fn x=true∨X.env.scope.names.lookup x=some .local:=by first | exact .inl rfl | exact .inr rfl | assumption) : PG X (.Name x pos) (gName i):=by
  refine ⟨?_⟩
  intro pins s σ H v u Q I r h
  exact wpAny_assign_Name (store_ok I hN hi hx r (fun s' I'=>⟨_,H,I',h⟩) hf)
def gNil : TGs:=fun vs σ H Q=>vs=[]∧Q σ H
def gCons (t : TG) (u : TGs) : TGs:=fun vs σ H Q=>∃ v r,vs=v :: r∧t v σ H fun σ' H'=>u r σ' H' Q
theorem pgs_nil : PGs X [] gNil:=by
  refine ⟨?_⟩
  intro pins s σ H vs us Q I r h
  obtain ⟨e,h⟩:=h
  subst e
  cases r
  exact assignInOrder_nil ⟨σ,H,I,h⟩
theorem pgs_cons {e : Expr} {es : List Expr} {t : TG} {u : TGs} (h1 : PG X e t) (h2 : PGs X es u)
    (hs : (assignEach (e :: es) X.env).map (·.2)=assign e X.env :: (assignEach es X.env).map (·.2):=by rfl) : PGs X (e :: es) (gCons t u):=by
  refine ⟨?_⟩
  intro pins s σ H vs us Q I r h
  obtain ⟨v,vr,e1,h⟩:=h
  subst e1
  cases r with
  | cons r rr=>
    rw [hs]
    refine assignInOrder_cons (thn (h1 pins s σ H _ _ _ I r h) fun _ s1 ⟨σ1,H1,I1,q1⟩=>?_)
    exact h2 pins s1 σ1 H1 _ _ Q I1 rr q1
def gTup (K : PySem.W.Frag) (n : Nat) (t : TGs) : TG:=fun v σ H Q=>∃ a xs,v = .ref a∧SqT K H a xs∧xs.length=n∧t xs σ H Q
theorem pg_tup {es : List Expr} {k : Nat} {t : TGs} {n : Nat} (hc : X.calm=true) (h : PGs X es t)
    (hn : (assignEach es X.env).length=n:=by rfl) (hst : (assignEach es X.env).findIdx? (·.1)=none:=by rfl) : PG X (.Tuple es k pos) (gTup X.K n t):=by
  refine ⟨?_⟩
  intro pins s σ H v u Q I r hw
  obtain ⟨a,xs,e1,hq,hl,hw⟩:=hw
  subst e1
  cases r
  obtain ⟨its,rv,ht,hz⟩:=I.tuple hq
  refine assign_Tuple_tuple (I.ok.hd hc) ht (by simp [hn,← hl,rv.length]) hst fun h' hx=>?_
  have I1 : Inv X pins σ H { s with heap:=h' }:=I.kept (t':=s.toks) fun b o e=>hx b o (Nat.ne_of_lt (Heap.lt_size e)) e
  exact h pins _ σ H xs _ Q I1 (by simpa using rv) hw
def gSub (to ti : TE) (t : TSet) : TG:=fun v σ H Q=>to σ H fun o H1=>ti σ H1 fun i H2=>t o i v H2 fun H3=>Q σ H3
theorem pg_sub {o i : Expr} {to ti : TE} {t : TSet} (ho : PE X o to) (hi : PE X i ti) (hs : PSet X t)
    (ha : ∀ v,assign (.Subscript o i pos) X.env v=(do
      let ov ← holding [v] (eval o X.env)
      let iv ← holding [v,ov] (eval i X.env)
      standAt pos
      holding [v,ov,iv] (setItem ov iv v)
      release [v,ov,iv] []):=by intro _; rfl) : PG X (.Subscript o i pos) (gSub to ti t):=by
  refine ⟨?_⟩
  intro pins s σ H v u Q I r h
  rw [ha]
  refine wpAny_bind (wpAny_holding (thn (ho pins s σ H _ I h) fun ov s1 ⟨x,H1,I1,r1,q1⟩=>?_))
  refine wpAny_bind (wpAny_holding (thn (hi pins s1 σ H1 _ I1 q1) fun iv s2 ⟨y,H2,I2,r2,q2⟩=>?_))
  refine wpAny_bind (wpAny_standAt (wpAny_bind (wpAny_holding (thn (hs pins s2 σ H2 x y v ov iv u _ I2 r1 r2 r q2) fun _ s3 ⟨H3,I3,q3⟩=>?_))))
  exact wpAny_release ⟨σ,H3,I3,q3⟩
def tAsg (te : TE) (g : TG) : TS:=fun D σ H=>te σ H fun x H1=>g x σ H1 D.nx
theorem ps_asg {tg e : Expr} {te : TE} {g : TG} (he : PE X e te) (hg : PG X tg g) (hs : swapsWithSole [tg] e pos.line X.env=pure false:=by rfl) (hw : swappedStores [tg] e X.env=pure none:=by rfl)
    (h1 : (assignEach [tg] X.env).map (·.2)=[assign tg X.env]:=by rfl) : PS X (.Assign [tg] e pos) (tAsg te g):=by
  refine ⟨?_⟩
  intro pins s σ H D I h
  refine wpAny_Assign_stores (thn (he pins s σ H _ I h) fun v s1 ⟨x,H1,I1,r1,q1⟩=>?_) hs hw
  rw [h1]
  exact thn (hg pins s1 σ H1 x v _ I1 r1 q1) fun _ s2 q=>q
theorem ps_set {i : Nat} {x : Str} {e : Expr} {te : TE} {pos' : Pos} (hN : X.N.Nodup) (hi : X.N[i]? = some x) (hx : Loc X.env.scope x) (he : PE X e te) (hs : swapsWith e (some (.Name x pos')) pos.line X.env=pure false:=by rfl) (hf : X.fn x=true∨X.env.scope.names.lookup x=some .local:=by first | exact .inl rfl | exact .inr rfl | assumption) :
    PS X (.Assign [.Name x pos'] e pos) (tAsg te (gName i)):=by
  refine ⟨?_⟩
  intro pins s σ H D I h
  refine wpAny_Assign_Name (thn (he pins s σ H _ I h) fun v s1 ⟨y,H1,I1,r1,q1⟩=>?_) hs
  exact store_ok I1 hN hi hx r1 (fun s2 I2=>⟨_,H1,I2,q1⟩) hf
end
section
variable {X : Cx} {pos : Pos}
end
structure It where
  go : Nat→Hp→Prop
  yld : Nat→Hp→V→Hp→Prop
  stop : Nat→Hp→Prop
def FpOk (X : Cx) (pins : List (Addr×Obj)) (H : Hp) (b : Addr) : Prop:=
  H b=none∧b≠X.env.locals∧b ∉ X.fs∧(b∈X.ex∨X.s₀.heap.objs.size≤b)∧(∀ x c,X.env.cells.lookup x=some c→c≠b)∧∀ p∈X.pn ++ pins,p.1≠b
theorem Inv.fpOk {X : Cx} {pins : List (Addr×Obj)} {σ : St} {H H' : Hp} {s : Shared} {b : Addr} (I : Inv X pins σ H s) (hb : s.heap.objs.size≤b) (hn : H' b=none) : FpOk X pins H' b:=by
  refine ⟨hn,Nat.ne_of_gt (Nat.lt_of_lt_of_le I.lt hb),I.nofs hb,.inr (Nat.le_trans I.sz hb),fun x c e z=>?_,fun p hp z=>?_⟩
  · obtain ⟨v,q⟩:=I.cell x c e
    exact absurd (Nat.lt_of_lt_of_le q.lt (by rw [z]; exact hb)) (Nat.lt_irrefl _)
  · exact absurd (Nat.lt_of_lt_of_le (Heap.lt_size (I.pin p hp).1) (by rw [z]; exact hb)) (Nat.lt_irrefl _)
structure Turn (P : Program) (w : World) (K : PySem.W.Frag) (tg : Expr) (J : It) (fp : List Addr) (it : Addr) (tn : Nat→Heap→Prop) : Prop where
  mem : it∈fp
  obj : ∀ i h,tn i h→∀ b∈fp,∃ o,h.get? b=some o∧∀ v,o.data≠.cell v
  keep : ∀ i h h',tn i h→(∀ b∈fp,∀ o,h.get? b=some o→h'.get? b=some o)→tn i h'
  item : ∀ (X : Cx),X.prog=P→X.w=w→X.K=K→X.calm=true→∀ (i : Nat) (pins : List (Addr×Obj)) (s : Shared) (σ : St) (H : Hp) (E : Value→Shared→Prop),Inv X pins σ H s→(∀ b∈fp,FpOk X pins H b)→tn i s.heap→J.go i H→
    wpAny (model P w) X.A (pyNext (.ref it)) (fun r s1=>∃ u,r=some u∧
      wpAny (model P w) X.A (letOwnedTupleGo tg (.ref it) u) (fun _ s2=>∃ x H',Inv X pins σ H' s2∧RelV x u∧J.yld i H x H'∧tn (i + 1) s2.heap∧∀ b∈fp,H' b=none) E s1) E s
  done : ∀ (X : Cx),X.prog=P→X.w=w→X.K=K→X.calm=true→∀ (i : Nat) (pins : List (Addr×Obj)) (s : Shared) (σ : St) (H : Hp) (E : Value→Shared→Prop),Inv X pins σ H s→(∀ b∈fp,FpOk X pins H b)→tn i s.heap→J.stop i H→
    wpAny (model P w) X.A (pyNext (.ref it)) (fun r s1=>r=none∧Inv X pins σ H s1) E s
  self : ∀ (A : Around) (i : Nat) (s : Shared) (Q : Value→Shared→Prop) (E : Value→Shared→Prop),tn i s.heap→Q (.ref it) s→wpAny (model P w) A (pyIter (.ref it)) Q E s
abbrev TI:=St→Hp→(It→Hp→Prop)→Prop
def PIE (X : Cx) (pins : List (Addr×Obj)) (σ : St) (tg : Expr) (R : It→Hp→Prop) (itv : Value) (s2 : Shared) : Prop:=
  ∃ (it : Addr) (fp : List Addr) (tn : Nat→Heap→Prop) (J : It) (H' : Hp),itv = .ref it∧Inv X pins σ H' s2∧Turn X.prog X.w X.K tg J fp it tn∧tn 0 s2.heap∧(∀ b∈fp,FpOk X pins H' b)∧R J H'
def PI0 (X : Cx) (tg iter : Expr) (wi : TI) : Prop:=
  ∀ (pins : List (Addr×Obj)) (s : Shared) (σ : St) (H : Hp) (R : It→Hp→Prop),Inv X pins σ H s→wi σ H R→
    wpAny (model X.prog X.w) X.A (eval iter X.env) (fun v s1=>wpAny (model X.prog X.w) X.A (pyIter v) (PIE X pins σ tg R) X.xe s1) X.xe s
structure PI (X : Cx) (tg iter : Expr) (wi : TI) : Prop where
  out : PI0 X tg iter wi
instance {X : Cx} {tg iter : Expr} {wi : TI} : CoeFun (PI X tg iter wi) (fun _=>PI0 X tg iter wi):=⟨PI.out⟩
theorem go_of {M : Model} {A : Around} {E : Value→Shared→Prop} {s : Shared} {tg : Expr} {it : Addr} {u : Value} {o : Obj} {n : String} {vs : Array Value} {Q : Unit→Shared→Prop} (ho : s.heap.get? it=some o) (hc : o.cls = .type n) (hd : o.data = .fields vs)
    (hn : ["enumerate","zip","dict_itemiterator","dict_reverseitemiterator","odict_iterator","itertools.zip_longest","itertools.pairwise"].contains n=false) (hQ : Q () s) : wpAny M A (letOwnedTupleGo tg (.ref it) u) Q E s:=by
  unfold letOwnedTupleGo
  cases tg <;> first
    | exact wpAny_pure hQ
    | (cases u <;> first
        | exact wpAny_pure hQ
        | (refine wpAny_bind (wpAny_load ho ?_)
           rw [hc,hd]
           show wpAny M A (if (["enumerate","zip","dict_itemiterator","dict_reverseitemiterator","odict_iterator","itertools.zip_longest","itertools.pairwise"].contains n && vs[0]? == some (rawInt _))=true then _ else _) Q E s
           rw [if_neg (by intro h; rw [hn,Bool.false_and] at h; cases h)]
           exact wpAny_pure hQ))
def Itl (K : PySem.W.Frag) (a : Addr) : It:=
  ⟨fun i H=>∃ xs x,SqL K H a xs∧xs[i]? = some x,fun i H x H'=>H' = H∧∀ xs,SqL K H a xs→xs[i]? = some x,fun i H=>∃ xs,SqL K H a xs∧xs.length≤i⟩
def Itt (K : PySem.W.Frag) (a : Addr) : It:=
  ⟨fun i H=>∃ xs x,SqT K H a xs∧xs[i]? = some x,fun i H x H'=>H' = H∧∀ xs,SqT K H a xs→xs[i]? = some x,fun i H=>∃ xs,SqT K H a xs∧xs.length≤i⟩
def Itr (lo : Int) (n : Nat) : It:=⟨fun i _=>i < n,fun i H x H'=>H' = H∧x = .int (lo + i),fun i _=>n≤i⟩
theorem turn_list {P : Program} {w : World} {K : PySem.W.Frag} {tg : Expr} (a it : Addr) : Turn P w K tg (Itl K a) [it] it (fun i h=>h.IsListIter it a i) where
  mem:=by simp
  obj:=fun i h st b hb=>by
    have e : b=it:=by simpa using hb
    subst e
    obtain ⟨o,e,c,d⟩:=st
    exact ⟨o,e,fun v z=>by rw [d] at z; cases z⟩
  keep:=fun i h h' st k=>st.at fun o e=>k it (by simp) o e
  item:=by
    intro X hP hw hK hc i pins s σ H E I hf st hg
    subst hP hw hK
    obtain ⟨xs,x,hq,hx⟩:=hg
    obtain ⟨its,rv,p,hz⟩:=I.list hq
    obtain ⟨u,hu,ru⟩:=rv.get hx
    obtain ⟨f0,f1,f2,f3,f4,f5⟩:=hf it (by simp)
    refine wpAny_pyNext_list_item st p.isList (x:=u) (by simpa using hu) fun h' st' sb=>?_
    have I1 : Inv X pins σ H { s with heap:=h' }:=I.turned (t':=s.toks) (fun b o hb e=>(sb.2 b hb).trans e) f0 f1 f3 f4 f5
    obtain ⟨o,e,c,d⟩:=id st'
    exact ⟨u,rfl,go_of (s:={ s with heap:=h' }) e c d (by decide) ⟨x,H,I1,ru,⟨rfl,fun ys hy=>by rw [I.list_inj hy hq]; exact hx⟩,st',fun b hb=>(hf b hb).1⟩⟩
  done:=by
    intro X hP hw hK hc i pins s σ H E I hf st hg
    subst hP hw hK
    obtain ⟨xs,hq,hx⟩:=hg
    obtain ⟨its,rv,p,hz⟩:=I.list hq
    obtain ⟨f0,f1,f2,f3,f4,f5⟩:=hf it (by simp)
    have hl:=rv.length
    exact wpAny_pyNext_list_end (I.ok.hd hc) st p.isList (by simp; omega) fun h' eb=>⟨rfl,I.turned (t':=s.toks) (fun b o hb e=>eb b o hb e) f0 f1 f3 f4 f5⟩
  self:=fun _ _ _ _ _ st h=>wpAny_pyIter_listiter st h
theorem turn_tuple {P : Program} {w : World} {K : PySem.W.Frag} {tg : Expr} (a it : Addr) : Turn P w K tg (Itt K a) [it] it (fun i h=>h.IsTupleIter it a i) where
  mem:=by simp
  obj:=fun i h st b hb=>by
    have e : b=it:=by simpa using hb
    subst e
    obtain ⟨o,e,c,d⟩:=st
    exact ⟨o,e,fun v z=>by rw [d] at z; cases z⟩
  keep:=fun i h h' st k=>st.at fun o e=>k it (by simp) o e
  item:=by
    intro X hP hw hK hc i pins s σ H E I hf st hg
    subst hP hw hK
    obtain ⟨xs,x,hq,hx⟩:=hg
    obtain ⟨its,rv,p,hz⟩:=I.tuple hq
    obtain ⟨u,hu,ru⟩:=rv.get hx
    obtain ⟨f0,f1,f2,f3,f4,f5⟩:=hf it (by simp)
    refine wpAny_pyNext_tuple_item st (show s.heap.IsTuple a its.toArray from p) (x:=u) (by simpa using hu) fun h' st' sb=>?_
    have I1 : Inv X pins σ H { s with heap:=h' }:=I.turned (t':=s.toks) (fun b o hb e=>(sb.2 b hb).trans e) f0 f1 f3 f4 f5
    obtain ⟨o,e,c,d⟩:=id st'
    exact ⟨u,rfl,go_of (s:={ s with heap:=h' }) e c d (by decide) ⟨x,H,I1,ru,⟨rfl,fun ys hy=>by rw [I.tuple_inj hy hq]; exact hx⟩,st',fun b hb=>(hf b hb).1⟩⟩
  done:=by
    intro X hP hw hK hc i pins s σ H E I hf st hg
    subst hP hw hK
    obtain ⟨xs,hq,hx⟩:=hg
    obtain ⟨its,rv,p,hz⟩:=I.tuple hq
    obtain ⟨f0,f1,f2,f3,f4,f5⟩:=hf it (by simp)
    have hl:=rv.length
    exact wpAny_pyNext_tuple_end (I.ok.hd hc) st (show s.heap.IsTuple a its.toArray from p) (by simp; omega) fun h' eb=>⟨rfl,I.turned (t':=s.toks) (fun b o hb e=>eb b o hb e) f0 f1 f3 f4 f5⟩
  self:=fun _ _ _ _ _ st h=>wpAny_pyIter_tupleiter st h
theorem turn_range {P : Program} {w : World} {K : PySem.W.Frag} {tg : Expr} (it : Addr) (lo : Int) (n : Nat) : Turn P w K tg (Itr lo n) [it] it (fun i h=>IsRangeIter h it (lo + (i : Nat) * 1) ((n : Int) - (i : Nat)) 1) where
  mem:=by simp
  obj:=fun i h st b hb=>by
    have e : b=it:=by simpa using hb
    subst e
    exact ⟨_,st,fun v z=>by
      have z' : Data.fields _=Data.cell v:=z
      cases z'⟩
  keep:=fun i h h' st k=>k it (by simp) _ st
  item:=by
    intro X hP hw hK hc i pins s σ H E I hf st hg
    subst hP hw hK
    obtain ⟨f0,f1,f2,f3,f4,f5⟩:=hf it (by simp)
    have W:=Walks.range (prog:=X.prog) (w:=X.w) (I.ok.hd hc) it lo 1 n
    refine W.item i s _ _ hg st fun v h' tk hv st' kk=>?_
    obtain ⟨t,rfl⟩:=hv
    have I1 : Inv X pins σ H { s with heap:=h',toks:=tk }:=I.turned (fun b o hb e=>kk b o (by simpa using hb) e) f0 f1 f3 f4 f5
    refine ⟨_,rfl,go_of (s:={ s with heap:=h',toks:=tk }) (n := "range_iterator") st' rfl rfl (by decide) ⟨.int (lo + i),H,I1,⟨t,?_⟩,⟨rfl,rfl⟩,st',fun b hb=>(hf b hb).1⟩⟩
    rw [Int.mul_one]
  done:=by
    intro X hP hw hK hc i pins s σ H E I hf st hg
    subst hP hw hK
    obtain ⟨f0,f1,f2,f3,f4,f5⟩:=hf it (by simp)
    exact wpAny_pyNext_range_end (I.ok.hd hc) st (by have : n≤i:=hg; omega) fun h' eb=>⟨rfl,I.turned (t':=s.toks) (fun b o hb e=>eb b o hb e) f0 f1 f3 f4 f5⟩
  self:=fun _ _ _ _ _ st h=>wpAny_pyIter_rangeiter st h
end L2
namespace L2
open PySem PySem.Spec PyProof.Rows
section
variable {X : Cx} {tg : Expr}
def iList (K : PySem.W.Frag) (tl : TE) : TI:=fun σ H R=>tl σ H fun x H1=>∃ a,x = .ref a∧(∃ xs,SqL K H1 a xs)∧R (Itl K a) H1
def iTup (K : PySem.W.Frag) (tl : TE) : TI:=fun σ H R=>tl σ H fun x H1=>∃ a,x = .ref a∧(∃ xs,SqT K H1 a xs)∧R (Itt K a) H1
theorem pi_list {l : Expr} {tl : TE} (hl : PE X l tl) : PI X tg l (iList X.K tl):=by
  refine ⟨?_⟩
  intro pins s σ H R I h
  refine thn (hl pins s σ H _ I h) fun v s1 ⟨x,H1,I1,r1,q1⟩=>?_
  obtain ⟨a,e,⟨xs,hq⟩,q⟩:=q1
  subst e
  cases r1
  obtain ⟨its,rv,p,hz⟩:=I1.list hq
  refine wpAny_pyIter_list p.isList ?_
  refine ⟨s1.heap.objs.size,[s1.heap.objs.size],_,_,H1,rfl,I1.kept (t':=s1.toks) fun b o e=>Heap.get?_push_of_some _ e,turn_list a _,⟨_,Heap.get?_push_size _ rfl,rfl,rfl⟩,fun b hb=>?_,q⟩
  have e : b=s1.heap.objs.size:=by simpa using hb
  subst e
  exact I1.fpOk (Nat.le_refl _) (I1.hok.fresh (Nat.le_refl _))
theorem pi_tup {l : Expr} {tl : TE} (hl : PE X l tl) : PI X tg l (iTup X.K tl):=by
  refine ⟨?_⟩
  intro pins s σ H R I h
  refine thn (hl pins s σ H _ I h) fun v s1 ⟨x,H1,I1,r1,q1⟩=>?_
  obtain ⟨a,e,⟨xs,hq⟩,q⟩:=q1
  subst e
  cases r1
  obtain ⟨its,rv,p,hz⟩:=I1.tuple hq
  refine wpAny_pyIter_tuple (show s1.heap.IsTuple a its.toArray from p) ?_
  refine ⟨s1.heap.objs.size,[s1.heap.objs.size],_,_,H1,rfl,I1.kept (t':=s1.toks) fun b o e=>Heap.get?_push_of_some _ e,turn_tuple a _,⟨_,Heap.get?_push_size _ rfl,rfl,rfl⟩,fun b hb=>?_,q⟩
  have e : b=s1.heap.objs.size:=by simpa using hb
  subst e
  exact I1.fpOk (Nat.le_refl _) (I1.hok.fresh (Nat.le_refl _))
theorem range_it {pins : List (Addr×Obj)} {σ : St} {H : Hp} {s : Shared} {R : It→Hp→Prop} {E : Value→Shared→Prop} {lo hi : Int} {t u v : Tok} {tk : Nat} (I : Inv X pins σ H s) (h1 : -(2 ^ 62)≤lo) (h2 : lo < 2 ^ 62) (h3 : -(2 ^ 62)≤hi) (h4 : hi < 2 ^ 62)
    (q : R (Itr lo (hi - lo).toNat) H) : wpAny (model X.prog X.w) X.A (pyIter (.ref s.heap.objs.size)) (PIE X pins σ tg R) E { s with heap:=s.heap.push { cls:=.type "range",data:=.fields #[.int lo t,.int hi u,.int 1 v] },toks:=tk }:=by
  refine wpAny_pyIter_range (IsRange.new ..) (small_one h1 h2 h3 h4) ?_
  have I1 : Inv X pins σ H { s with heap:=s.heap.push { cls:=.type "range",data:=.fields #[.int lo t,.int hi u,.int 1 v] },toks:=tk }:=I.kept fun b o e=>Heap.get?_push_of_some _ e
  refine ⟨(s.heap.push { cls:=.type "range",data:=.fields #[.int lo t,.int hi u,.int 1 v] }).objs.size,[(s.heap.push { cls:=.type "range",data:=.fields #[.int lo t,.int hi u,.int 1 v] }).objs.size],_,_,H,rfl,
    I1.kept (t':=tk) fun b o e=>Heap.get?_push_of_some _ e,turn_range _ lo (hi - lo).toNat,?_,fun b hb=>?_,q⟩
  · have e1 : lo + ((0 : Nat) : Int) * 1=lo:=by simp
    have e2 : (((hi - lo).toNat : Nat) : Int) - ((0 : Nat) : Int)=Builtin.Range.rangeSize lo hi 1:=by rw [rangeSize_one]; split <;> omega
    show IsRangeIter _ _ (lo + ((0 : Nat) : Int) * 1) ((((hi - lo).toNat : Nat) : Int) - ((0 : Nat) : Int)) 1
    rw [e1,e2]
    exact Heap.get?_push_size _ rfl
  · have e : b=(s.heap.push { cls:=.type "range",data:=.fields #[.int lo t,.int hi u,.int 1 v] }).objs.size:=by simpa using hb
    subst e
    exact I1.fpOk (Nat.le_refl _) (I1.hok.fresh (Nat.le_refl _))
def iRng1 (ta : TA) : TI:=fun σ H R=>ta σ H fun vs H1=>∃ j : Int,vs=[.int j]∧-(2 ^ 62)≤j∧j < 2 ^ 62∧R (Itr 0 j.toNat) H1
theorem pi_range1 {a : Expr} {ta : TA} {p pos : Pos} (hg : Gl X "range") (hm : X.mg "range" = none) (ha : PA X [a] ta) (hs : starEach [a] X.env=[(false,eval a X.env)]:=by rfl) : PI X tg (.Call (.Name "range" p) [a] [] pos) (iRng1 ta):=by
  refine ⟨?_⟩
  intro pins s σ H R I h
  refine Call_ (ld_blt I hg hm boot_range (PyProof.Rows.callWith_type1 (thn (ha pos pins s σ H _ I h) fun us s1 ⟨vs,H1,I1,r1,q1⟩=>?_) hs rfl))
  obtain ⟨j,e,q1,q2,q⟩:=q1
  subst e
  cases r1 with
  | cons r rr=>
    cases rr
    obtain ⟨t,rfl⟩:=r
    exact call_range_1 (range_it I1 (by omega) (by omega) q1 q2 (by simpa using q))
def tFor (wi : TI) (g : TG) (tb : TS) : TS:=fun D σ H=>wi σ H fun J H1=>∃ W : Nat→Nat→St→Hp→Prop,(∃ m,W 0 m σ H1)∧∀ i m σ H,W i m σ H→
  (J.stop i H∧D.nx σ H)∨(J.go i H∧∃ N : St→Hp→Prop,(∀ σ' H',N σ' H'→∃ m',m' < m∧W (i + 1) m' σ' H')∧∀ x H',J.yld i H x H'→g x σ H' fun σ2 H2=>tb { D with nx:=N,ct:=N,bk:=D.nx } σ2 H2)
def pinsAt (fp : List Addr) (h : Heap) : List (Addr×Obj):=fp.filterMap fun b=>(h.get? b).map fun o=>(b,o)
theorem mem_pinsAt {fp : List Addr} {h : Heap} {b : Addr} {o : Obj} (hb : b∈fp) (e : h.get? b=some o) : (b,o)∈pinsAt fp h:=List.mem_filterMap.mpr ⟨b,hb,by rw [e]; rfl⟩
theorem of_pinsAt {fp : List Addr} {h : Heap} {p : Addr×Obj} (hp : p∈pinsAt fp h) : p.1∈fp∧h.get? p.1=some p.2:=by
  obtain ⟨b,hb,e⟩:=List.mem_filterMap.mp hp
  cases q : h.get? b with
  | none=>rw [q] at e; cases e
  | some o=>
    rw [q] at e
    have e' : (b,o)=p:=Option.some.inj e
    subst e'
    exact ⟨hb,q⟩
theorem Inv.pinned {pins : List (Addr×Obj)} {σ : St} {H : Hp} {s : Shared} {fp : List Addr} (I : Inv X pins σ H s) (hf : ∀ b∈fp,FpOk X pins H b) (ho : ∀ b∈fp,∃ o,s.heap.get? b=some o∧∀ v,o.data≠.cell v) : Inv X (pins ++ pinsAt fp s.heap) σ H s:=
  I.pins_of fun p hp=>(List.mem_append.mp hp).elim (fun z=>I.pin p (List.mem_append_right _ z)) fun z=>by
    obtain ⟨hb,e⟩:=of_pinsAt z
    obtain ⟨f0,f1,f2,_⟩:=hf p.1 hb
    obtain ⟨o,e',d⟩:=ho p.1 hb
    rw [e] at e'; cases e'
    exact ⟨e,f0,f1,f2,d⟩
theorem Inv.unpinned {pins pl : List (Addr×Obj)} {σ : St} {H : Hp} {s : Shared} (I : Inv X (pins ++ pl) σ H s) : Inv X pins σ H s:=I.pins_of fun p hp=>I.pin p (List.mem_append_right _ (List.mem_append_left _ hp))
theorem ps_for {iter : Expr} {body : List Stmt} {wi : TI} {g : TG} {tb : TS} {pos : Pos} (hp : PassesOwn (model X.prog X.w) X.A X.env X.xe) (hc : X.calm=true) (hi : PI X tg iter wi) (hg : PG X tg g) (hb : PSs X body tb)
    (hs : ∀ x,foldedSetIterable iter X.env x=pure x:=by intro _; rfl) : PS X (.For tg iter body [] pos) (tFor wi g tb):=by
  refine ⟨?_⟩
  intro pins s σ H D I h
  refine wpAny_For (thn (hi pins s σ H _ I h) fun v s1 h1=>thn h1 fun itv s2 h2=>?_) hs
  obtain ⟨it,fp,tn,J,H2,e,I2,T,st2,f2,W,⟨m0,w0⟩,turn⟩:=h2
  subst e
  have stat : ∀ {H' : Hp},(∀ b∈fp,H' b=none)→∀ b∈fp,FpOk X pins H' b:=fun hn b hb=>⟨hn b hb,(f2 b hb).2⟩
  refine codeAny_forLoop_any (fun n s'=>∃ i σ' H',Inv X pins σ' H' s'∧tn i s'.heap∧(∀ b∈fp,H' b=none)∧W i n σ' H') ?_ m0 ⟨0,σ,H2,I2,st2,fun b hb=>(f2 b hb).1,w0⟩
  rintro n s3 ⟨i,σ3,H3,I3,st3,fr3,w3⟩
  rcases turn i n σ3 H3 w3 with ⟨stop,qn⟩ | ⟨go,N,hN,step⟩
  · refine wpAny_passesOwn hp (thn (T.done X rfl rfl rfl hc i pins s3 σ3 H3 X.xe I3 (stat fr3) st3 stop) fun r s4 ⟨hr,I4⟩=>?_)
    subst hr
    exact wpAny_execs_nil ⟨σ3,H3,I4,qn⟩
  · refine wpAny_passesOwn hp (thn (T.item X rfl rfl rfl hc i pins s3 σ3 H3 X.xe I3 (stat fr3) st3 go) fun r s4 ⟨u,hr,h4⟩=>?_)
    subst hr
    refine wpAny_passesOwn hp (thn h4 fun _ s5 ⟨x,H5,I5,r5,y5,st5,fr5⟩=>?_)
    have I5':=I5.pinned (stat fr5) (T.obj _ _ st5)
    refine wpAny_passesOwn hp (thn (hg _ s5 σ3 H5 x u _ I5' r5 (step x H5 y5)) fun _ s6 ⟨σ6,H6,I6,q6⟩=>?_)
    refine wpAny_passesOwn hp (thn (hb _ s6 σ6 H6 _ I6 q6) fun f s7 q7=>?_)
    have again : ∀ {σ7 : St} {H7 : Hp},Inv X (pins ++ pinsAt fp s5.heap) σ7 H7 s7→N σ7 H7→∃ m,m < n∧∃ i σ' H',Inv X pins σ' H' s7∧tn i s7.heap∧(∀ b∈fp,H' b=none)∧W i m σ' H':=fun {σ7 H7} I7 n7=>by
      obtain ⟨m',hm,w7⟩:=hN σ7 H7 n7
      refine ⟨m',hm,i + 1,σ7,H7,I7.unpinned,T.keep _ _ _ st5 fun b hb o e=>(I7.pin (b,o) (List.mem_append_right _ (List.mem_append_right _ (mem_pinsAt hb e)))).1,fun b hb=>?_,w7⟩
      obtain ⟨o,e,d⟩:=T.obj _ _ st5 b hb
      exact (I7.pin (b,o) (List.mem_append_right _ (List.mem_append_right _ (mem_pinsAt hb e)))).2.1
    cases f with
    | next=>obtain ⟨σ7,H7,I7,n7⟩:=q7; exact again I7 n7
    | cont=>obtain ⟨σ7,H7,I7,n7⟩:=q7; exact again I7 n7
    | brk=>obtain ⟨σ7,H7,I7,q7⟩:=q7; exact ⟨σ7,H7,I7.unpinned,q7⟩
    | ret v=>obtain ⟨x7,σ7,H7,I7,r7,q7⟩:=q7; exact ⟨x7,σ7,H7,I7.unpinned,r7,q7⟩
end
theorem for_tup {K : PySem.W.Frag} {a : Addr} {xs : List V} {g : TG} {tb : TS} {D : Ends} {σ : St} {H : Hp} (Pv : Nat→St→Hp→Prop) (h0 : Pv 0 σ H) (hl : ∀ i σ H,i≤xs.length→Pv i σ H→SqT K H a xs)
    (hs : ∀ i x σ H,xs[i]? = some x→Pv i σ H→g x σ H fun σ2 H2=>tb { D with nx:=Pv (i + 1),ct:=Pv (i + 1),bk:=D.nx } σ2 H2) (hd : ∀ σ H,Pv xs.length σ H→D.nx σ H) :
    ∃ W : Nat→Nat→St→Hp→Prop,(∃ m,W 0 m σ H)∧∀ i m σ H,W i m σ H→
      ((Itt K a).stop i H∧D.nx σ H)∨((Itt K a).go i H∧∃ N : St→Hp→Prop,(∀ σ' H',N σ' H'→∃ m',m' < m∧W (i + 1) m' σ' H')∧∀ x H',(Itt K a).yld i H x H'→g x σ H' fun σ2 H2=>tb { D with nx:=N,ct:=N,bk:=D.nx } σ2 H2):=by
  refine ⟨fun i m σ H=>m=xs.length - i∧i≤xs.length∧Pv i σ H,⟨xs.length,by simp,Nat.zero_le _,h0⟩,?_⟩
  rintro i m σ H ⟨rfl,hi,p⟩
  have q:=hl i σ H hi p
  by_cases hlt : i < xs.length
  · refine .inr ⟨⟨xs,xs[i],q,by simp [hlt]⟩,Pv (i + 1),fun σ' H' p'=>⟨xs.length - (i + 1),by omega,rfl,hlt,p'⟩,fun x H' y=>?_⟩
    obtain ⟨e,y⟩:=y
    subst e
    exact hs i x σ _ (y xs q) p
  · have e : i=xs.length:=by omega
    subst e
    exact .inl ⟨⟨xs,q,Nat.le_refl _⟩,hd σ H p⟩
theorem for_range {lo : Int} {n : Nat} {g : TG} {tb : TS} {D : Ends} {σ : St} {H : Hp} (Pv : Nat→St→Hp→Prop) (h0 : Pv 0 σ H)
    (hs : ∀ i σ H,i < n→Pv i σ H→g (.int (lo + i)) σ H fun σ2 H2=>tb { D with nx:=Pv (i + 1),ct:=Pv (i + 1),bk:=D.nx } σ2 H2) (hd : ∀ σ H,Pv n σ H→D.nx σ H) :
    ∃ W : Nat→Nat→St→Hp→Prop,(∃ m,W 0 m σ H)∧∀ i m σ H,W i m σ H→
      ((Itr lo n).stop i H∧D.nx σ H)∨((Itr lo n).go i H∧∃ N : St→Hp→Prop,(∀ σ' H',N σ' H'→∃ m',m' < m∧W (i + 1) m' σ' H')∧∀ x H',(Itr lo n).yld i H x H'→g x σ H' fun σ2 H2=>tb { D with nx:=N,ct:=N,bk:=D.nx } σ2 H2):=by
  refine ⟨fun i m σ H=>m=n - i∧i≤n∧Pv i σ H,⟨n,by simp,Nat.zero_le _,h0⟩,?_⟩
  rintro i m σ H ⟨rfl,hi,p⟩
  by_cases hlt : i < n
  · refine .inr ⟨hlt,Pv (i + 1),fun σ' H' p'=>⟨n - (i + 1),by omega,rfl,hlt,p'⟩,fun x H' y=>?_⟩
    obtain ⟨e,y⟩:=y
    subst e y
    exact hs i σ _ hlt p
  · have e : i=n:=by omega
    subst e
    exact .inl ⟨Nat.le_refl _,hd σ H p⟩
end L2
namespace L2
open PySem PySem.Spec PyProof.Rows
abbrev R2:=V→V→Hp→VK→Prop
def OpR (X : Cx) (f : Value→Value→Sem Value) (r : R2) : Prop:=
  ∀ (pins : List (Addr×Obj)) (s : Shared) (σ : St) (H : Hp) (x y : V) (v u : Value) (Q : VK),Inv X pins σ H s→RelV x v→RelV y u→r x y H Q→
    wpAny (model X.prog X.w) X.A (f v u) (EP X pins σ Q) X.xe s
def CallR (X : Cx) (f : Value) (r : List V→Hp→VK→Prop) : Prop:=
  ∀ (pins : List (Addr×Obj)) (s : Shared) (σ : St) (H : Hp) (xs : List V) (us : List Value) (Q : VK),Inv X pins σ H s→Vals xs us→r xs H Q→
    wpAny (model X.prog X.w) X.A (call f us) (EP X pins σ Q) X.xe s
def TruR (X : Cx) (r : V→Hp→(Bool→Hp→Prop)→Prop) : Prop:=
  ∀ (pins : List (Addr×Obj)) (s : Shared) (σ : St) (H : Hp) (x : V) (v : Value) (Q : Bool→Hp→Prop),Inv X pins σ H s→RelV x v→r x H Q→
    wpAny (model X.prog X.w) X.A (truthy v) (TP X pins σ Q) X.xe s
def tOp (r : R2) (ta tb : TE) : TE:=fun σ H Q=>ta σ H fun x H1=>tb σ H1 fun y H2=>r x y H2 Q
def rI (C : Int→Int→Prop) (g : Int→Int→V) : R2:=fun x y H Q=>∃ i j,x = .int i∧y = .int j∧C i j∧Q (g i j) H
def rI0 (g : Int→Int→V) : R2:=fun x y H Q=>∃ i j,x = .int i∧y = .int j∧Q (g i j) H
section
variable {X : Cx} {a b c : Expr} {ta tb tc : TE} {pos : Pos}
theorem binT (ha : PE X a ta) (hb : PE X b tb) {pins : List (Addr×Obj)} {s : Shared} {σ : St} {H : Hp} {R : V→V→Hp→Prop} (I : Inv X pins σ H s)
    (h : ta σ H fun x H1=>tb σ H1 fun y H2=>R x y H2) {Q : Value→Shared→Prop} {f : Value→Value→Sem Value}
    (hf : ∀ v u s2 x y H2,Inv X pins σ H2 s2→RelV x v→RelV y u→R x y H2→wpAny (model X.prog X.w) X.A (f v u) Q X.xe s2) :
    wpAny (model X.prog X.w) X.A (eval a X.env) (fun v s₁=>wpAny (model X.prog X.w) X.A (eval b X.env) (fun u s₂=>wpAny (model X.prog X.w) X.A (f v u) Q X.xe s₂) X.xe s₁) X.xe s:=by
  refine thn (ha pins s σ H _ I h) fun v s1 ⟨x,H1,I1,r1,q1⟩=>?_
  refine thn (hb pins s1 σ H1 _ I1 q1) fun u s2 ⟨y,H2,I2,r2,q2⟩=>?_
  exact hf v u s2 x y H2 I2 r1 r2 q2
theorem pe_op {op : Operator} {r : R2} (ho : OpR X (binaryOp op) r) (ha : PE X a ta) (hb : PE X b tb) : PE X (.BinOp a op b pos) (tOp r ta tb):=by
  refine ⟨?_⟩
  intro pins s σ H Q I h
  exact wpAny_BinOp (binT ha hb I h fun v u s2 x y H2 I2 rx ry q=>ho pins s2 σ H2 x y v u Q I2 rx ry q)
theorem opI {f : Value→Value→Sem Value} {C : Int→Int→Prop} {g : Int→Int→Int}
    (rule : ∀ (i j : Int) (t u : Tok) (s : Shared) (Q : Value→Shared→Prop) (E : Value→Shared→Prop),C i j→Q (.int (g i j) s.toks) { s with toks:=s.toks + 1 }→wpAny (model X.prog X.w) X.A (f (.int i t) (.int j u)) Q E s) :
    OpR X f (rI C fun i j=>.int (g i j)):=by
  intro pins s σ H x y v u Q I rx ry h
  obtain ⟨i,j,rfl,rfl,hc,q⟩:=h
  obtain ⟨t,rfl⟩:=rx
  obtain ⟨t',rfl⟩:=ry
  exact rule i j t t' s _ _ hc ⟨.int (g i j),H,I.tok _,⟨_,rfl⟩,q⟩
theorem opI0 {f : Value→Value→Sem Value} {g : Int→Int→Int}
    (rule : ∀ (i j : Int) (t u : Tok) (s : Shared) (Q : Value→Shared→Prop) (E : Value→Shared→Prop),Q (.int (g i j) s.toks) { s with toks:=s.toks + 1 }→wpAny (model X.prog X.w) X.A (f (.int i t) (.int j u)) Q E s) :
    OpR X f (rI0 fun i j=>.int (g i j)):=by
  intro pins s σ H x y v u Q I rx ry h
  obtain ⟨i,j,rfl,rfl,q⟩:=h
  obtain ⟨t,rfl⟩:=rx
  obtain ⟨t',rfl⟩:=ry
  exact rule i j t t' s _ _ ⟨.int (g i j),H,I.tok _,⟨_,rfl⟩,q⟩
theorem opB0 {f : Value→Value→Sem Value} {g : Int→Int→Bool}
    (rule : ∀ (i j : Int) (t u : Tok) (s : Shared) (Q : Value→Shared→Prop) (E : Value→Shared→Prop),Q (.bool (g i j)) s→wpAny (model X.prog X.w) X.A (f (.int i t) (.int j u)) Q E s) :
    OpR X f (rI0 fun i j=>.bl (g i j)):=by
  intro pins s σ H x y v u Q I rx ry h
  obtain ⟨i,j,rfl,rfl,q⟩:=h
  obtain ⟨t,rfl⟩:=rx
  obtain ⟨t',rfl⟩:=ry
  exact rule i j t t' s _ _ ⟨.bl (g i j),H,I,rfl,q⟩
def CPow (i j : Int) : Prop:=0≤j∧j≤1000000∧i.natAbs < 2 ^ 64
def CMul (i j : Int) : Prop:=(-(2 ^ 64) < i∧i < 2 ^ 64)∨(-(2 ^ 64) < j∧j < 2 ^ 64)
theorem CMul.ok {i j : Int} (h : CMul i j) : IntMulOk i j:=by
  rcases h with ⟨h1,h2⟩ | ⟨h1,h2⟩
  · exact .of_left (intBits_le_64 h1 h2)
  · exact .of_right (intBits_le_64 h1 h2)
theorem op_add : OpR X (binaryOp .Add) (rI0 fun i j=>.int (i + j)):=opI0 fun _ _ _ _ _ _ _ q=>add_int q
theorem op_mul : OpR X (binaryOp .Mult) (rI CMul fun i j=>.int (i * j)):=opI fun _ _ _ _ _ _ _ hc q=>mul_int q hc.ok
theorem op_mod : OpR X (binaryOp .Mod) (rI (fun _ j=>0 < j) fun i j=>.int (i % j)):=opI fun i j _ _ _ _ _ hc q=>by
  have h1 : (0 : Int) < j:=hc
  exact mod_int' (by omega) (by rw [Int.fmod_eq_emod_of_nonneg i (by omega)]; exact q)
theorem op_pow : OpR X (binaryOp .Pow) (rI CPow fun i j=>.int (i ^ j.toNat)):=opI fun _ _ _ _ _ _ _ hc q=>pow_int_small hc.1 hc.2.1 hc.2.2 q
end
def scal : V→V→Bool
  | .non,.non=>true | .non,.int _=>true | .int _,.non=>true | .non,.bl _=>true | .bl _,.non=>true | .non,.str _=>true | .str _,.non=>true
  | .int _,.int _=>true | .bl _,.bl _=>true | .str _,.str _=>true | .byt _,.byt _=>true
  | .int _,.str _=>true | .str _,.int _=>true | .bl _,.str _=>true | .str _,.bl _=>true
  | _,_=>false
def rEq : R2:=fun x y H Q=>scal x y=true∧Q (.bl (decide (x=y))) H
def rNe : R2:=fun x y H Q=>scal x y=true∧Q (.bl (!decide (x=y))) H
theorem dec_int {i j : Int} : decide (V.int i=V.int j)=(i == j):=by
  rw [Bool.eq_iff_iff]
  simp
theorem dec_bl {i j : Bool} : decide (V.bl i=V.bl j)=(i == j):=by
  rw [Bool.eq_iff_iff]
  simp
theorem dec_str {i j : Str} : decide (V.str i=V.str j)=(i == j):=by
  rw [Bool.eq_iff_iff]
  simp
theorem dec_byt {i j : Array UInt8} : decide (V.byt i=V.byt j)=(i.toList == j.toList):=by
  rw [Bool.eq_iff_iff]
  cases i
  cases j
  simp
section
variable {X : Cx} {a b c : Expr} {ta tb tc : TE} {pos : Pos}
theorem fin_bl {pins : List (Addr×Obj)} {σ : St} {H : Hp} {s : Shared} {Q : VK} {k k' : Bool} (I : Inv X pins σ H s) (q : Q (.bl k) H) (e : k=k') : EP X pins σ Q (.bool k') s:=by
  subst e
  exact ⟨.bl k,H,I,rfl,q⟩
theorem op_eq : OpR X (compareOp .Eq) rEq:=by
  intro pins s σ H x y v u Q I rx ry h
  obtain ⟨hs,q⟩:=h
  cases x with
  | non=>
    cases rx
    cases y with
    | non=>cases ry; exact PySem.EqNone.eq_none_none (fin_bl I q (by simp))
    | bl j=>cases ry; exact PySem.EqNone.eq_none_bool (fin_bl I q (by simp))
    | int j=>obtain ⟨t',rfl⟩:=ry; exact PySem.EqNone.eq_none_int (fin_bl I q (by simp))
    | str j=>obtain ⟨t',rfl⟩:=ry; exact PySem.EqNone.eq_none_str (fin_bl I q (by simp))
    | _=>exact absurd (show false=true from hs) Bool.false_ne_true
  | bl i=>
    cases rx
    cases y with
    | non=>cases ry; exact PySem.EqNone.eq_bool_none (fin_bl I q (by simp))
    | bl j=>cases ry; exact eq_bool (fin_bl I q dec_bl)
    | str j=>obtain ⟨t',rfl⟩:=ry; exact PySem.EqMixed.eq_bool_str (fin_bl I q (by simp))
    | _=>exact absurd (show false=true from hs) Bool.false_ne_true
  | int i=>
    obtain ⟨t,rfl⟩:=rx
    cases y with
    | non=>cases ry; exact PySem.EqNone.eq_int_none (fin_bl I q (by simp))
    | int j=>obtain ⟨t',rfl⟩:=ry; exact eq_int (fin_bl I q dec_int)
    | str j=>obtain ⟨t',rfl⟩:=ry; exact PySem.EqMixed.eq_int_str (fin_bl I q (by simp))
    | _=>exact absurd (show false=true from hs) Bool.false_ne_true
  | str i=>
    obtain ⟨t,rfl⟩:=rx
    cases y with
    | non=>cases ry; exact PySem.EqNone.eq_str_none (fin_bl I q (by simp))
    | bl j=>cases ry; exact PySem.EqMixed.eq_str_bool (fin_bl I q (by simp))
    | int j=>obtain ⟨t',rfl⟩:=ry; exact PySem.EqMixed.eq_str_int (fin_bl I q (by simp))
    | str j=>obtain ⟨t',rfl⟩:=ry; exact eq_str (fin_bl I q dec_str)
    | _=>exact absurd (show false=true from hs) Bool.false_ne_true
  | byt i=>
    obtain ⟨t,rfl⟩:=rx
    cases y with
    | byt j=>obtain ⟨t',rfl⟩:=ry; exact PySem.W.eq_bytes (fin_bl I q dec_byt)
    | _=>exact absurd (show false=true from hs) Bool.false_ne_true
  | _=>cases y <;> exact absurd (show false=true from hs) Bool.false_ne_true
theorem op_ne : OpR X (compareOp .NotEq) rNe:=by
  intro pins s σ H x y v u Q I rx ry h
  obtain ⟨hs,q⟩:=h
  cases x with
  | non=>
    cases rx
    cases y with
    | non=>cases ry; exact PySem.EqNone.ne_none_none (fin_bl I q (by simp))
    | bl j=>cases ry; exact PySem.EqNone.ne_none_bool (fin_bl I q (by simp))
    | int j=>obtain ⟨t',rfl⟩:=ry; exact PySem.EqNone.ne_none_int (fin_bl I q (by simp))
    | str j=>obtain ⟨t',rfl⟩:=ry; exact PySem.EqNone.ne_none_str (fin_bl I q (by simp))
    | _=>exact absurd (show false=true from hs) Bool.false_ne_true
  | bl i=>
    cases rx
    cases y with
    | non=>cases ry; exact PySem.EqNone.ne_bool_none (fin_bl I q (by simp))
    | bl j=>cases ry; exact ne_bool (fin_bl I q (congrArg not dec_bl))
    | str j=>obtain ⟨t',rfl⟩:=ry; exact PySem.EqMixed.ne_bool_str (fin_bl I q (by simp))
    | _=>exact absurd (show false=true from hs) Bool.false_ne_true
  | int i=>
    obtain ⟨t,rfl⟩:=rx
    cases y with
    | non=>cases ry; exact PySem.EqNone.ne_int_none (fin_bl I q (by simp))
    | int j=>obtain ⟨t',rfl⟩:=ry; exact ne_int (fin_bl I q (congrArg not dec_int))
    | str j=>obtain ⟨t',rfl⟩:=ry; exact PySem.EqMixed.ne_int_str (fin_bl I q (by simp))
    | _=>exact absurd (show false=true from hs) Bool.false_ne_true
  | str i=>
    obtain ⟨t,rfl⟩:=rx
    cases y with
    | non=>cases ry; exact PySem.EqNone.ne_str_none (fin_bl I q (by simp))
    | bl j=>cases ry; exact PySem.EqMixed.ne_str_bool (fin_bl I q (by simp))
    | int j=>obtain ⟨t',rfl⟩:=ry; exact PySem.EqMixed.ne_str_int (fin_bl I q (by simp))
    | str j=>obtain ⟨t',rfl⟩:=ry; exact ne_str (fin_bl I q (congrArg not dec_str))
    | _=>exact absurd (show false=true from hs) Bool.false_ne_true
  | byt i=>
    obtain ⟨t,rfl⟩:=rx
    cases y with
    | byt j=>obtain ⟨t',rfl⟩:=ry; exact PySem.W.ne_bytes (fin_bl I q (congrArg not dec_byt))
    | _=>exact absurd (show false=true from hs) Bool.false_ne_true
  | _=>cases y <;> exact absurd (show false=true from hs) Bool.false_ne_true
theorem op_lt : OpR X (compareOp .Lt) (rI0 fun i j=>.bl (decide (i < j))):=opB0 fun _ _ _ _ _ _ _ q=>lt_int q
theorem op_gt : OpR X (compareOp .Gt) (rI0 fun i j=>.bl (decide (j < i))):=opB0 fun _ _ _ _ _ _ _ q=>gt_int q
theorem op_ge : OpR X (compareOp .GtE) (rI0 fun i j=>.bl (decide (j≤i))):=opB0 fun _ _ _ _ _ _ _ q=>ge_int q
theorem op_isN : OpR X (compareOp .Is) (fun x y H Q=>y = .non∧Q (.bl (decide (x = .non))) H):=by
  intro pins s σ H x y v u Q I rx ry h
  obtain ⟨rfl,q⟩:=h
  cases ry
  refine is_none_gen (fin_bl I q ?_)
  cases x <;> first
    | (cases rx; rfl)
    | (obtain ⟨t,rfl⟩:=rx; rfl)
theorem nomark (b : Expr) {op : CmpOp} (h : op≠.In:=by decide) (h2 : op≠.NotIn:=by decide) : behindInMarks op b=false:=by
  have e1 : (op == CmpOp.In)=false:=by cases op <;> first | rfl | exact absurd rfl h
  have e2 : (op == CmpOp.NotIn)=false:=by cases op <;> first | rfl | exact absurd rfl h2
  cases b <;> simp [behindInMarks,e1,e2]
theorem pe_cmpR {op : CmpOp} {r : R2} (ho : OpR X (compareOp op) r) (ha : PE X a ta) (hb : PE X b tb) (hm : behindInMarks op b=false) : PE X (.Compare a [op] [b] pos) (tOp r ta tb):=by
  refine ⟨?_⟩
  intro pins s σ H Q I h
  exact wpAny_Compare1 (binT ha hb I h fun v u s2 x y H2 I2 rx ry q=>ho pins s2 σ H2 x y v u Q I2 rx ry q) hm
def tTest (t : TE) : TT:=fun σ H Q=>t σ H fun x H'=>∃ k,x = .bl k∧Q k H'
theorem pt_cmpR {op : CmpOp} {r : R2} (ho : OpR X (compareOp op) r) (ha : PE X a ta) (hb : PE X b tb) (hm : behindInMarks op b=false) : PT X (.Compare a [op] [b] pos) (tTest (tOp r ta tb)):=by
  refine ⟨?_⟩
  intro pins s σ H Q I h
  refine wpAny_isTrue_Compare1 (thn (ha pins s σ H _ I h) fun v s1 ⟨x,H1,I1,r1,q1⟩=>thn (hb pins s1 σ H1 _ I1 q1) fun u s2 ⟨y,H2,I2,r2,q2⟩=>
    thn (ho pins s2 σ H2 x y v u _ I2 r1 r2 q2) fun c s3 ⟨z,H3,I3,r3,k,e,q3⟩=>?_) hm
  subst e
  cases r3
  exact wpAny_truthy_bool ⟨H3,I3,q3⟩
def tChain (r r' : R2) (ta tb tc : TE) : TE:=fun σ H Q=>ta σ H fun x H1=>tb σ H1 fun y H2=>r x y H2 fun z H3=>∃ k,z = .bl k∧
  (if k=true then tc σ H3 fun w' H4=>r' y w' H4 Q else Q (.bl false) H3)
theorem pt_chain {op op' : CmpOp} {r r' : R2} (ho : OpR X (compareOp op) r) (ho' : OpR X (compareOp op') r') (ha : PE X a ta) (hb : PE X b tb) (hc : PE X c tc)
    (hm : lastMarks [op,op'] [b,c]=false:=by with_unfolding_all rfl) : PT X (.Compare a [op,op'] [b,c] pos) (tTest (tChain r r' ta tb tc)):=by
  refine ⟨?_⟩
  intro pins s σ H Q I h
  refine isTrue_chain (thn (ha pins s σ H _ I h) fun v s1 ⟨x,H1,I1,r1,q1⟩=>test_link (thn (hb pins s1 σ H1 _ I1 q1) fun u s2 ⟨y,H2,I2,r2,q2⟩=>
    thn (ho pins s2 σ H2 x y v u _ I2 r1 r2 q2) fun d s3 ⟨z,H3,I3,r3,k,e,q3⟩=>?_)) hm
  subst e
  cases r3
  refine wpAny_truthy_bool ?_
  cases k with
  | false=>
    obtain ⟨k',e',q'⟩:=q3
    cases e'
    exact ite_ff ⟨H3,I3,q'⟩
  | true=>
    refine ite_tt (test_last (thn (hc pins s3 σ H3 _ I3 q3) fun w' s4 ⟨z',H4,I4,r4,q4⟩=>thn (ho' pins s4 σ H4 y z' u w' _ I4 r2 r4 q4) fun d' s5 ⟨z2,H5,I5,r5,k2,e2,q5⟩=>?_))
    subst e2
    cases r5
    exact wpAny_truthy_bool ⟨H5,I5,q5⟩
def TruV (K : PySem.W.Frag) (x : V) (H : Hp) (k : Bool) : Prop:=
  match x with
  | .non=>k=false
  | .bl b=>k=b
  | .int i=>k=(i != 0)
  | .str y=>y.length≤sizeLine∧k=((y.length : Int) != 0)
  | .byt y=>y.size≤sizeLine∧k=((y.size : Int) != 0)
  | .ref p=>(∃ xs,SqL K H p xs∧k = !xs.isEmpty)∨(∃ xs,SqT K H p xs∧k = !xs.isEmpty)∨∃ kvs,H p=some (.dK kvs)∧k = !kvs.isEmpty
  | _=>False
theorem isEmpty_kv {κ : Type} {kvs : List (κ×V)} {vs : List (κ×Value)} (r : KV kvs vs) : (!vs.isEmpty) = !kvs.isEmpty:=by
  cases r <;> rfl
theorem isEmpty_of {xs : List V} {its : List Value} (r : Vals xs its) : (!its.toArray.isEmpty) = !xs.isEmpty:=by
  cases r <;> simp
theorem line63 : (sizeLine : Nat) < 2 ^ 63:=by rw [sizeLine_eq]; decide
theorem tru_ok : TruR X (fun x H Q=>∃ k,TruV X.K x H k∧Q k H):=by
  intro pins s σ H x v Q I rx h
  obtain ⟨k,e,q⟩:=h
  have hl:=line63
  have hs : sizeLine=16777216:=sizeLine_eq
  cases x with
  | non=>
    cases rx
    have e' : k=false:=e
    subst e'
    exact truthy_none ⟨H,I,q⟩
  | bl b=>
    cases rx
    have e' : k=b:=e
    subst e'
    exact wpAny_truthy_bool ⟨H,I,q⟩
  | int i=>
    obtain ⟨t,rfl⟩:=rx
    have e' : k=(i != 0):=e
    subst e'
    exact PySem.P.truthy_int ⟨H,I,q⟩
  | str y=>
    obtain ⟨t,rfl⟩:=rx
    obtain ⟨hy,e'⟩ : y.length≤sizeLine∧k=((y.length : Int) != 0):=e
    subst e'
    exact PySem.P.truthy_str (by omega) ⟨H,I.tok _,q⟩
  | byt y=>
    obtain ⟨t,rfl⟩:=rx
    obtain ⟨hy,e'⟩ : y.size≤sizeLine∧k=((y.size : Int) != 0):=e
    subst e'
    exact PySem.W.truthy_bytes (by omega) ⟨H,I.tok _,q⟩
  | ref p=>
    cases rx
    have e' : (∃ xs,SqL X.K H p xs∧k = !xs.isEmpty)∨(∃ xs,SqT X.K H p xs∧k = !xs.isEmpty)∨∃ kvs,H p=some (.dK kvs)∧k = !kvs.isEmpty:=e
    rcases e' with ⟨xs,hx,e'⟩ | ⟨xs,hx,e'⟩ | ⟨kvs,hx,e'⟩
    · subst e'
      obtain ⟨its,r,pl,hz⟩:=I.list hx
      have hlen:=r.length
      exact wpAny_truthy_list pl.isList (by simp only [List.size_toArray]; omega) ⟨H,I.tok _,by rw [isEmpty_of r]; exact q⟩
    · subst e'
      obtain ⟨its,r,pl,hz⟩:=I.tuple hx
      have hlen:=r.length
      exact truthy_tuple pl (by simp only [List.size_toArray]; omega) ⟨H,I.tok _,by rw [isEmpty_of r]; exact q⟩
    · subst e'
      obtain ⟨hz,hS,vs,r,m⟩ : kvs.length≤sizeLine∧(p == sysModules)=false∧∃ vs,KV kvs vs∧s.heap.DictOf (mixKind X.prog X.w) p vs:=I.hok p _ hx
      have hlen : kvs.length=vs.length:=Paired.length r
      exact wpAny_truthy_dict hS m (by omega) ⟨H,I.tok _,by rw [isEmpty_kv r]; exact q⟩
  | _=>exact (show False from e).elim
theorem pt_truth (ha : PE X a ta) (he : ∀ whole,isTrue a X.env whole=(do let v ← whole; standAt a.pos; holding [v] (truthy v))) :
    PT X a (fun σ H Q=>ta σ H fun x H'=>∃ k,TruV X.K x H' k∧Q k H'):=by
  refine ⟨?_⟩
  intro pins s σ H Q I h
  exact isTrue_plain (thn (ha pins s σ H _ I h) fun v s1 ⟨x,H1,I1,r1,q1⟩=>tru_ok pins s1 σ H1 x v Q I1 r1 q1) (he _)
theorem op_add_str : OpR X (binaryOp .Add) (fun x y H Q=>∃ i j,x = .str i∧y = .str j∧i.length + j.length≤sizeLine∧Q (.str (i ++ j)) H):=by
  intro pins s σ H x y v u Q I rx ry h
  obtain ⟨i,j,rfl,rfl,hz,q⟩:=h
  obtain ⟨t,rfl⟩:=rx
  obtain ⟨t',rfl⟩:=ry
  exact add_str (fun t' tk=>⟨.str (i ++ j),H,I.tok _,⟨_,rfl⟩,q⟩) hz
theorem vals1 {x : V} {us : List Value} (r : Vals [x] us) : ∃ u,us=[u]∧RelV x u:=by
  cases r with
  | cons r1 r2=>cases r2; exact ⟨_,rfl,r1⟩
end
end L2
namespace L2
open PySem PySem.Spec PyProof.Rows
structure ObjM (h : Heap) (x dx C : Addr) (mA : Str→Option Value) : Prop where
  obj : h.get? x=some (PySem.W.instObj C dx)
  ns : h.Ns1 dx mA
  ne : dx≠x
theorem lookIn_ns {h : Heap} {dx : Addr} {mA : Str→Option Value} (n : h.Ns1 dx mA) : ∃ od,h.get? dx=some od∧∀ name,PySem.W.lookIn name od=some (mA name):=by
  obtain ⟨o,es,ep,ho,hd,hk,_,hm⟩:=n
  refine ⟨o,ho,fun name=>?_⟩
  have e:=hm name
  unfold nsFind findBy at e
  rw [← Array.find?_toList] at e
  unfold PySem.W.lookIn
  rw [hd]
  dsimp only
  split
  · rename_i y q
    rw [q] at e
    exact congrArg some e
  · rename_i q
    rw [q] at e
    have a : es.toList.any (·.refKey)=false:=by
      rw [List.any_eq_false]
      intro y hy
      obtain ⟨z,t,hkey⟩:=hk y (Array.mem_toList_iff.mp hy)
      simp [DictEntry.refKey,hkey]
    have a' : ¬ es.toList.any (·.refKey)=true:=by rw [a]; exact Bool.false_ne_true
    rw [if_neg a']
    exact congrArg some e
theorem ObjM.look {h : Heap} {x dx C : Addr} {mA : Str→Option Value} (I : ObjM h x dx C mA) : ∃ od,PySem.W.InstAt h x (PySem.W.instObj C dx) C (some od)∧∀ name,PySem.W.lookIn name od=some (mA name):=
  let ⟨od,ho,hl⟩:=lookIn_ns I.ns
  ⟨od,⟨I.obj,rfl,rfl,ho⟩,hl⟩
section
variable {prog : Program} {w : World} {A : Around} {E : Value→Shared→Prop} {s : Shared} {K : PySem.W.Frag} {x dx C f : Addr} {mA : Str→Option Value} {name : Str} {v : Value}
end
theorem RelO.some_of {v : V} {o : Option Value} (r : RelO (some v) o) : ∃ u,o=some u∧RelV v u:=by
  cases o with
  | none=>exact (show False from r).elim
  | some u=>exact ⟨u,rfl,r⟩
section
variable {P : Program} {w : World} {H H' : Hp} {h h' : Heap} {a C dx : Addr} {fs fs' : List (Str×V)}
theorem ins_get (hok : HOk P w H h) (e : H a=some (.ins C dx fs)) : ∃ mA,ObjM h a dx C mA∧(∀ f,RelO (fs.lookup f) (mA f))∧PySem.Within mA (fs.map (·.1))∧fs.length≤1000∧H dx=some (.own a):=by
  obtain ⟨d,z,ne,ob,mA,n,r,q⟩:=(show ObjOk P w H h a (.ins C dx fs) from hok a _ e)
  exact ⟨mA,⟨ob,n,ne⟩,r,q,z,d⟩
end
structure Cls (K : PySem.W.Frag) (C : Addr) : Prop where
  pg : PySem.W.plainGet K C Str.empty=true
  hd : PySem.W.hasDictIn K C=true
  po : PySem.W.plainOver K C=true
  sa : PySem.W.findIn K (.ref C) "__setattr__" = some (some (.builtin "object.__setattr__"))
theorem Cls.get {K : PySem.W.Frag} {C : Addr} (c : Cls K C) (f : Str) : PySem.W.plainGet K C f=true:=c.pg
section
variable {X : Cx} {pins : List (Addr×Obj)} {σ : St} {H : Hp} {s : Shared} {a C dx : Addr} {fs : List (Str×V)} {f : Str} {v : V} {A : Around} {E : Value→Shared→Prop}
end
section
variable {X : Cx} {o e value : Expr} {f : Str} {pos pos' tpos : Pos} {ta tv : TE}
end
section
variable {X : Cx} {pins : List (Addr×Obj)} {σ : St} {H : Hp} {s : Shared} {A : Around} {E : Value→Shared→Prop} {Q : Value→Shared→Prop} {c : Value} {b : Bool}
inductive TyOf (K : PySem.W.Frag) (H : Hp) : V→Value→Prop where
  | non : TyOf K H .non (.type "NoneType")
  | bl (x : Bool) : TyOf K H (.bl x) (.type "bool")
  | int (i : Int) : TyOf K H (.int i) (.type "int")
  | str (x : Str) : TyOf K H (.str x) (.type "str")
  | flt (x : UInt64) : TyOf K H (.flt x) (.type "float")
  | lst {a : Addr} {xs : List V} (e : H a=some (.lst xs)) : TyOf K H (.ref a) (.type "list")
  | frz {a : Addr} {o : Obj} {xs : List V} (e : H a=some (.frz o (.lst xs))) : TyOf K H (.ref a) (.type "list")
  | tup {a : Addr} {xs : List V} (e : H a=some (.tup xs)) : TyOf K H (.ref a) (.type "tuple")
  | dK {a : Addr} {kvs : List (Key×V)} (e : H a=some (.dK kvs)) : TyOf K H (.ref a) (.type "dict")
  | dT {a : Addr} {kvs : List (List Key×V)} (e : H a=some (.dT kvs)) : TyOf K H (.ref a) (.type "dict")
  | ins {a C dx : Addr} {fs : List (Str×V)} (e : H a=some (.ins C dx fs)) (cl : Cls K C) (ha : PySem.W.findIn K (.ref C) "__class__" = some (some (.builtin "object.__class__")))
      (hn : PySem.W.specialIn K (.builtin "object.__class__") "__get__" = some (some (.builtin "getset_descriptor.__get__"))) (htk : PySem.W.takesIn K (.builtin "object.__class__")=some true)
      (hm : PySem.W.mroIn K C (.type "object")=some true) : TyOf K H (.ref a) (.ref C)
theorem isinst_ok {x : V} {u t : Value} (I : Inv X pins σ H s) (rx : RelV x u) (ty : TyOf X.K H x t) (e : PySem.W.kitOne X.K t c=some b) (h : ∀ tk,Q (.bool b) { s with toks:=tk }) :
    wpAny (model X.prog X.w) A (call (.builtin "isinstance") [u,c]) Q E s:=by
  cases ty with
  | non=>cases (show u=Value.none from rx); exact PySem.W.kia_one PySem.W.kitx_none I.kIn True.intro e (fun z=>nomatch z) h
  | bl y=>cases (show u=Value.bool y from rx); exact PySem.W.kia_one PySem.W.kitx_bool I.kIn True.intro e (fun z=>nomatch z) h
  | int i=>obtain ⟨t,q⟩:=(show ∃ t,u=Value.int i t from rx); cases q; exact PySem.W.kia_one PySem.W.kitx_int I.kIn True.intro e (fun z=>nomatch z) h
  | str y=>obtain ⟨t,q⟩:=(show ∃ t,u=Value.str y t from rx); cases q; exact PySem.W.kia_one PySem.W.kitx_str I.kIn True.intro e (fun z=>nomatch z) h
  | flt y=>obtain ⟨t,q⟩:=(show ∃ t,u=Value.float y t from rx); cases q; exact PySem.W.kia_one PySem.W.kitx_float I.kIn True.intro e (fun z=>nomatch z) h
  | @lst a xs ea=>
    cases (show u=Value.ref a from rx)
    obtain ⟨_,_,n,_,h1⟩:=(show ObjOk X.prog X.w H s.heap a (.lst xs) from I.hok a _ ea)
    exact PySem.W.kia_one PySem.W.kitx_list I.kIn ⟨_,h1,rfl⟩ e (fun z=>nomatch z) h
  | @frz a ob xs ea=>
    cases (show u=Value.ref a from rx)
    obtain ⟨_,_,_,n,_,h1⟩:=(show ObjOk X.prog X.w H s.heap a (.frz ob (.lst xs)) from I.hok a _ ea)
    exact PySem.W.kia_one PySem.W.kitx_list I.kIn ⟨_,h1,rfl⟩ e (fun z=>nomatch z) h
  | @tup a xs ea=>
    cases (show u=Value.ref a from rx)
    obtain ⟨_,_,_,p⟩:=(show ObjOk X.prog X.w H s.heap a (.tup xs) from I.hok a _ ea)
    obtain ⟨o,h1,h2,_⟩:=p
    exact PySem.W.kia_one PySem.W.kitx_tuple I.kIn ⟨o,h1,h2⟩ e (fun z=>nomatch z) h
  | @dK a kvs ea=>
    cases (show u=Value.ref a from rx)
    obtain ⟨_,_,vs,_,p⟩:=(show ObjOk X.prog X.w H s.heap a (.dK kvs) from I.hok a _ ea)
    obtain ⟨o,es,ep,h1,h2,_⟩:=p
    exact PySem.W.kia_one PySem.W.kitx_dict I.kIn ⟨o,h1,h2.1⟩ e (fun z=>nomatch z) h
  | @dT a kvs ea=>
    cases (show u=Value.ref a from rx)
    obtain ⟨_,_,xs,_,o,es,ep,h1,h2,_⟩:=(show ObjOk X.prog X.w H s.heap a (.dT kvs) from I.hok a _ ea)
    exact PySem.W.kia_one PySem.W.kitx_dict I.kIn ⟨o,h1,h2.1⟩ e (fun z=>nomatch z) h
  | @ins a C dx fs ea cl ha hn htk hm=>
    cases (show u=Value.ref a from rx)
    obtain ⟨mA,O,_⟩:=ins_get I.hok ea
    obtain ⟨od,J,_⟩:=O.look
    exact PySem.W.kia_one (PySem.W.kitx_own (cl.get _) cl.hd ha hn htk hm) I.kIn J e (fun z=>nomatch z) h
end
end L2
namespace L2
open PySem PySem.Spec PyProof.Rows
structure Room (k : Nat) (A : Around) : Prop where
  hd : A.handled=none
  dp : A.depth + 3 * k + 5 < recursionLimit
  un : A.units + 16 * k + 200 < cLine
theorem Room.mono {j k : Nat} {A : Around} (r : Room k A) (h : j≤k) : Room j A:=⟨r.hd,by have:=r.dp; omega,by have:=r.un; omega⟩
theorem Room.deeper {k : Nat} {A : Around} (r : Room (k + 1) A) (env : Env) : Room k (A.deeper env):=
  ⟨r.hd,by have:=r.dp; show A.depth + 1 + 3 * k + 5 < _; omega,by have:=r.un; show A.units + 3 + 16 * k + 200 < _; omega⟩
theorem Room.depth {k : Nat} {A : Around} (r : Room k A) : A.depth < recursionLimit:=by have:=r.dp; omega
theorem Room.units {k : Nat} {A : Around} (r : Room k A) : A.units + 64 < cLine:=by have:=r.un; omega
def tNil : TA:=fun _ H Q=>Q [] H
def tCons (ta : TE) (tr : TA) : TA:=fun σ H Q=>ta σ H fun x H1=>tr σ H1 fun xs H2=>Q (x :: xs) H2
section
variable {X : Cx} {e : Expr} {es : List Expr} {te : TE} {t : TA} {pos : Pos}
theorem pa_nil : PA X [] tNil:=⟨fun _ _ _ _ H Q I h=>Calls.spliced_nil ⟨[],H,I,.nil,h⟩⟩
theorem pa_cons (ha : PE X e te) (hr : PA X es t) (hs : starEach (e :: es) X.env=(false,eval e X.env) :: starEach es X.env:=by rfl) : PA X (e :: es) (tCons te t):=by
  refine ⟨?_⟩
  intro pos pins s σ H Q I h
  rw [hs]
  show wpAny _ _ (spliced ((false,eval e X.env) :: backTo pos (starEach es X.env))) _ _ s
  refine Calls.spliced_cons (thn (ha pins s σ H _ I h) fun u s1 ⟨x,H1,I1,r1,q1⟩=>?_)
  exact thn (hr pos pins s1 σ H1 _ I1 q1) fun us s2 ⟨xs,H2,I2,r2,q2⟩=>⟨x :: xs,H2,I2,.cons r1 r2,q2⟩
def tTup (t : TA) : TE:=fun σ H Q=>t σ H fun xs H1=>xs.length≤sizeLine∧∀ p,H1 p=none→Q (.ref p) (upd H1 p (.tup xs))
def tLst (t : TA) : TE:=fun σ H Q=>t σ H fun xs H1=>xs.length≤sizeLine∧∀ p,H1 p=none→Q (.ref p) (upd H1 p (.lst xs))
theorem pe_tup {x1} (h : PA X es t) : PE X (.Tuple es x1 pos) (tTup t):=by
  refine ⟨?_⟩
  intro pins s σ H Q I hq
  refine wpAny_Tuple_spliced (thn (h pos pins s σ H _ I hq) fun us s1 ⟨xs,H1,I1,r,z,q⟩=>⟨by rw [← r.length]; exact z,?_⟩)
  have hf : H1 s1.heap.objs.size=none:=I1.hok.fresh (Nat.le_refl _)
  refine ⟨.ref s1.heap.objs.size,upd H1 s1.heap.objs.size (.tup xs),I1.laid (t':=s1.toks) (fun b u e=>Heap.get?_push_of_some _ e) (Nat.le_refl _) ?_,rfl,q _ hf⟩
  exact ⟨z,us,r,⟨_,Heap.get?_push_size _ rfl,rfl,_,rfl⟩⟩
theorem pe_lst (h : PA X es t) : PE X (.List es pos) (tLst t):=by
  refine ⟨?_⟩
  intro pins s σ H Q I hq
  refine wpAny_List_spliced (thn (h pos pins s σ H _ I hq) fun us s1 ⟨xs,H1,I1,r,z,q⟩=>⟨by rw [← r.length]; exact z,?_⟩)
  have hf : H1 s1.heap.objs.size=none:=I1.hok.fresh (Nat.le_refl _)
  refine ⟨.ref s1.heap.objs.size,upd H1 s1.heap.objs.size (.lst xs),I1.laid (t':=s1.toks) (fun b u e=>Heap.get?_push_of_some _ e) (Nat.le_refl _) ?_,rfl,q _ hf⟩
  exact ⟨z,us,0,r,Heap.get?_push_size _ rfl⟩
end
abbrev Sp:=List V→Hp→VK→XK→Prop
abbrev CXT:=List Env→Hp→Shared→XK→Value→Shared→Prop
structure Env0 (P : Program) (w : World) (K : PySem.W.Frag) (mg : Str→Option Value) (base : Heap) (A : Around) (outer : List Env) (s : Shared) (H : Hp) : Prop where
  frames : A.frames=some outer
  mod : Mod K mg base
  bs : ∀ b o,base.get? b=some o→s.heap.get? b=some o∧H b=none
  bsz : base.objs.size≤s.heap.objs.size
  funs : s.heap.FunFrames base outer
  frf : ∀ b∈frs outer,H b=none
  hok : HOk P w H s.heap
  bare : AllBare s.gens
def CE (outer : List Env) (P : Program) (w : World) (H : Hp) (s : Shared) (Q : VK) (u : Value) (s' : Shared) : Prop:=
  ∃ v H',s'.os=s.os∧AllBare s'.gens∧Un (frs outer) [] H H' s.heap s'.heap∧HOk P w H' s'.heap∧RelV v u∧Q v H'
def CR (CX : CXT) (outer : List Env) (P : Program) (w : World) (H : Hp) (s : Shared) (Q : VK) (E : XK) (r : Result) (s' : Shared) : Prop:=
  match r with
  | .ok (.ret u)=>CE outer P w H s Q u s'
  | .ok _=>False
  | .error e=>CX outer H s E e s'
structure FnOk (P : Program) (w : World) (K : PySem.W.Frag) (mg : Str→Option Value) (base : Heap) (CX : CXT) (k : Nat) (f : Addr) (fd : FuncData) (ps : List Str) (sp : Sp) : Prop where
  len : ∀ vs H Q E,sp vs H Q E→vs.length=ps.length
  run : ∀ (A : Around) (outer : List Env) (s : Shared) (H : Hp) (args : Args) (us : List Value) (vs : List V) (Q : VK) (E : XK),Room k A→Env0 P w K mg base A outer s H→BindsTo s fd args (ps.zip us)→Vals vs us→sp vs H Q E→
    codeAny (model P w) A (.call (.ref f) args) (CR CX outer P w H s Q E) s
theorem FnOk.mono {P : Program} {w : World} {K : PySem.W.Frag} {mg : Str→Option Value} {base : Heap} {CX : CXT} {j k : Nat} {f : Addr} {fd : FuncData} {ps : List Str} {sp : Sp} (F : FnOk P w K mg base CX j f fd ps sp) (h : j≤k) :
    FnOk P w K mg base CX k f fd ps sp:=⟨F.len,fun A outer s H args us vs Q E hr=>F.run A outer s H args us vs Q E (hr.mono h)⟩
section
variable {X : Cx} {pins : List (Addr×Obj)} {σ : St} {H : Hp} {s s' : Shared}
theorem Inv.env0 (I : Inv X pins σ H s) : Env0 X.prog X.w X.K X.mg X.base X.A X.stack s H:=
  ⟨I.ok.frames,I.ok.mod,I.bs,Nat.le_trans I.ok.bsz I.sz,I.stack,I.stkFree,I.hok,I.bare⟩
theorem Inv.after {Q : VK} {u : Value} (I : Inv X pins σ H s) (h : CE X.stack X.prog X.w H s Q u s') : EP X pins σ Q u s':=by
  obtain ⟨v,H',os,bare,un,hok,r,q⟩:=h
  obtain ⟨hh,g,d,t,os'⟩:=s'
  obtain rfl : os' = s.os:=os
  exact ⟨v,H',I.call (h':=hh) (g':=g) (d':=d) (t':=t) (ch:=[]) un hok bare (fun b z=>absurd z (by simp)),r,q⟩
end
def tCall (sp : Sp) (dvs : List V) (E : XK) (t : TA) : TE:=fun σ H Q=>t σ H fun vs H1=>sp (vs ++ dvs) H1 Q E
def Binds (K : PySem.W.Frag) (fd : FuncData) (ps : List Str) (ds : List Value) : Prop:=
  ∀ (s : Shared) (us : List Value),K.In s.heap→(us ++ ds).length=ps.length→BindsTo s fd ⟨us,[]⟩ (ps.zip (us ++ ds))
theorem Binds.all {K : PySem.W.Frag} {fd : FuncData} {ps : List Str} (h : ∀ us : List Value,us.length=ps.length→bindArgs fd ⟨us,[]⟩=pure (ps.zip us)) : Binds K fd ps []:=fun s us _ hl=>by
  rw [List.append_nil] at hl ⊢
  exact .of_eq (h us hl)
def Passes (CX : CXT) (X : Cx) (E : XK) : Prop:=∀ (pins : List (Addr×Obj)) (σ : St) (H : Hp) (s : Shared) (e : Value) (s' : Shared),Inv X pins σ H s→CX X.stack H s E e s'→X.xe e s'
section
variable {X : Cx} {CX : CXT} {k : Nat} {f C : Addr} {fd : FuncData} {ps : List Str} {sp : Sp} {dvs : List V} {ds : List Value} {E : XK} {x m : Str} {p pos apos : Pos} {e o : Expr} {es : List Expr} {ta : TE} {t : TA}
theorem run_fn {pins : List (Addr×Obj)} {σ : St} {H : Hp} {s : Shared} {Q : VK} {us : List Value} {vs : List V} (F : FnOk X.prog X.w X.K X.mg X.base CX k f fd ps sp) (hr : Room k X.A) (hb : Binds X.K fd ps ds) (hd : Vals dvs ds) (hx : Passes CX X E)
    (I : Inv X pins σ H s) (r : Vals vs us) (h : sp (vs ++ dvs) H Q E) : wpAny (model X.prog X.w) X.A (call (.ref f) us) (EP X pins σ Q) X.xe s:=by
  have r2 : Vals (vs ++ dvs) (us ++ ds):=r.append hd
  have hl : (us ++ ds).length=ps.length:=by rw [← r2.length]; exact F.len _ _ _ _ h
  refine wpAny_call (codeAny_mono (F.run X.A X.stack s H ⟨us,[]⟩ (us ++ ds) (vs ++ dvs) Q E hr I.env0 (hb s us I.kIn hl) r2 h) fun r s' hq=>?_)
  cases r with
  | error e=>exact hx pins σ H s e s' I hq
  | ok fl=>
    cases fl with
    | ret u=>exact I.after hq
    | next=>exact False.elim hq
    | brk=>exact False.elim hq
    | cont=>exact False.elim hq
theorem pe_call (F : FnOk X.prog X.w X.K X.mg X.base CX k f fd ps sp) (hr : Room k X.A) (hg : Gl X x) (hm : X.mg x=some (.ref f)) (hk : PySem.W.keepIn X.K (.ref f)=true) (hb : Binds X.K fd ps ds) (hd : Vals dvs ds) (hx : Passes CX X E)
    (ha : PA X (e :: es) t) (hdb : (x == ("__debug__" : Str))=false:=by decide) (he : starEach (e :: es) X.env=(false,eval e X.env) :: starEach es X.env:=by rfl) (hpl : (backTo pos (starEach es X.env)).any (·.1)=false:=by rfl) :
    PE X (.Call (.Name x p) (e :: es) [] pos) (tCall sp dvs E t):=by
  refine ⟨?_⟩
  intro pins s σ H Q I h
  refine wpAny_Call_Name_kw (ld_glob I hg hm ?_ hdb)
  refine PySem.W.callWith_K (h₀:=X.base) I.ok.mod.kin hk (thn (ha pos pins s σ H _ I h) fun us s1 ⟨vs,H1,I1,r,q⟩=>⟨I1.kIn,?_⟩) he hpl
  exact run_fn F hr hb hd hx I1 r q
end
section
variable {X : Cx} {CX : CXT} {k : Nat} {f C : Addr} {fd : FuncData} {ps ks : List Str} {sp : Sp} {E : XK} {x m : Str} {p pos apos kpos : Pos} {e o : Expr} {es : List Expr} {kws : List Keyword} {te ta : TE} {t tk : TA} {nm : Option Str}
variable {g : List Value→List Value→List Value} {gV : List V→List V→List V}
end
structure FnScope (N P : List Str) (sc : Scope) : Prop where
  kind : sc.kind = .function
  co : sc.isCoroutine=false
  gen : sc.isGenerator=false
  nd : N.Nodup
  pre : N.take P.length=P
  par : ∀ x∈P,sc.names.lookup x=some .local∨sc.names.lookup x=some .cell
  nofree : ∀ y∈sc.names,y.2≠.free
theorem bindL_out {kindOf : Str→Option NameKind} {x : Str} : ∀ {binds : List (Str×Value)} {m : Str→Option Value},(∀ v,(x,v) ∉ binds)→bindL kindOf binds m x=m x
  | [],_,_=>rfl
  | (n,v) :: r,m,h=>by
    unfold bindL
    rw [bindL_out fun w hw=>h w (List.mem_cons_of_mem _ hw)]
    split
    · have : x≠n:=by rintro rfl; exact h v List.mem_cons_self
      simp [this]
    · rfl
theorem bindC_out {kindOf : Str→Option NameKind} {x : Str} : ∀ {binds : List (Str×Value)} {m : Str→Option Value},(∀ v,(x,v) ∉ binds)→bindC kindOf binds m x=m x
  | [],_,_=>rfl
  | (n,v) :: r,m,h=>by
    unfold bindC
    rw [bindC_out fun w hw=>h w (List.mem_cons_of_mem _ hw)]
    split
    · rfl
    · have : x≠n:=by rintro rfl; exact h v List.mem_cons_self
      simp [this]
theorem bindL_get {kindOf : Str→Option NameKind} {x : Str} {v : Value} : ∀ {P : List Str} {vs : List Value} {i : Nat} {m : Str→Option Value},P.Nodup→P[i]? = some x→vs[i]? = some v→kindOf x=some .local→
    bindL kindOf (P.zip vs) m x=some v
  | [],_,_,_,_,h,_,_=>by simp at h
  | _ :: _,[],_,_,_,_,h,_=>by simp at h
  | p :: P,w :: vs,0,m,nd,h1,h2,hk=>by
    simp at h1 h2; subst h1; subst h2
    show bindL kindOf ((p,w) :: P.zip vs) m p=_
    unfold bindL
    rw [bindL_out fun v hv=>(List.nodup_cons.mp nd).1 (List.of_mem_zip hv).1,if_pos hk]
    simp
  | p :: P,w :: vs,i + 1,m,nd,h1,h2,hk=>by
    show bindL kindOf ((p,w) :: P.zip vs) m x=_
    unfold bindL
    exact bindL_get (i:=i) (List.nodup_cons.mp nd).2 (by simpa using h1) (by simpa using h2) hk
theorem bindC_get {kindOf : Str→Option NameKind} {x : Str} {v : Value} : ∀ {P : List Str} {vs : List Value} {i : Nat} {m : Str→Option Value},P.Nodup→P[i]? = some x→vs[i]? = some v→kindOf x≠some .local→
    bindC kindOf (P.zip vs) m x=some v
  | [],_,_,_,_,h,_,_=>by simp at h
  | _ :: _,[],_,_,_,_,h,_=>by simp at h
  | p :: P,w :: vs,0,m,nd,h1,h2,hk=>by
    simp at h1 h2; subst h1; subst h2
    show bindC kindOf ((p,w) :: P.zip vs) m p=_
    unfold bindC
    rw [bindC_out fun v hv=>(List.nodup_cons.mp nd).1 (List.of_mem_zip hv).1,if_neg hk]
    simp
  | p :: P,w :: vs,i + 1,m,nd,h1,h2,hk=>by
    show bindC kindOf ((p,w) :: P.zip vs) m x=_
    unfold bindC
    exact bindC_get (i:=i) (List.nodup_cons.mp nd).2 (by simpa using h1) (by simpa using h2) hk
def start (N : List Str) (vs : List V) : St:=vs.map some ++ List.replicate (N.length - vs.length) none
def cxOf (CX : CXT) (P : Program) (w : World) (K : PySem.W.Frag) (mg : Str→Option Value) (base : Heap) (N : List Str) (qual : Str) (scope : Scope) (f : Addr) (cd : Value) (A : Around) (outer : List Env) (s : Shared) (H : Hp) (E : XK) : Cx where
  prog:=P
  w:=w
  K:=K
  mg:=mg
  base:=base
  A:=A.deeper (envOfC qual scope s.heap.objs.size f cd)
  N:=N
  s₀:=s
  H₀:=H
  env:=envOfC qual scope s.heap.objs.size f cd
  outer:=outer
  stack:=envOfC qual scope s.heap.objs.size f cd :: outer
  ex:=[]
  calm:=true
  fn:=fun _=>true
  pn:=[]
  xe:=fun e s'=>wpAny (model P w) (A.deeper (envOfC qual scope s.heap.objs.size f cd)) (leaving (envOfC qual scope s.heap.objs.size f cd) e) (fun _ s''=>CX outer H s E e s'') (fun e' s''=>CX outer H s E e' s'') s'
theorem cell_has {sc : Scope} {n : Nat} {x : Str} (h : sc.names.lookup x=some .cell) : ∃ c,(cellsFrom n sc.names []).lookup x=some c:=by
  have q:=PySem.W.cellsFrom_some sc.names n [] (.inl h)
  exact Option.isSome_iff_exists.mp q
theorem inv_start {CX : CXT} {P : Program} {w : World} {K : PySem.W.Frag} {mg : Str→Option Value} {base : Heap} {N ps : List Str} {qual : Str} {scope : Scope} {f : Addr} {cd : Value} {A : Around} {outer : List Env} {s s1 : Shared} {H : Hp} {E : XK} {us : List Value} {vs : List V}
    (S : FnScope N ps scope) (hd : A.handled=none) (e0 : Env0 P w K mg base A outer s H) (hl : vs.length=ps.length) (r : Vals vs us)
    (x : InCallC s s.heap.objs.size (bindL (envOfC qual scope s.heap.objs.size f cd).kindOf (ps.zip us) fun _=>none) (cellsFrom (s.heap.objs.size + 1) scope.names []) (bindC (envOfC qual scope s.heap.objs.size f cd).kindOf (ps.zip us) fun _=>none) s1) :
    Inv (cxOf CX P w K mg base N qual scope f cd A outer s H E) [] (start N vs) H s1:=by
  have hpl : ps.length≤N.length:=by have:=congrArg List.length S.pre; rw [List.length_take] at this; omega
  obtain ⟨h1,tk,rfl,hk⟩:=x.done
  have noA : ∀ b : Addr,b ∉ (cxOf CX P w K mg base N qual scope f cd A outer s H E).ex:=fun b z=>absurd (show b∈([] : List Addr) from z) (by simp)
  refine ⟨⟨e0.mod,S.kind,rfl,rfl,Nat.le_refl _,fun y z c h1 h2=>?_,fun y hy=>?_,fun y c _ h=>?_,fun _=>hd,Around.frames_deeper e0.frames,.inr ⟨rfl,rfl⟩,fun b z=>absurd z (noA b),e0.bs,e0.bsz,fun b _ _=>noA b,fun b z=>absurd z (noA b),e0.funs,e0.frf⟩,
    rfl,e0.bare,Un.kept hk,⟨_,x.toInCall.ns,fun i y v h1 h2 h3=>?_⟩,fun y c h=>⟨_,x.cell y c h⟩,e0.hok.fresh (Nat.le_refl _),fun y c h=>?_,fun p hp=>absurd (show p∈([] : List (Addr×Obj)) from hp) (by simp),e0.hok.kept hk,?_⟩
  · exact name_of_addr x.apart (PySem.mem_of_lookup h1) (PySem.mem_of_lookup h2)
  · have hy : scope.names.lookup y=some .cell∨scope.names.lookup y=some .free:=hy
    rcases hy with hy | hy
    · exact cell_has hy
    · exact absurd rfl (S.nofree _ (PySem.mem_of_lookup hy))
  · exact Nat.le_of_lt (x.above y c (PySem.mem_of_lookup h))
  · have hi : i < vs.length:=by
      unfold start at h2
      by_cases hi : i < vs.length
      · exact hi
      · rw [List.getElem?_append_right (by simpa using hi)] at h2
        rw [List.getElem?_replicate] at h2
        split at h2 <;> cases h2
    have ha : vs[i]? = some v:=by
      unfold start at h2
      rw [List.getElem?_append_left (by simpa using hi),List.getElem?_map] at h2
      cases e : vs[i]? with
      | none=>rw [e] at h2; cases h2
      | some a=>rw [e] at h2; cases h2; rfl
    obtain ⟨u,hu,rv⟩:=r.get ha
    have hp : ps[i]? = some y:=by
      rw [← S.pre,List.getElem?_take_of_lt (by omega)]; exact h1
    have ndP : ps.Nodup:=by rw [← S.pre]; exact S.nd.sublist (List.take_sublist _ _)
    refine ⟨u,rv,?_⟩
    rcases S.par y (List.mem_of_getElem? hp) with k | k
    · exact .inl ⟨k,bindL_get ndP hp hu k⟩
    · obtain ⟨c,e⟩:=cell_has (n:=s.heap.objs.size + 1) k
      refine .inr ⟨.inl k,c,e,?_⟩
      have q:=x.cell y c e
      rw [bindC_get ndP hp hu (by show scope.names.lookup y≠_; rw [k]; decide)] at q
      exact q
  · exact e0.hok.fresh (Nat.le_of_lt (x.above y c (PySem.mem_of_lookup h)))
  · unfold start
    show _=N.length
    rw [List.length_append,List.length_map,List.length_replicate]
    omega
theorem fn_of {CX : CXT} {P : Program} {w : World} {K : PySem.W.Frag} {mg : Str→Option Value} {base : Heap} {k : Nat} {f : Addr} {name qual : Str} {params : Arguments} {body : List Stmt} {scope : Scope} {dV kV doc pm cdv ct oc : Value} {an od : Option Addr}
    {osl : Array (Option Value)} {N ps : List Str} {sp : Sp} (lk : K.lookup f=some ⟨oc,od,.func (PySem.W.fnOf name qual params body scope dV kV doc pm an cdv ct),osl⟩) (hcd : PySem.W.codeIn K cdv qual=true) (S : FnScope N ps scope)
    (len : ∀ vs H Q E,sp vs H Q E→vs.length=ps.length)
    (hbody : ∀ (A : Around) (outer : List Env) (s : Shared) (H : Hp) (vs : List V) (Q : VK) (E : XK),Room k (A.deeper (envOfC qual scope s.heap.objs.size f cdv))→sp vs H Q E→
      ∃ t,PSs (cxOf CX P w K mg base N qual scope f cdv A outer s H E) body t∧t { nx:=fun _ H'=>Q .non H',rt:=Q } (start N vs) H) :
    FnOk P w K mg base CX (k + 1) f (PySem.W.fnOf name qual params body scope dV kV doc pm an cdv ct) ps sp:=by
  refine ⟨len,fun A outer s H args us vs Q E hr e0 hb r hsp=>?_⟩
  have hl:=len _ _ _ _ hsp
  have KX : K.In s.heap:=e0.mod.kin.keeps fun b o e=>(e0.bs b o e).1
  have lim : s.heap.NoLimit:=e0.mod.nolimit.keeps fun b o e=>(e0.bs b o e).1
  have hkind : ∀ y∈ps.zip us,scope.names.lookup y.1=some .local∨(scope.names.lookup y.1=some .cell∧((cellsFrom (s.heap.objs.size + 1) scope.names []).lookup y.1).isSome=true):=fun ⟨n,v⟩ hy=>by
    rcases S.par n (List.of_mem_zip hy).1 with q | q
    · exact .inl q
    · exact .inr ⟨q,PySem.W.cellsFrom_some _ _ _ (.inl q)⟩
  refine codeAny_call_function hr.depth (KX _ _ lk) rfl S.co S.gen rfl (PySem.W.codeRec_of KX hcd) (hb _ _ _ _ ?_)
  refine wpAny_newFunctionEnv_cells S.kind hkind fun env he s1 x=>?_
  subst he
  refine ⟨lim.keeps x.toInCall.keep,codeAny_func ?_⟩
  obtain ⟨t,ht,hq⟩:=hbody A outer s H vs Q E (hr.deeper _) hsp
  have I : Inv (cxOf CX P w K mg base N qual scope f cdv A outer s H E) [] (start N vs) H s1:=inv_start S hr.hd e0 hl r x
  refine wpAny_mono (ht [] s1 (start N vs) H _ I hq) (fun fl s' hs=>?_) fun e s' hs=>hs
  have fin : ∀ {σ' : St} {H' : Hp} {v : V} {u : Value},Inv (cxOf CX P w K mg base N qual scope f cdv A outer s H E) [] σ' H' s'→RelV v u→Q v H'→CE outer P w H s Q u s':=
    fun {σ' H' v u} J rv q=>⟨v,H',J.os,J.bare,J.base,J.hok,rv,q⟩
  cases fl with
  | ret u=>
    obtain ⟨v,σ',H',J,rv,q⟩:=hs
    exact fin J rv q
  | next=>
    obtain ⟨σ',H',J,q⟩:=hs
    exact fin (v:=V.non) (u:=Value.none) J rfl q
  | brk=>
    obtain ⟨_,_,_,q⟩:=hs
    exact False.elim q
  | cont=>
    obtain ⟨_,_,_,q⟩:=hs
    exact False.elim q
end L2
namespace L2
open PySem PySem.Spec PyProof.Rows
section
variable {X : Cx} {x : Str} {p pos : Pos} {e : Expr} {es : List Expr} {t : TA} {id T : String} {r : List V→Hp→VK→Prop}
def tCB (r : List V→Hp→VK→Prop) (t : TA) : TE:=fun σ H Q=>t σ H fun vs H1=>r vs H1 Q
theorem pe_callB (hc : CallR X (.builtin id) r) (hg : Gl X x) (hm : X.mg x=none) (hv : bootBuiltins x=some (.builtin id)) (ha : PA X (e :: es) t) (hn : x ≠ "__name__" := by decide) (hdb : (x == ("__debug__" : Str))=false:=by decide)
    (he : starEach (e :: es) X.env=(false,eval e X.env) :: starEach es X.env:=by rfl) (hpl : (backTo pos (starEach es X.env)).any (·.1)=false:=by rfl) : PE X (.Call (.Name x p) (e :: es) [] pos) (tCB r t):=by
  refine ⟨?_⟩
  intro pins s σ H Q I h
  refine wpAny_Call_Name_kw (ld_blt I hg hm hv ?_ hn hdb)
  exact PyProof.Rows.callWith_builtin1 (thn (ha pos pins s σ H _ I h) fun us s1 ⟨vs,H1,I1,r1,q1⟩=>hc pins s1 σ H1 vs us Q I1 r1 q1) he hpl
theorem pe_callTy (hc : CallR X (.type T) r) (hg : Gl X x) (hm : X.mg x=none) (hv : bootBuiltins x=some (.type T)) (ha : PA X (e :: es) t) (hn : x ≠ "__name__" := by decide) (hdb : (x == ("__debug__" : Str))=false:=by decide)
    (he : starEach (e :: es) X.env=(false,eval e X.env) :: starEach es X.env:=by rfl) (hpl : (backTo pos (starEach es X.env)).any (·.1)=false:=by rfl) : PE X (.Call (.Name x p) (e :: es) [] pos) (tCB r t):=by
  refine ⟨?_⟩
  intro pins s σ H Q I h
  refine wpAny_Call_Name_kw (ld_blt I hg hm hv ?_ hn hdb)
  exact PyProof.Rows.callWith_type1 (thn (ha pos pins s σ H _ I h) fun us s1 ⟨vs,H1,I1,r1,q1⟩=>hc pins s1 σ H1 vs us Q I1 r1 q1) he hpl
end
end L2
namespace HT
open PySem PyProof.Rows
section
open PySem.SeqAt
open PySem.AutoSeq1 (wpAny_loadPart')
open PySem.MeetsSeq PySem.MeetsSeq2 PySem.MeetsSeq3
end
section
variable {prog : Program} {w : World} {A : Around} {E : Value→Shared→Prop} {s : Shared}
theorem cat_tup {t b : Addr} {vs ws : List Value} {Q : Value→Shared→Prop} (ht : IsTup s.heap t vs.toArray) (hb : IsTup s.heap b ws.toArray) (hv : vs≠[])
    (h1 : ws=[]→Q (.ref t) s) (h2 : ws≠[]→Q (.ref s.heap.objs.size) { s with heap:=s.heap.push { cls:=.type "tuple",data:=.seq (vs ++ ws).toArray } })
    (hsz : vs.length + ws.length≤sizeLine) : wpAny (model prog w) A (binaryOp .Add (.ref t) (.ref b)) Q E s:=by
  obtain ⟨⟨cls,dd,data,sl⟩,ho,hc,n,hd⟩:=id ht
  obtain ⟨⟨cls2,dd2,data2,sl2⟩,ho2,hc2,n2,hd2⟩:=id hb
  simp only at hc hd hc2 hd2
  subst hc hd hc2 hd2
  have e : vs.toArray ++ ws.toArray=(vs ++ ws).toArray:=by simp
  by_cases hw : ws=[]
  · exact concat_meets ⟨_,ho,rfl⟩ ⟨_,ho2,rfl⟩ noFill_tuple_add seq_tuple_add PySem.F.slot_tuple_add PySem.F.entry_tuple_add (PySem.F.args_tuple_add_2 _ _)
      (tuple_addW1 t b vs.toArray ws.toArray n n2 dd dd2 sl sl2 (by simpa using hv) (by simp [hw])) ⟨ho,ho2,h1 hw⟩
  · refine concat_meets ⟨_,ho,rfl⟩ ⟨_,ho2,rfl⟩ noFill_tuple_add seq_tuple_add PySem.F.slot_tuple_add PySem.F.entry_tuple_add (PySem.F.args_tuple_add_2 _ _)
      (tuple_addW2 t b vs.toArray ws.toArray n n2 dd dd2 sl sl2 (by simpa using hv) (by simpa using hw) (by rw [List.size_toArray,List.size_toArray]; exact hsz)) ⟨ho,ho2,?_⟩
    rw [e]
    exact h2 hw
def sIx (n d : Nat) : Option Int→Nat
  | none=>d
  | some v=>if v < 0 then (v + (n : Int)).toNat else min v.toNat n
theorem sIx_le (n d : Nat) (hd : d≤n) (o : Option Int) : sIx n d o≤n:=by
  cases o with
  | none=>exact hd
  | some v=>
    show (if v < 0 then (v + (n : Int)).toNat else min v.toNat n)≤n
    by_cases hv : v < 0
    · rw [if_pos hv]; omega
    · rw [if_neg hv]; exact Nat.min_le_right _ _
theorem clip_eq (v : Int) (n d : Nat) : (if v < 0 then max (v + (n : Int)) 0 else min v (n : Int))=((sIx n d (some v) : Nat) : Int):=by
  show (if v < 0 then max (v + (n : Int)) 0 else min v (n : Int))=(((if v < 0 then (v + (n : Int)).toNat else min v.toNat n) : Nat) : Int)
  by_cases hv : v < 0
  · simp only [if_pos hv]; omega
  · simp only [if_neg hv]; omega
theorem adjust_gen (lo hi : Option Int) (n : Nat) : Builtin.Slice.sliceAdjust lo hi 1 (n : Int)=(((sIx n 0 lo : Nat) : Int),((sIx n n hi : Nat) : Int)):=by
  have h1 : ¬ ((1 : Int) < 0):=by omega
  unfold Builtin.Slice.sliceAdjust
  simp only [h1,if_false]
  refine Prod.ext ?_ ?_
  · cases lo with
    | none=>rfl
    | some v=>exact clip_eq v n 0
  · cases hi with
    | none=>rfl
    | some v=>exact clip_eq v n n
theorem places_gen (i j : Nat) : Builtin.Slice.slicePlaces (i : Int) (j : Int) 1=j - i:=by
  unfold Builtin.Slice.slicePlaces
  have h1 : (1 : Int) > 0:=by omega
  simp only [h1,if_true,Int.ediv_one]
  split <;> omega
theorem slicePart_ {v : Value} {o : Option Int} {Q : Option Int→Shared→Prop} (p : IsPart v o) (h : Q o s) : wpAny (model prog w) A (Builtin.Slice.slicePartIndex v) Q E s:=by
  cases p with
  | none=>exact slicePart_none h
  | int i t=>exact slicePart_int h
theorem sliceApplied_gen {sl : Addr} {vl vu : Value} {lo hi : Option Int} {n : Nat} {Q : Int×Int×Nat→Shared→Prop} (hs : s.heap.IsSliceOf sl vl vu .none) (pl : IsPart vl lo) (pu : IsPart vu hi)
    (h : Q (((sIx n 0 lo : Nat) : Int),1,sIx n n hi - sIx n 0 lo) s) : wpAny (model prog w) A (Builtin.Slice.sliceApplied (.ref sl) (pure (n : Int))) Q E s:=by
  obtain ⟨os,hos,hcs,hds⟩:=id hs
  unfold Builtin.Slice.sliceApplied Builtin.Slice.sliceFields
  refine wpAny_bind (wpAny_bind (wpAny_field hos hds (x:=vl) rfl (wpAny_bind (wpAny_field hos hds (x:=vu) rfl (wpAny_bind (wpAny_field hos hds (x:=.none) rfl (wpAny_pure ?_)))))))
  refine wpAny_bind (slicePart_none ?_)
  show wpAny _ _ (if ((1 : Int) == 0)=true then _ else _) _ _ s
  rw [if_neg (by decide)]
  refine wpAny_bind (slicePart_ pl (wpAny_bind (slicePart_ pu (wpAny_bind (wpAny_pure ?_)))))
  show wpAny _ _ (match Builtin.Slice.sliceAdjust lo hi 1 (n : Int) with | (lo,hi)=>pure (lo,(1 : Int),Builtin.Slice.slicePlaces lo hi 1)) _ _ s
  rw [adjust_gen lo hi n]
  show wpAny _ _ (pure (((sIx n 0 lo : Nat) : Int),(1 : Int),Builtin.Slice.slicePlaces ((sIx n 0 lo : Nat) : Int) ((sIx n n hi : Nat) : Int) 1)) _ _ s
  rw [places_gen]
  exact wpAny_pure h
theorem pick_gen (xs : Array Value) (i k : Nat) : ((List.range k).filterMap fun (m : Nat)=>xs[((i : Int) + (m : Int) * 1).toNat]?).toArray=((xs.toList.drop i).take k).toArray:=by
  have e : (fun (m : Nat)=>xs[((i : Int) + (m : Int) * 1).toNat]?)=fun m=>xs[i + m]?:=by
    funext m
    have : ((i : Int) + (m : Int) * 1).toNat=i + m:=by omega
    rw [this]
  rw [e]
  have:=pick_run xs i k
  rw [List.filterMap_map] at this
  have e2 : ((fun x=>xs[x]?) ∘ fun x=>i + x)=fun m=>xs[i + m]?:=rfl
  rw [e2] at this
  rw [this]
theorem getItem_tuple_cut {t sl : Addr} {items : Array Value} {vl vu : Value} {lo hi : Option Int} {Q : Value→Shared→Prop} (ht : IsTup s.heap t items) (hs : s.heap.IsSliceOf sl vl vu .none) (pl : IsPart vl lo) (pu : IsPart vu hi)
    (hw : ¬ (sIx items.size 0 lo=0∧sIx items.size items.size hi=items.size))
    (h : Q (.ref s.heap.objs.size) { s with heap:=s.heap.push { cls:=.type "tuple",data:=.seq ((items.toList.drop (sIx items.size 0 lo)).take (sIx items.size items.size hi - sIx items.size 0 lo)).toArray } })
    (hsz : items.size≤sizeLine) : wpAny (model prog w) A (getItem (.ref t) (.ref sl)) Q E s:=by
  have htake : sizeOk (.seq ((items.toList.drop (sIx items.size 0 lo)).take (sIx items.size items.size hi - sIx items.size 0 lo)).toArray):=by
    show ((items.toList.drop (sIx items.size 0 lo)).take (sIx items.size items.size hi - sIx items.size 0 lo)).toArray.size≤sizeLine
    rw [List.size_toArray,List.length_take,List.length_drop,Array.length_toList]
    omega
  have hj : sIx items.size items.size hi≤items.size:=sIx_le _ _ (Nat.le_refl _) hi
  obtain ⟨os,hos,hcs,hds⟩:=id hs
  have hTs : s.TypeIs (.ref sl) "slice" := ⟨os,hos,hcs⟩
  unfold getItem
  try with_reducible refine wpAny_holding ?_
  first | refine wpAny_bind (wpAny_pure ?_) | skip
  refine wpAny_bind (wpAny_sequenceKey ht.typeIs (by decide) ?_)
  refine wpAny_bind (wpAny_callSpecial?_slot (name:=Str.ofString "__getitem__") ht.typeIs PyProof.Rows.slot_tuple_getitem
    (wpAny_call_entry PyProof.Rows.slot_tuple_getitem ht.typeIs entry_tuple_getitem ?_ (args_tuple_getitem _ _)))
  show wpAny _ _ (Builtin.Tuple.tupleItemsOf (.ref t) >>= _) _ _ s
  refine wpAny_bind (tupleItemsOf_ ht ?_)
  refine wpAny_bind (wpAny_typeOf hTs ?_)
  rw [if_pos (by decide)]
  refine wpAny_bind (sliceApplied_gen hs pl pu ?_)
  have hno : ¬ ((((sIx items.size 0 lo : Nat) : Int) == 0 && (1 : Int) == 1 && (sIx items.size items.size hi - sIx items.size 0 lo) == items.size)=true):=by
    intro q
    rw [Bool.and_eq_true,Bool.and_eq_true] at q
    have q1 : ((sIx items.size 0 lo : Nat) : Int)=0:=eq_of_beq q.1.1
    have q2 : sIx items.size items.size hi - sIx items.size 0 lo=items.size:=eq_of_beq q.2
    exact hw ⟨by omega,by omega⟩
  show wpAny _ _ (if (((sIx items.size 0 lo : Nat) : Int) == 0 && (1 : Int) == 1 && (sIx items.size items.size hi - sIx items.size 0 lo) == items.size)=true then _ else _) _ _ s
  rw [if_neg hno,pick_gen]
  first
    | exact wpAny_bind (m:=Builtin.Tuple.tupleExact _) (wpAny_newObj_type (wpAny_pure ⟨_,rfl,wpAny_pure h⟩) htake)
    | exact wpAny_bind (m:=Builtin.Tuple.tupleExact _) (wpAny_newObj_type (wpAny_bind (wpAny_pure (wpAny_pure ⟨_,rfl,wpAny_pure h⟩))) htake)
    | exact wpAny_bind (wpAny_bind (m:=Builtin.Tuple.tupleExact _) (wpAny_newObj_type (wpAny_pure (wpAny_pure ⟨_,rfl,wpAny_pure h⟩)) htake))
    | exact wpAny_bind (wpAny_bind (m:=Builtin.Tuple.tupleExact _) (wpAny_newObj_type (wpAny_pure ⟨_,rfl,wpAny_pure h⟩) htake))
end
end HT
namespace L2
open PySem PySem.Spec PyProof.Rows
abbrev TO:=St→Hp→(Option Int→Hp→Prop)→Prop
def PO0 (X : Cx) (e : Option Expr) (t : TO) : Prop:=
  ∀ (pins : List (Addr×Obj)) (s : Shared) (σ : St) (H : Hp) (Q : Option Int→Hp→Prop),Inv X pins σ H s→t σ H Q→
    wpAny (model X.prog X.w) X.A (evalPart e X.env) (fun u s'=>∃ o H',Inv X pins σ H' s'∧IsPart u o∧Q o H') X.xe s
structure PO (X : Cx) (e : Option Expr) (t : TO) : Prop where
  out : PO0 X e t
instance {X : Cx} {e : Option Expr} {t : TO} : CoeFun (PO X e t) (fun _=>PO0 X e t):=⟨PO.out⟩
def tNoPart : TO:=fun _ H Q=>Q none H
def tPart (t : TE) : TO:=fun σ H Q=>t σ H fun x H1=>∃ i,x = .int i∧Q (some i) H1
section
variable {X : Cx} {e : Expr} {te : TE} {lo hi : Option Expr} {tl th : TO} {pos p2 : Pos}
theorem po_none : PO X none tNoPart:=by
  refine ⟨?_⟩
  intro pins s σ H Q I h
  rw [evalPart_none]
  exact wpAny_pure ⟨none,H,I,.none,h⟩
theorem po_some (h : PE X e te) : PO X (some e) (tPart te):=by
  refine ⟨?_⟩
  intro pins s σ H Q I hw
  rw [evalPart_some]
  refine thn (h pins s σ H _ I hw) fun u s1 ⟨x,H1,I1,r1,q1⟩=>?_
  obtain ⟨i,rfl,q⟩:=q1
  obtain ⟨t,rfl⟩:=r1
  exact ⟨some i,H1,I1,.int i t,q⟩
def SlR (X : Cx) (r : V→Option Int→Option Int→Hp→VK→Prop) : Prop:=
  ∀ (pins : List (Addr×Obj)) (s : Shared) (σ : St) (H : Hp) (x : V) (v vl vu : Value) (lo hi : Option Int) (sl : Addr) (Q : VK),Inv X pins σ H s→RelV x v→s.heap.IsSliceOf sl vl vu .none→IsPart vl lo→IsPart vu hi→r x lo hi H Q→
    ∃ T id,typeLookup (.type T) "__getitem__" = pure (some (.builtin id))∧s.TypeIs v T∧wpAny (model X.prog X.w) X.A (getItem v (.ref sl)) (EP X pins σ Q) X.xe s
def tSl (r : V→Option Int→Option Int→Hp→VK→Prop) (te : TE) (tl th : TO) : TE:=fun σ H Q=>te σ H fun x H1=>tl σ H1 fun l H2=>th σ H2 fun u H3=>r x l u H3 Q
theorem pe_slice {r : V→Option Int→Option Int→Hp→VK→Prop} (hr : SlR X r) (he : PE X e te) (hl : PO X lo tl) (hu : PO X hi th) : PE X (.Subscript e (.Slice lo hi none p2) pos) (tSl r te tl th):=by
  refine ⟨?_⟩
  intro pins s σ H Q I h
  refine Subscript_ (thn (he pins s σ H _ I h) fun v s1 ⟨x,H1,I1,r1,q1⟩=>?_)
  refine wpAny_Slice (thn (hl pins s1 σ H1 _ I1 q1) fun vl s2 ⟨l,H2,I2,pl,q2⟩=>thn (hu pins s2 σ H2 _ I2 q2) fun vu s3 ⟨u,H3,I3,pu,q3⟩=>?_)
  rw [evalPart_none]
  refine wpAny_pure ?_
  have I4 : Inv X pins σ H3 { s3 with heap:=s3.heap.push { cls:=.type "slice",data:=.fields #[vl,vu,.none] } }:=I3.kept (t':=s3.toks) fun b ob q=>Heap.get?_push_of_some _ q
  obtain ⟨T,id,hT,ht,hg⟩:=hr pins { s3 with heap:=s3.heap.push { cls:=.type "slice",data:=.fields #[vl,vu,.none] } } σ H3 x v vl vu l u s3.heap.objs.size Q I4 r1 (Heap.IsSliceOf.new ..) pl pu q3
  show wpAny (model X.prog X.w) X.A (subscriptTail e (.Slice lo hi none p2) v (.ref s3.heap.objs.size)) (EP X pins σ Q) X.xe { s3 with heap:=s3.heap.push { cls:=.type "slice",data:=.fields #[vl,vu,.none] } }
  exact tail_any (ops:=[.ref s3.heap.objs.size,v]) ht hT hg (by with_unfolding_all rfl)
def cutV (xs : List V) (lo hi : Option Int) : List V:=(xs.drop (HT.sIx xs.length 0 lo)).take (HT.sIx xs.length xs.length hi - HT.sIx xs.length 0 lo)
theorem cutV_length (xs : List V) (lo hi : Option Int) : (cutV xs lo hi).length≤xs.length:=by
  unfold cutV
  rw [List.length_take,List.length_drop]
  omega
def rSlT (K : PySem.W.Frag) : V→Option Int→Option Int→Hp→VK→Prop:=fun x lo hi H Q=>∃ a xs,x = .ref a∧SqT K H a xs∧
  ¬ (HT.sIx xs.length 0 lo=0∧HT.sIx xs.length xs.length hi=xs.length)∧∀ p,H p=none→Q (.ref p) (upd H p (.tup (cutV xs lo hi)))
theorem sl_tup : SlR X (rSlT X.K):=by
  intro pins s σ H x v vl vu lo hi sl Q I rx hs pl pu h
  obtain ⟨a,xs,rfl,hx,hw,q⟩:=h
  cases rx
  obtain ⟨its,r,ht,hz⟩:=I.tuple hx
  have hlen : its.toArray.size=xs.length:=by rw [List.size_toArray]; exact r.length.symm
  refine ⟨"tuple",_,PyProof.Rows.slot_tuple_getitem.lookup,ht.typeIs,?_⟩
  refine HT.getItem_tuple_cut ht hs pl pu (by rw [hlen]; exact hw) ?_ (by rw [hlen]; exact hz)
  rw [hlen]
  refine ⟨.ref s.heap.objs.size,_,I.laid (t':=s.toks) (o:=.tup (cutV xs lo hi)) (fun b ob q=>Heap.get?_push_of_some _ q) (Nat.le_refl _) ?_,rfl,q _ (I.hok.fresh (Nat.le_refl _))⟩
  exact ⟨Nat.le_trans (cutV_length xs lo hi) hz,_,(r.drop (HT.sIx xs.length 0 lo)).take (HT.sIx xs.length xs.length hi - HT.sIx xs.length 0 lo),IsTup.new _ _⟩
def rCatT (K : PySem.W.Frag) : R2:=fun x y H Q=>∃ a b xs ys,x = .ref a∧y = .ref b∧SqT K H a xs∧SqT K H b ys∧xs≠[]∧xs.length + ys.length≤sizeLine∧
  (ys=[]→Q (.ref a) H)∧(ys≠[]→∀ p,H p=none→Q (.ref p) (upd H p (.tup (xs ++ ys))))
theorem Vals.nil_iff {xs : List V} {us : List Value} (r : Vals xs us) : us=[]↔xs=[]:=by
  cases r with
  | nil=>simp
  | cons _ _=>simp
theorem op_catT : OpR X (binaryOp .Add) (rCatT X.K):=by
  intro pins s σ H x y v u Q I rx ry h
  obtain ⟨a,b,xs,ys,rfl,rfl,ha,hb,hx,hz,q1,q2⟩:=h
  cases rx
  cases ry
  obtain ⟨its,r1,p1,_⟩:=I.tuple ha
  obtain ⟨its2,r2,p2,_⟩:=I.tuple hb
  refine HT.cat_tup p1 p2 (fun z=>hx (r1.nil_iff.mp z)) (fun z=>⟨.ref a,H,I,rfl,q1 (r2.nil_iff.mp z)⟩) (fun z=>?_) (by rw [← r1.length,← r2.length]; exact hz)
  refine ⟨.ref s.heap.objs.size,_,I.laid (t':=s.toks) (o:=.tup (xs ++ ys)) (fun b ob q=>Heap.get?_push_of_some _ q) (Nat.le_refl _) ?_,rfl,q2 (fun w=>z (r2.nil_iff.mpr w)) _ (I.hok.fresh (Nat.le_refl _))⟩
  exact ⟨by rw [List.length_append]; exact hz,_,r1.append r2,IsTup.new _ _⟩
end
end L2
namespace L2
open PySem PySem.Spec PyProof.Rows
def ixN (n : Nat) (i : Int) : Option Nat:=if 0≤i then (if i < n then some i.toNat else none) else if -(n : Int)≤i then some (i + n).toNat else none
def atI {α : Type} (xs : List α) (i : Int) : Option α:=(ixN xs.length i).bind fun j=>xs[j]?
theorem ixN_seq {n : Nat} {i : Int} {j : Nat} (h : ixN n i=some j) : seqIndex? i n=some j∧j < n∧-(n : Int)≤i∧i < n:=by
  unfold ixN at h
  by_cases h0 : 0≤i
  · rw [if_pos h0] at h
    by_cases h1 : i < n
    · rw [if_pos h1] at h
      have e : i.toNat=j:=Option.some.inj h
      exact ⟨by rw [seqIndex_of h0 h1,e],by omega,by omega,h1⟩
    · rw [if_neg h1] at h; cases h
  · rw [if_neg h0] at h
    by_cases h1 : -(n : Int)≤i
    · rw [if_pos h1] at h
      have e : (i + n).toNat=j:=Option.some.inj h
      exact ⟨by rw [seqIndex_neg (by omega) h1,e],by omega,h1,by omega⟩
    · rw [if_neg h1] at h; cases h
theorem atI_get {α : Type} {xs : List α} {i : Int} {v : α} (h : atI xs i=some v) : ∃ j,seqIndex? i xs.length=some j∧xs[j]? = some v∧j < xs.length∧-(xs.length : Int)≤i∧i < xs.length:=by
  unfold atI at h
  cases e : ixN xs.length i with
  | none=>rw [e] at h; cases h
  | some j=>
    rw [e] at h
    obtain ⟨h1,h2,h3,h4⟩:=ixN_seq e
    exact ⟨j,h1,h,h2,h3,h4⟩
theorem atI_nat {α : Type} {xs : List α} {j : Nat} {v : α} (h : xs[j]? = some v) : atI xs (j : Int)=some v:=by
  have hj : j < xs.length:=(List.getElem?_eq_some_iff.mp h).1
  have e : ixN xs.length (j : Int)=some j:=by
    unfold ixN
    rw [if_pos (by omega),if_pos (by omega)]; simp
  unfold atI; rw [e]; exact h
def PlainIx (b : Expr) : Prop:=∀ o i,subscripted b false o i=operate [o,i] (getItem o i)
def IxR (X : Cx) (r : R2) : Prop:=
  ∀ (value slice : Expr) (pins : List (Addr×Obj)) (s : Shared) (σ : St) (H : Hp) (x y : V) (v u : Value) (Q : VK),Inv X pins σ H s→RelV x v→RelV y u→r x y H Q→
    subscripted slice false v u=operate [v,u] (getItem v u)→wpAny (model X.prog X.w) X.A (subscriptTail value slice v u) (EP X pins σ Q) X.xe s
def MtR (X : Cx) (id : String) (r : V→List V→Hp→VK→Prop) : Prop:=
  ∀ (pins : List (Addr×Obj)) (s : Shared) (σ : St) (H : Hp) (x : V) (xs : List V) (v : Value) (us : List Value) (Q : VK),Inv X pins σ H s→RelV x v→Vals xs us→r x xs H Q→
    wpAny (model X.prog X.w) X.A (call (.builtin id) (v :: us)) (EP X pins σ Q) X.xe s
section
variable {X : Cx} {a b : Expr} {ta tb : TE} {pos : Pos}
theorem pe_ix {r : R2} (hr : IxR X r) (ha : PE X a ta) (hb : PE X b tb) (hs : PlainIx b) : PE X (.Subscript a b pos) (tOp r ta tb):=by
  refine ⟨?_⟩
  intro pins s σ H Q I h
  exact Subscript_ (binT ha hb I h fun v u s2 x y H2 I2 rx ry q=>hr a b pins s2 σ H2 x y v u Q I2 rx ry q (hs _ _))
def rIxL (K : PySem.W.Frag) : R2:=fun x y H Q=>∃ p xs i v,x = .ref p∧y = .int i∧SqL K H p xs∧atI xs i=some v∧Q v H
def rIxT (K : PySem.W.Frag) : R2:=fun x y H Q=>∃ p xs i v,x = .ref p∧y = .int i∧SqT K H p xs∧atI xs i=some v∧Q v H
def rIxS : R2:=fun x y H Q=>∃ z i c,x = .str z∧y = .int i∧z.length≤sizeLine∧atI z.cps.toList i=some c∧Q (.str ⟨#[c]⟩) H
theorem ix_list : IxR X (rIxL X.K):=by
  intro value slice pins s σ H x y v u Q I rx ry h hs
  obtain ⟨p,xs,i,z,rfl,rfl,hq,he,q⟩:=h
  cases rx
  obtain ⟨t,rfl⟩:=ry
  obtain ⟨its,r,pl,hz⟩:=I.list hq
  obtain ⟨j,h1,h2,h3,h4,h5⟩:=atI_get he
  obtain ⟨w,ew,rw'⟩:=r.get h2
  have hl:=r.length
  have hn:=line63
  have fin : EP X pins σ Q w s:=⟨z,H,I,rw',q⟩
  by_cases h0 : 0≤i
  · have hj : i.toNat=j:=by
      rw [seqIndex_of h0 h5] at h1
      exact Option.some.inj h1
    exact item_listR pl.isList h0 (by omega) (by rw [hj]; simpa using ew) fin hs
  · have hj : (i + (its.toArray.size : Int)).toNat=j:=by
      rw [seqIndex_neg (by omega) h4] at h1
      rw [List.size_toArray,← hl]
      exact Option.some.inj h1
    exact subscriptTail_builtinR (x:=w) pl.isList.typeIs slot_list_getitem.lookup
      (wpAny_getItem_list_neg (Q:=fun r s'=>r=w∧EP X pins σ Q r s') pl.isList (by omega) (by rw [List.size_toArray] <;> omega) (by omega) (by rw [hj]; simpa using ew) ⟨rfl,fin⟩) hs
theorem ix_tup : IxR X (rIxT X.K):=by
  intro value slice pins s σ H x y v u Q I rx ry h hs
  obtain ⟨p,xs,i,z,rfl,rfl,hq,he,q⟩:=h
  cases rx
  obtain ⟨t,rfl⟩:=ry
  obtain ⟨its,r,pl,hz⟩:=I.tuple hq
  obtain ⟨j,h1,h2,h3,h4,h5⟩:=atI_get he
  obtain ⟨w,ew,rw'⟩:=r.get h2
  have hl:=r.length
  have hn:=line63
  have fin : EP X pins σ Q w s:=⟨z,H,I,rw',q⟩
  exact subscriptTail_builtinR (x:=w) pl.typeIs slot_tuple_getitem.lookup
    (getItem_tuple (j:=j) (Q:=fun r s'=>r=w∧EP X pins σ Q r s') pl (by omega) (by omega) (by rw [List.size_toArray,← hl]; exact h1) (by simpa using ew) ⟨rfl,fin⟩) hs
theorem ix_str : IxR X rIxS:=by
  intro value slice pins s σ H x y v u Q I rx ry h hs
  obtain ⟨z,i,c,rfl,rfl,hz,he,q⟩:=h
  obtain ⟨t,rfl⟩:=rx
  obtain ⟨t',rfl⟩:=ry
  obtain ⟨j,h1,h2,h3,h4,h5⟩:=atI_get he
  have hl : z.cps.toList.length=z.length:=by simp [Str.length]
  rw [hl] at h1 h4 h5
  have hn:=line63
  exact tail_any (typeIs_str s z t) slot_str_getitem.lookup (getItem_str (c:=c) (by
    have e1 : decide (i < -(2 ^ 63 : Int))=false:=decide_eq_false (by omega)
    have e2 : decide (i ≥ 2 ^ 63)=false:=decide_eq_false (by omega)
    rw [e1,e2,Bool.or_false]) (by rw [h1]; simpa using h2) ⟨.str ⟨#[c]⟩,H,I.tok _,⟨_,rfl⟩,q⟩) hs
theorem mapSeq_set (its : List Value) (n j : Nat) (u : Value) : Obj.mapSeq (·.setIfInBounds j u) { cls:=.type "list",data:=.seq its.toArray n } = { cls:=.type "list",data:=.seq (its.set j u).toArray n }:=by
  simp [Obj.mapSeq]
theorem Inv.lst {pins : List (Addr×Obj)} {σ : St} {H : Hp} {s : Shared} {p : Addr} {xs : List V} (I : Inv X pins σ H s) (h : H p=some (.lst xs)) :
    ∃ (its : List Value) (n : Nat),Vals xs its∧s.heap.get? p=some { cls:=.type "list",data:=.seq its.toArray n }∧xs.length≤sizeLine:=by
  obtain ⟨z,its,n,r,e⟩:=I.hok p _ h
  exact ⟨its,n,r,e,z⟩
theorem Inv.lstUpd {pins : List (Addr×Obj)} {σ : St} {H : Hp} {s : Shared} {p : Addr} {xs ys : List V} {its its' : List Value} {n n' : Nat} {f : Obj→Obj} (I : Inv X pins σ H s) (h : H p=some (.lst xs))
    (ho : s.heap.get? p=some { cls:=.type "list",data:=.seq its.toArray n }) (hf : f { cls:=.type "list",data:=.seq its.toArray n } = { cls:=.type "list",data:=.seq its'.toArray n' }) (r : Vals ys its') (hz : ys.length≤sizeLine) (t : Nat) :
    Inv X pins σ (upd H p (.lst ys)) { s with heap:=s.heap.update p f,toks:=t }:=by
  have e : (s.heap.update p f).get? p=some { cls:=.type "list",data:=.seq its'.toArray n' }:=by
    rw [Heap.get?_update_self f ho (by rw [hf] <;> rfl),hf]
  refine I.write (x:=p) (e:=p) (by rw [h]; trivial) (.inl rfl) (fun b u hb q=>(Heap.get?_update_other _ _ (Ne.symm hb)).trans q) ⟨_,e⟩ ?_
  exact ⟨hz,its',n',r,e⟩
def rSetL : V→V→V→Hp→(Hp→Prop)→Prop:=fun o i v H Q=>∃ p xs k j,o = .ref p∧i = .int k∧H p=some (.lst xs)∧ixN xs.length k=some j∧Q (upd H p (.lst (xs.set j v)))
theorem set_list : PSet X rSetL:=by
  intro pins s σ H o i v ov iv u Q I ro ri rv h
  obtain ⟨p,xs,k,j,rfl,rfl,hp,hj,q⟩:=h
  cases ro
  obtain ⟨t,rfl⟩:=ri
  obtain ⟨its,n,r,ho,hz⟩:=I.lst hp
  obtain ⟨h1,h2,h3,h4⟩:=ixN_seq hj
  have hl:=r.length
  have hn:=line63
  have I' : Inv X pins σ (upd H p (.lst (xs.set j v))) { s with heap:=s.heap.update p (Obj.mapSeq (·.setIfInBounds j u)) }:=
    I.lstUpd hp ho (mapSeq_set its n j u) (r.set rv j) (by rw [List.length_set]; exact hz) s.toks
  by_cases h0 : 0≤k
  · have hk : k.toNat=j:=by
      rw [seqIndex_of h0 h4] at h1
      exact Option.some.inj h1
    exact PySem.W.ki_setAt ho h0 (by omega) (by rw [List.size_toArray,← hl]; exact h4) (by rw [hk]; exact ⟨_,I',q⟩)
  · have hk : (k + (its.toArray.size : Int)).toNat=j:=by
      rw [seqIndex_neg (by omega) h3] at h1
      rw [List.size_toArray,← hl]
      exact Option.some.inj h1
    exact PySem.W.ki_setBack ho (by omega) (by rw [List.size_toArray,← hl]; exact h3) (by omega) (by rw [hk]; exact ⟨_,I',q⟩)
theorem slice_bounds (lo hi : Option Int) (n : Nat) : (sliceBounds lo hi none n).1=((HT.sIx n 0 lo : Nat) : Int)∧(sliceBounds lo hi none n).2.1=((HT.sIx n n hi : Nat) : Int)∧(sliceBounds lo hi none n).2.2=1:=by
  refine ⟨?_,?_,rfl⟩
  · cases lo with
    | none=>simp [sliceBounds,HT.sIx]
    | some i=>
      simp only [sliceBounds,HT.sIx,Option.getD_none,show (1 : Int) > 0 by decide,if_true]
      by_cases h : i < 0
      · simp only [h,if_true] <;> omega
      · simp only [h,if_false] <;> omega
  · cases hi with
    | none=>simp [sliceBounds,HT.sIx]
    | some i=>
      simp only [sliceBounds,HT.sIx,Option.getD_none,show (1 : Int) > 0 by decide,if_true]
      by_cases h : i < 0
      · simp only [h,if_true] <;> omega
      · simp only [h,if_false] <;> omega
theorem slicePick_cut (its : List Value) (lo hi : Option Int) : slicePick its.toArray lo hi none=((its.drop (HT.sIx its.length 0 lo)).take (HT.sIx its.length its.length hi - HT.sIx its.length 0 lo)).toArray:=by
  obtain ⟨h1,h2,h3⟩:=slice_bounds lo hi its.toArray.size
  unfold slicePick
  rw [h1,h2,h3]
  simp only [sliceRange_one,pick_run,List.size_toArray] <;> rfl
def rSlL (K : PySem.W.Frag) : V→Option Int→Option Int→Hp→VK→Prop:=fun x lo hi H Q=>∃ a xs,x = .ref a∧SqL K H a xs∧∀ p,H p=none→Q (.ref p) (upd H p (.lst (cutV xs lo hi)))
theorem sl_list : SlR X (rSlL X.K):=by
  intro pins s σ H x v vl vu lo hi sl Q I rx hs pl pu h
  obtain ⟨a,xs,rfl,hx,q⟩:=h
  cases rx
  obtain ⟨its,r,ht,hz⟩:=I.list hx
  have hlen:=r.length
  refine ⟨"list",_,slot_list_getitem.lookup,ht.isList.typeIs,?_⟩
  refine wpAny_getItem_list_slice ht.isList hs pl pu .none (by simp) ?_ (by rw [List.size_toArray] <;> omega)
  rw [slicePick_cut,← hlen]
  refine ⟨.ref s.heap.objs.size,_,I.laid (t':=s.toks) (o:=.lst (cutV xs lo hi)) (fun b ob q=>Heap.get?_push_of_some _ q) (Nat.le_refl _) ?_,rfl,q _ (I.hok.fresh (Nat.le_refl _))⟩
  exact ⟨Nat.le_trans (cutV_length xs lo hi) hz,_,0,(r.drop (HT.sIx xs.length 0 lo)).take (HT.sIx xs.length xs.length hi - HT.sIx xs.length 0 lo),Heap.get?_push_size _ rfl⟩
def flatV : V→Bool
  | .non=>true
  | .bl _=>true
  | .int _=>true
  | .str _=>true
  | _=>false
def eqV : V→V→Bool
  | .non,.non=>true
  | .bl a,.bl b=>a == b
  | .bl a,.int b=>(if a then 1 else 0) == b
  | .int a,.bl b=>a == (if b then 1 else 0)
  | .int a,.int b=>a == b
  | .str a,.str b=>a == b
  | _,_=>false
theorem eqAt_V {A : Around} {s : Shared} {y x : V} {u v : Value} (ry : RelV y u) (rx : RelV x v) (fy : flatV y=true) (fx : flatV x=true) : SeqAt.EqAt A s u v (eqV y x):=by
  cases y with
  | non=>
    cases ry
    cases x with
    | non=>cases rx; exact SeqAt.EqAt.same _
    | bl b=>cases rx; exact SeqAt.EqAt.none_bool b
    | int b=>obtain ⟨t,rfl⟩:=rx; exact SeqAt.EqAt.none_int b t
    | str b=>obtain ⟨t,rfl⟩:=rx; exact SeqAt.EqAt.none_str b t
    | _=>exact absurd (show false=true from fx) Bool.false_ne_true
  | bl a=>
    cases ry
    cases x with
    | non=>cases rx; exact SeqAt.EqAt.bool_none a
    | bl b=>cases rx; exact SeqAt.EqAt.bool_bool a b
    | int b=>obtain ⟨t,rfl⟩:=rx; exact SeqAt.EqAt.bool_int a b t
    | str b=>obtain ⟨t,rfl⟩:=rx; exact SeqAt.EqAt.bool_str a b t
    | _=>exact absurd (show false=true from fx) Bool.false_ne_true
  | int a=>
    obtain ⟨t',rfl⟩:=ry
    cases x with
    | non=>cases rx; exact SeqAt.EqAt.int_none a t'
    | bl b=>cases rx; exact SeqAt.EqAt.int_bool a t' b
    | int b=>obtain ⟨t,rfl⟩:=rx; exact SeqAt.EqAt.int_int a t' b t
    | str b=>obtain ⟨t,rfl⟩:=rx; exact SeqAt.EqAt.int_str a t' b t
    | _=>exact absurd (show false=true from fx) Bool.false_ne_true
  | str a=>
    obtain ⟨t',rfl⟩:=ry
    cases x with
    | non=>cases rx; exact SeqAt.EqAt.str_none a t'
    | bl b=>cases rx; exact SeqAt.EqAt.str_bool a t' b
    | int b=>obtain ⟨t,rfl⟩:=rx; exact SeqAt.EqAt.str_int a t' b t
    | str b=>obtain ⟨t,rfl⟩:=rx; exact SeqAt.EqAt.str_str a t' b t
    | _=>exact absurd (show false=true from fx) Bool.false_ne_true
  | _=>exact absurd (show false=true from fy) Bool.false_ne_true
def eqU (x : V) (u : Value) : Bool:=match u with
  | .none=>eqV .non x
  | .bool b=>eqV (.bl b) x
  | .int i _=>eqV (.int i) x
  | .str z _=>eqV (.str z) x
  | _=>false
theorem eqU_of {x y : V} {u : Value} (r : RelV y u) (f : flatV y=true) : eqU x u=eqV y x:=by
  cases y with
  | non=>cases r; rfl
  | bl b=>cases r; rfl
  | int i=>obtain ⟨t,rfl⟩:=r; rfl
  | str z=>obtain ⟨t,rfl⟩:=r; rfl
  | _=>exact absurd (show false=true from f) Bool.false_ne_true
theorem any_eqU {x : V} : ∀ {xs : List V} {us : List Value},Vals xs us→xs.all flatV=true→us.any (eqU x)=xs.any fun y=>eqV y x
  | _,_,.nil,_=>rfl
  | y :: xs,u :: us,.cons r t,f=>by
    rw [List.all_cons,Bool.and_eq_true] at f
    rw [List.any_cons,List.any_cons,eqU_of r f.1,any_eqU t f.2]
theorem mem_eqAt {A : Around} {s : Shared} {x : V} {v : Value} (rx : RelV x v) (fx : flatV x=true) : ∀ {xs : List V} {us : List Value},Vals xs us→xs.all flatV=true→∀ u∈us,SeqAt.EqAt A s u v (eqU x u)
  | _,_,.nil,_=>fun u hu=>by cases hu
  | y :: xs,u :: us,.cons r t,f=>fun u' hu=>by
    rw [List.all_cons,Bool.and_eq_true] at f
    rcases List.mem_cons.mp hu with rfl | hu
    · rw [eqU_of r f.1]; exact eqAt_V r rx f.1 fx
    · exact mem_eqAt rx fx t f.2 u' hu
def inV (x : V) (xs : List V) : Bool:=xs.any fun y=>eqV y x
def rIn (K : PySem.W.Frag) (neg : Bool) : R2:=fun x y H Q=>∃ p xs,y = .ref p∧(SqL K H p xs∨SqT K H p xs)∧flatV x=true∧xs.all flatV=true∧Q (.bl (if neg then !inV x xs else inV x xs)) H
theorem op_in_seq : OpR X (compareOp .In) (rIn X.K false):=by
  intro pins s σ H x y v u Q I rx ry h
  obtain ⟨p,xs,rfl,hq,fx,fs,q⟩:=h
  cases ry
  rcases hq with hq | hq
  · obtain ⟨its,r,pl,hz⟩:=I.list hq
    refine SeqAt.in_listAt (eqU x) pl.isList (fun w hw=>mem_eqAt rx fx r fs w (by simpa using hw)) ⟨.bl _,H,I,rfl,?_⟩
    rw [show its.toArray.any (eqU x)=its.any (eqU x) by simp,any_eqU r fs]
    exact q
  · obtain ⟨its,r,pl,hz⟩:=I.tuple hq
    refine SeqAt.in_tupleAt (eqU x) pl (fun w hw=>mem_eqAt rx fx r fs w (by simpa using hw)) ⟨.bl _,H,I,rfl,?_⟩
    rw [show its.toArray.any (eqU x)=its.any (eqU x) by simp,any_eqU r fs]
    exact q
theorem op_notIn_str : OpR X (compareOp .NotIn) (fun x y H Q=>∃ i j,x = .str i∧y = .str j∧Q (.bl (!(!(Builtin.Str.occurrences j i 0 j.length 1).isEmpty))) H):=by
  intro pins s σ H x y v u Q I rx ry h
  obtain ⟨i,j,rfl,rfl,q⟩:=h
  obtain ⟨t,rfl⟩:=rx
  obtain ⟨t',rfl⟩:=ry
  exact notIn_str ⟨.bl _,H,I,rfl,q⟩
theorem call_len_seq : CallR X (.builtin "len") (fun xs H Q=>∃ p ys,xs=[.ref p]∧(SqL X.K H p ys∨SqT X.K H p ys)∧Q (.int ys.length) H):=by
  intro pins s σ H xs us Q I r h
  obtain ⟨p,ys,rfl,hq,q⟩:=h
  obtain ⟨u,rfl,rx⟩:=vals1 r
  cases rx
  have hn:=line63
  rcases hq with hq | hq
  · obtain ⟨its,r',pl,hz⟩:=I.list hq
    have hlen:=r'.length
    exact Calls.call_len_list pl.isList (by simp only [List.size_toArray] <;> omega) ⟨.int ys.length,H,I.tok _,⟨s.toks + 1,by rw [List.size_toArray,hlen]⟩,q⟩
  · obtain ⟨its,r',pl,hz⟩:=I.tuple hq
    have hlen:=r'.length
    exact len_tuple pl (by simp only [List.size_toArray] <;> omega) ⟨.int ys.length,H,I.tok _,⟨s.toks + 1,by rw [List.size_toArray,hlen]⟩,q⟩
theorem call_len_str : CallR X (.builtin "len") (fun xs H Q=>∃ z,xs=[.str z]∧z.length≤sizeLine∧Q (.int z.length) H):=by
  intro pins s σ H xs us Q I r h
  obtain ⟨z,rfl,hz,q⟩:=h
  obtain ⟨u,rfl,t,rfl⟩:=vals1 r
  have hn:=line63
  exact len_str (by omega) ⟨.int z.length,H,I.tok _,⟨_,rfl⟩,q⟩
theorem call_list_of : CallR X (.type "list") (fun xs H Q=>∃ p ys,xs=[.ref p]∧(SqL X.K H p ys∨SqT X.K H p ys)∧∀ l,H l=none→Q (.ref l) (upd H l (.lst ys))):=by
  intro pins s σ H xs us Q I r h
  obtain ⟨p,ys,rfl,hq,q⟩:=h
  obtain ⟨u,rfl,rx⟩:=vals1 r
  cases rx
  have fin : ∀ (its : List Value),Vals ys its→ys.length≤sizeLine→∀ (h' : Heap) (c' : Nat),(∀ b o',s.heap.get? b=some o'→h'.get? b=some o')→
      h'.get? s.heap.objs.size=some { cls:=.type "list",dict:=none,data:=.seq its.toArray c',slots:=#[] }→EP X pins σ Q (.ref s.heap.objs.size) { s with heap:=h' }:=fun its r' hz h' c' kp e =>
    ⟨.ref s.heap.objs.size,_,I.laid (t':=s.toks) kp (Nat.le_refl _) (show ObjOk X.prog X.w _ h' _ (.lst ys) from ⟨hz,its,c',r',e⟩),rfl,q _ (I.hok.fresh (Nat.le_refl _))⟩
  rcases hq with hq | hq
  · obtain ⟨its,r',pl,hz⟩:=I.list hq
    have hlen:=r'.length
    obtain ⟨o,ho,hc,n,hd⟩:=pl.isList
    exact call_list_seq p (.inl rfl) ho hc hd (fun h' c' kp e=>fin its r' hz h' c' kp e) (by simp only [List.size_toArray] <;> omega)
  · obtain ⟨its,r',pl,hz⟩:=I.tuple hq
    have hlen:=r'.length
    obtain ⟨o,ho,hc,n,hd⟩:=pl
    exact call_list_seq p (.inr rfl) ho hc hd (fun h' c' kp e=>fin its r' hz h' c' kp e) (by simp only [List.size_toArray] <;> omega)
theorem call_tuple_of : CallR X (.type "tuple") (fun xs H Q=>∃ p ys,xs=[.ref p]∧((SqL X.K H p ys∧∀ l,H l=none→Q (.ref l) (upd H l (.tup ys)))∨(SqT X.K H p ys∧Q (.ref p) H))):=by
  intro pins s σ H xs us Q I r h
  obtain ⟨p,ys,rfl,h⟩:=h
  obtain ⟨u,rfl,rx⟩:=vals1 r
  cases rx
  rcases h with ⟨hq,q⟩ | ⟨hq,q⟩
  · obtain ⟨its,r',pl,hz⟩:=I.list hq
    have hlen:=r'.length
    refine call_tuple_list pl.isList (fun h' kp=>?_) (by simp only [List.size_toArray] <;> omega)
    have I1 : Inv X pins σ H { s with heap:=h' }:=I.kept (t':=s.toks) kp
    have I2 : Inv X pins σ (upd H h'.objs.size (.tup ys)) { s with heap:=h'.push { cls:=.type "tuple",data:=.seq its.toArray } } :=
      I1.laid (t':=s.toks) (fun b o e=>Heap.get?_push_of_some _ e) (Nat.le_refl _) (show ObjOk X.prog X.w _ _ _ (.tup ys) from ⟨hz,its,r',IsTup.new _ _⟩)
    exact ⟨.ref h'.objs.size,_,I2,rfl,q _ (I1.hok.fresh (Nat.le_refl _))⟩
  · obtain ⟨its,r',pl,hz⟩:=I.tuple hq
    exact call_tuple_same pl ⟨.ref p,H,I,rfl,q⟩
def tyV (K : PySem.W.Frag) (T : String) (x : V) (H : Hp) : Prop:=match x with
  | .str _=>T = "str"
  | .int _=>T = "int"
  | .ref p=>(T = "list" ∧ ∃ xs,SqL K H p xs)∨(T = "tuple" ∧ ∃ o,K.lookup p=some o∧o.cls = .type "tuple" ∧ o.dict=none) ∨
      (T = "dict" ∧ ((∃ kvs,H p=some (.dK kvs))∨∃ kvs,H p=some (.dT kvs)))∨(T = "set" ∧ ∃ S n,H p=some (.set S n))
  | _=>False
theorem tyV_is {pins : List (Addr×Obj)} {σ : St} {H : Hp} {s : Shared} {T : String} {x : V} {v : Value} (I : Inv X pins σ H s) (r : RelV x v) (ty : tyV X.K T x H) :
    s.TypeIs v T∧∀ a,v = .ref a→∃ ob,s.heap.get? a=some ob∧ob.dict=none:=by
  cases x with
  | str z=>
    obtain ⟨t,rfl⟩:=r
    cases (show T = "str" from ty)
    exact ⟨typeIs_str s z t,fun _ e=>nomatch e⟩
  | int i=>
    obtain ⟨t,rfl⟩:=r
    cases (show T = "int" from ty)
    exact ⟨typeIs_int s i t,fun _ e=>nomatch e⟩
  | ref p=>
    cases r
    rcases ty with ⟨rfl,xs,hq⟩ | ⟨rfl,o,hk,hc,hd⟩ | ⟨rfl,hk⟩ | ⟨rfl,S,n,hk⟩
    · obtain ⟨its,_,pl,_⟩:=I.list hq
      refine ⟨pl.isList.typeIs,fun a e=>?_⟩
      cases e
      obtain ⟨o,n,e,c,hd,_⟩:=pl
      exact ⟨o,e,hd⟩
    · refine ⟨⟨o,I.kIn p o hk,hc⟩,fun a e=>?_⟩
      cases e
      exact ⟨o,I.kIn _ o hk,hd⟩
    · have z : ∃ o,s.heap.get? p=some o∧o.ExactDict:=by
        rcases hk with ⟨kvs,hk⟩ | ⟨kvs,hk⟩
        · obtain ⟨_,_,_,_,o,_,_,e,ex,_⟩:=I.hok p _ hk
          exact ⟨o,e,ex⟩
        · obtain ⟨_,_,_,_,o,_,_,e,ex,_⟩:=I.hok p _ hk
          exact ⟨o,e,ex⟩
      obtain ⟨o,e,ex⟩:=z
      refine ⟨⟨o,e,ex.1⟩,fun a e2=>?_⟩
      cases e2
      exact ⟨o,e,ex.2.1⟩
    · obtain ⟨o,_,_,_,e,ex,_⟩:=I.hok p _ hk
      refine ⟨⟨o,e,ex.1⟩,fun a e2=>?_⟩
      cases e2
      exact ⟨o,e,ex.2.1⟩
  | _=>exact False.elim ty
def tBM0 (K : PySem.W.Frag) (T : String) (r : V→List V→Hp→VK→Prop) (to : TE) : TE:=fun σ H Q=>to σ H fun x H1=>tyV K T x H1∧r x [] H1 Q
def tBM (K : PySem.W.Frag) (T : String) (r : V→List V→Hp→VK→Prop) (to : TE) (t : TA) : TE:=fun σ H Q=>to σ H fun x H1=>tyV K T x H1∧t σ H1 fun xs H2=>r x xs H2 Q
variable {o e : Expr} {es : List Expr} {to : TE} {t : TA} {name : Str} {apos cpos : Pos} {T id : String} {r : V→List V→Hp→VK→Prop}
theorem pe_bm0 (pa : PlainAttrs T) (slot : Slot T name id) (hty : typeOf (.builtin id)=pure (.type "method_descriptor")) (hm : MtR X id r) (ho : PE X o to)
    (hbase : attributeBase o name X.env (eval o X.env)=eval o X.env:=by rfl) (hline : (apos.endLine == cpos.line)=true:=by rfl) : PE X (.Call (.Attribute o name apos) [] [] cpos) (tBM0 X.K T r to):=by
  refine ⟨?_⟩
  intro pins s σ H Q I h
  refine wpAny_Call_method0_late hbase hline (thn (ho pins s σ H _ I h) fun v s1 ⟨x,H1,I1,r1,ty,q1⟩=>?_)
  obtain ⟨h1,h2⟩:=tyV_is I1 r1 ty
  exact ⟨T,id,pa,slot,hty,h1,h2,Calls.callWith_builtin rfl (PySem.evalArgs_none (hm pins s1 σ H1 x [] v [] Q I1 r1 .nil q1))⟩
theorem pe_bm (pa : PlainAttrs T) (slot : Slot T name id) (hty : typeOf (.builtin id)=pure (.type "method_descriptor")) (hm : MtR X id r) (ho : PE X o to) (ha : PA X (e :: es) t)
    (hbase : attributeBase o name X.env (eval o X.env)=eval o X.env:=by rfl)
    (hfew : ((backTo cpos (starEach (e :: es) X.env)).all (fun x=>!x.1) && (backToKw cpos (keywordEach [] X.env)).all (fun x=>x.1.isSome)
      && decide ((e :: es).length + ([] : List Keyword).length + (if ([] : List Keyword).isEmpty then 0 else 1) < 30))=true:=by rfl)
    (hline : (apos.endLine == cpos.line)=true:=by rfl) (hs : starEach (e :: es) X.env=(false,eval e X.env) :: starEach es X.env:=by rfl) (hplain : (backTo cpos (starEach es X.env)).any (·.1)=false:=by rfl) :
    PE X (.Call (.Attribute o name apos) (e :: es) [] cpos) (tBM X.K T r to t):=by
  refine ⟨?_⟩
  intro pins s σ H Q I h
  refine wpAny_Call_method_late hbase hfew hline rfl (thn (ho pins s σ H _ I h) fun v s1 ⟨x,H1,I1,r1,ty,q1⟩=>?_)
  obtain ⟨h1,h2⟩:=tyV_is I1 r1 ty
  refine ⟨T,id,pa,slot,hty,h1,h2,?_⟩
  have hA:=ha cpos pins s1 σ H1 _ I1 q1
  rw [hs] at hA ⊢
  refine Calls.callWith_builtin (by show (false || (backTo cpos (starEach es X.env)).any (·.1))=false; rw [hplain] <;> rfl) (Calls.evalArgs_plain ?_)
  exact thn hA fun us s2 ⟨vs,H2,I2,r2,q2⟩=>hm pins s2 σ H2 x vs v us Q I2 r1 r2 q2
end
end L2
namespace L2
open PySem PySem.Spec PyProof.Rows
def MtM (X : Cx) (id : String) (r : V→List V→Hp→VK→Prop) : Prop:=
  ∀ (pins : List (Addr×Obj)) (s : Shared) (σ : St) (H : Hp) (x : V) (xs : List V) (v : Value) (us : List Value) (Q : VK),Inv X pins σ H s→RelV x v→Vals xs us→r x xs H Q→
    wpAny (model X.prog X.w) X.A (call (.builtin id) (v :: us)) (EP X pins σ Q) X.xe s
theorem Vals.one : ∀ {x : V} {us : List Value},Vals [x] us→∃ u,us=[u]∧RelV x u
  | _,_,.cons r .nil=>⟨_,rfl,r⟩
theorem Vals.two : ∀ {x y : V} {us : List Value},Vals [x,y] us→∃ u v,us=[u,v]∧RelV x u∧RelV y v
  | _,_,_,.cons r (.cons q .nil)=>⟨_,_,rfl,r,q⟩
theorem Vals.eraseIdx : ∀ {xs : List V} {us : List Value} (i : Nat),Vals xs us→Vals (xs.eraseIdx i) (us.eraseIdx i)
  | _,_,_,.nil=>.nil
  | _,_,0,.cons _ t=>t
  | _,_,i + 1,.cons r t=>.cons r (Vals.eraseIdx i t)
theorem len_erase {α : Type} : ∀ (l : List α) (i : Nat),(l.eraseIdx i).length≤l.length
  | [],_=>Nat.le_refl _
  | _ :: _,0=>Nat.le_succ _
  | _ :: r,i + 1=>Nat.succ_le_succ (len_erase r i)
section
variable {X : Cx} {pins : List (Addr×Obj)} {σ : St} {H : Hp} {s : Shared} {l b : Addr} {xs ys zs : List V}
theorem Inv.lset {its its' : List Value} {n : Nat} {f : Array Value→Array Value} {t' : Nat} (I : Inv X pins σ H s) (hH : H l=some (.lst xs))
    (e : s.heap.get? l=some { cls:=.type "list",data:=.seq its.toArray n }) (hf : f its.toArray=its'.toArray) (hv : Vals ys its') (hz : ys.length≤sizeLine) :
    Inv X pins σ (upd H l (.lst ys)) { s with heap:=s.heap.update l (Obj.mapSeq f),toks:=t' }:=by
  have q:=PySem.IsL.update e f
  rw [hf] at q
  refine I.write (x:=l) (e:=l) (by rw [hH]; exact trivial) (.inl rfl) (fun b' u hb hu=>(Heap.get?_update_other s.heap (Obj.mapSeq f) (Ne.symm hb)).trans hu) ⟨_,q⟩ ?_
  exact ⟨hz,its',_,hv,q⟩
theorem Inv.lnew {its : List Value} {t' : Nat} (I : Inv X pins σ H s) (hv : Vals ys its) (hz : ys.length≤sizeLine) :
    Inv X pins σ (upd H s.heap.objs.size (.lst ys)) { s with heap:=s.heap.push { cls:=.type "list",data:=.seq its.toArray },toks:=t' } :=
  I.laid (fun _ _ q=>Heap.get?_push_of_some _ q) (Nat.le_refl _) ⟨hz,its,0,hv,Heap.get?_push_size _ rfl⟩
theorem Inv.fresh (I : Inv X pins σ H s) : H s.heap.objs.size=none:=I.hok.fresh (Nat.le_refl _)
theorem Inv.lstM (I : Inv X pins σ H s) (hH : H l=some (.lst xs)) : xs.length≤sizeLine∧∃ (its : List Value) (n : Nat),Vals xs its∧xs.length=its.length∧s.heap.get? l=some { cls:=.type "list",data:=.seq its.toArray n }:=by
  obtain ⟨z,its,n,r,e⟩:=I.hok l _ hH
  exact ⟨z,its,n,r,r.length,e⟩
end
section
variable {X : Cx}
def rAppend : V→List V→Hp→VK→Prop:=fun x vs H Q=>∃ l xs y,x = .ref l∧vs=[y]∧H l=some (.lst xs)∧xs.length < sizeLine∧Q .non (upd H l (.lst (xs ++ [y])))
theorem mt_append : MtM X "list.append" rAppend:=by
  intro pins s σ H x vs v us Q I rx rv h
  obtain ⟨l,xs,y,rfl,rfl,hH,hz,q⟩:=h
  cases rx
  obtain ⟨u,rfl,ru⟩:=rv.one
  obtain ⟨z,its,n,r,hl,e⟩:=I.lstM hH
  refine call_meets F.slot_list_append ⟨_,e,rfl⟩ F.entry_list_append (F.args_list_append_2 _ _) (PySem.list_append l its.toArray n u (by rw [List.size_toArray]; omega)) ⟨e,?_⟩
  refine ⟨.non,_,I.lset (its':=its ++ [u]) hH e (by simp) (r.append (.cons ru .nil)) ?_,rfl,q⟩
  rw [List.length_append,List.length_singleton]
  omega
def rPopAt : V→List V→Hp→VK→Prop:=fun x vs H Q=>∃ l xs i k y,x = .ref l∧vs=[.int i]∧H l=some (.lst xs)∧-(2 ^ 63)≤i∧i < 2 ^ 63∧seqIndex? i xs.length=some k∧xs[k]? = some y∧Q y (upd H l (.lst (xs.eraseIdx k)))
theorem mt_popAt : MtM X "list.pop" rPopAt:=by
  intro pins s σ H x vs v us Q I rx rv h
  obtain ⟨l,xs,i,k,y,rfl,rfl,hH,h1,h2,hk,hy,q⟩:=h
  cases rx
  obtain ⟨u,rfl,ru⟩:=rv.one
  obtain ⟨t,rfl⟩:=ru
  obtain ⟨z,its,n,r,hl,e⟩:=I.lstM hH
  obtain ⟨w,hw,rw'⟩:=r.get hy
  refine call_meets F.slot_list_pop ⟨_,e,rfl⟩ F.entry_list_pop (F.args_list_pop_2 _ _)
    (MeetsSeq.list_pop_at l its.toArray n i t k w (fitsIndex_both h1 h2) (by rw [List.size_toArray,← hl]; exact hk) (by rw [← Array.getElem?_toList]; exact hw) (by rw [List.size_toArray]; omega)) ⟨e,?_⟩
  refine ⟨y,_,I.lset (its':=its.eraseIdx k) hH e ?_ (r.eraseIdx k) ?_,rw',q⟩
  · show its.toArray.eraseIdxIfInBounds k=(its.eraseIdx k).toArray
    rw [List.eraseIdxIfInBounds_toArray]
  · have:=len_erase xs k
    omega
def rCat : R2:=fun x y H Q=>∃ l b xs zs,x = .ref l∧y = .ref b∧H l=some (.lst xs)∧H b=some (.lst zs)∧xs.length + zs.length≤sizeLine∧∀ p,H p=none→Q (.ref p) (upd H p (.lst (xs ++ zs)))
theorem op_cat : OpR X (binaryOp .Add) rCat:=by
  intro pins s σ H x y v u Q I rx ry h
  obtain ⟨l,b,xs,zs,rfl,rfl,hH,hB,hz,q⟩:=h
  cases rx
  cases ry
  obtain ⟨z,its,n,r,hl,e⟩:=I.lstM hH
  obtain ⟨z2,its2,n2,r2,hl2,e2⟩:=I.lstM hB
  refine PySem.P.add_list e e2 ?_ (by rw [List.size_toArray,List.size_toArray]; omega)
  have ea : its.toArray ++ its2.toArray=(its ++ its2).toArray:=by simp
  rw [ea]
  exact ⟨.ref _,_,I.lnew (t':=s.toks) (r.append r2) (by rw [List.length_append]; omega),rfl,q _ I.fresh⟩
end
section
variable {prog : Program} {w : World} {A : Around} {E : Value→Shared→Prop} {s : Shared}
end
section
variable {X : Cx}
end
end L2
namespace Att
open PySem PySem.W PySem.Calls PyProof.Rows
theorem ints_of_wellAll {P : Params} {h : Heap} : ∀ (ns : List Int) (vs : List Value),WellAll P h vs (ns.map WData.int)→IntsAre vs ns:=by
  intro ns
  induction ns with
  | nil=>
    intro vs w
    rw [List.map_nil] at w
    cases w
    exact .nil
  | cons n ns ih=>
    intro vs w
    rw [List.map_cons] at w
    cases w with
    | cons a b=>
      cases a
      exact .cons _ _ (ih _ b)
theorem script_of {l : OpenLaw} {n : Nat} (hn : l.most=some n) {P : Params} {h : Heap} {args : List WData} {vals : List Value}
    (hpre : l.row.toRowW.claim.pre args=true) (hwl : WellAll P h vals args) :
    ∃ a vs ns,vals=[Value.ref a]∧args=[WData.list (ns.map WData.int)]∧h.get? a=some { cls:=.type "list",data:=.seq vs.toArray }∧IntsAre vs ns∧ns.length≤n:=by
  have hsh : WShape.hasAll [] args [.list .int]=true:=(pre_splitW hpre).1
  have hc : l.pre.holds [] { args:=args } = true:=(pre_splitW hpre).2
  obtain ⟨d,r,rfl,h1,h2⟩:=hasAllW_cons hsh
  obtain rfl:=hasAllW_nil h2
  obtain ⟨xs,rfl,h3⟩:=hasW_list h1
  obtain ⟨ns,rfl⟩:=items_int h3
  have hlen : ns.length≤n:=by
    unfold OpenLaw.pre at hc
    have h4 : (WTm.not (.lt (.lit (.int (n : Int))) (.len (.arg 0)))).holds [] { args:=[.list (ns.map .int)] } = true:=by
      have h4:=(holds_andW hc).1
      rw [hn] at h4
      exact h4
    have h5:=condW_of h4 (w_not (w_lt w_lit (w_len_list (w_arg rfl))))
    rw [List.length_map] at h5
    refine Nat.le_of_not_lt fun q=>?_
    have q' : (n : Int) < ((ns.length : Nat) : Int):=by omega
    first
      | (rw [decide_eq_true q'] at h5; exact absurd h5 (by decide))
      | (simp at h5; omega)
  cases hwl with
  | cons w1 w2=>
    cases w2
    cases w1 with
    | list ho hall=>exact ⟨_,_,ns,rfl,rfl,ho,ints_of_wellAll ns _ hall,hlen⟩
theorem post_true (l : OpenLaw) (args : List WData) : l.row.toRowW.claim.post args (.bool true) args=true:=
  postW_of (r:=l.row.toRowW) (X:=(true == true))
    (show WShape.has [] (.bool true) .bool=true by first | rfl | decide | simp [WShape.has,WShape.arms,WShape.armsAll])
    (show (WTm.eq .res (.lit (.bool true))).value [] { args:=args,res:=some (.bool true),after:=args } = some (.bool (true == true)) from w_eq_bool (w_res rfl) w_lit) rfl
theorem attach_call {l : OpenLaw} {n : Nat} {q : Program} {loose : List Str} {XP : (Str→Option Value)→Heap→Prop} {YP : World→Heap→Prop} {d : DefRec}
    (hn : l.most=some n) (hdf : d.params.defaults=[])
    (call : ∀ (w : World) (s₀ s₁ : Shared) (mg mb : Str→Option Value) (fa : Addr) (o : Obj) (pm cd doc : Value) (a : Addr) (vs : List Value) (ns : List Int),
      Ground q loose [] XP w s₀ mg mb s₁.heap→YP w s₁.heap→
      s₁.heap.get? fa=some o→o.data = .func (docDef d.name d.params d.body d.scope pm cd doc)→s₁.heap.CodeRec cd d.name→mg d.name=some (.ref fa)→
      s₁.heap.get? a=some { cls:=.type "list",data:=.seq vs.toArray }→IntsAre vs ns→ns.length≤n→s₁.gens = #[] →
      codeAny (model l.prog w) callerA (.call (.ref fa) ⟨[.ref a],[]⟩) (fun r s'=>r = .ok (.ret (.bool true))∧OldK s₁.heap s'.heap∧s'.os=s₁.os∧AllBare s'.gens) s₁) :
    WalkO q loose XP YP l.row.toRowW d [] (fun f vs=>PySem.call f vs):=by
  intro w s₀ s₁ mg mb G Y fa o pm cd doc dV kV ho hd hcd hD hmg hg args vals as hpre hlay hrd hwl hlo
  obtain rfl : dV = .none:=Dflts.none hD hdf
  obtain rfl : kV = .none:=Dflts.noKw hD
  obtain ⟨a,vs,ns,rfl,rfl,hobj,hints,hlen⟩:=script_of hn hpre hwl
  refine enter_call (codeAny_mono (call w s₀ s₁ mg mb fa o pm cd doc a vs ns G Y ho (fd_plain hd) hcd hmg hobj hints hlen hg) fun r s' hq=>?_)
  obtain ⟨rfl,h2,h3,h4⟩:=hq
  exact ⟨.inl ⟨.bool true,.bool true,[],rfl,fun _=>rfl,.bool true,post_true l _,fun _=>⟨List.Pairwise.nil,fun _ hm=>(nomatch hm)⟩⟩,h2,h3,h4⟩
section
variable {prog : Program} {w : World} {A : Around} {E : Value→Shared→Prop} {s : Shared} {K : Frag}
end
end Att
namespace L2
open PySem PySem.Spec PyProof.Rows
theorem vals_ints : ∀ {vs : List Value} {ns : List Int},IntsAre vs ns→Vals (ns.map V.int) vs
  | _,_,.nil=>.nil
  | _,_,.cons n t h=>.cons ⟨t,rfl⟩ (vals_ints h)
def Only (H : Hp) : Prop:=∀ b,H b=none∨∃ o xs,H b=some (.frz o (.lst xs))
theorem law_call {P : Program} {w : World} {K : PySem.W.Frag} {mg mb : Str→Option Value} {CX : CXT} {k : Nat} {fa a : Addr} {fd : FuncData} {x : Str} {sp : Sp} {s₁ : Shared} {vs : List Value} {ns : List Int}
    (KX : K.In s₁.heap) (hns : s₁.heap.Ns mainGlobals mg) (hb : s₁.heap.Ns builtinsNs mb) (hbb : ∀ x : Str,x ≠ "__name__" → mb x=bootBuiltins x) (hlim : s₁.heap.NoLimit) (hg : s₁.gens = #[])
    (ha : s₁.heap.get? a=some { cls:=.type "list",data:=.seq vs.toArray }) (hi : IntsAre vs ns) (hl : ns.length≤sizeLine) (hr : Room k callerA)
    (F : ∀ base : Heap,K.In base→base.Ns mainGlobals mg→FnOk P w K mg base CX k fa fd [x] sp) (hbind : ∀ (s : Shared) (u : Value),BindsTo s fd ⟨[u],[]⟩ [(x,u)])
    (hsp : ∀ H : Hp,Only H→SqL K H a (ns.map V.int)→sp [.ref a] H (fun v _=>v = .bl true) fun _ _ _=>False)
    (hCX : ∀ H e s',CX [] H s₁ (fun _ _ _=>False) e s'→False) :
    codeAny (model P w) callerA (.call (.ref fa) ⟨[.ref a],[]⟩) (fun r s'=>r = .ok (.ret (.bool true))∧OldK s₁.heap s'.heap∧s'.os=s₁.os∧AllBare s'.gens) s₁:=by
  have rv:=vals_ints hi
  have lenV:=hi.length
  have core : ∀ H : Hp,Only H→SqL K H a (ns.map V.int)→HOk P w H s₁.heap→(∀ b,H b≠none→b=a)→(H a≠none→K.lookup a=none)→
      codeAny (model P w) callerA (.call (.ref fa) ⟨[.ref a],[]⟩) (fun r s'=>r = .ok (.ret (.bool true))∧OldK s₁.heap s'.heap∧s'.os=s₁.os∧AllBare s'.gens) s₁:=by
    intro H hO hS hok hA hK
    have base_of : ∀ {b : Addr} {o : Obj},s₁.heap.get? b=some o→H b=none→(hidT s₁.heap H).get? b=some o:=fun e n=>hidT_get e n
    have noA : ∀ {b : Addr} {o : Obj} {es : Array DictEntry} {ep : Nat},s₁.heap.get? b=some o→o.data = .dict es ep→H b=none:=fun {b o es ep} e d=>by
      cases q : H b with
      | none=>rfl
      | some u=>
        have e' : b=a:=hA b (by rw [q]; simp)
        subst e'
        rw [ha] at e; cases e
        have d' : Data.seq vs.toArray _=Data.dict es ep:=d
        cases d'
    have nsK : ∀ {b : Addr} {m : Str→Option Value},s₁.heap.Ns b m→(hidT s₁.heap H).Ns b m:=fun {b m} ⟨o,es,ep,e,d,r⟩=>⟨o,es,ep,base_of e (noA e d),d,r⟩
    have hKb : K.In (hidT s₁.heap H):=fun b o e=>base_of (KX b o e) (by
      cases q : H b with
      | none=>rfl
      | some u=>
        have e' : b=a:=hA b (by rw [q]; simp)
        subst e'
        rw [hK (by rw [q]; simp)] at e; cases e)
    have hM : Mod K mg (hidT s₁.heap H):=⟨hKb,nsK hns,⟨mb,nsK hb,hbb⟩,let ⟨mc,h1,h2⟩:=hlim; ⟨mc,nsK h1,h2⟩⟩
    have e0 : Env0 P w K mg (hidT s₁.heap H) callerA [] s₁ H:=⟨rfl,hM,fun b o e=>of_hidT e,Nat.le_of_eq (hidT_size _ _),trivial,fun b hb=>absurd (show b∈([] : List Addr) from hb) (by simp),hok,.of_eq hg⟩
    refine codeAny_mono ((F _ hKb (nsK hns)).run callerA [] s₁ H ⟨[.ref a],[]⟩ [.ref a] [.ref a] _ _ hr e0 (hbind s₁ (.ref a)) (.cons rfl .nil) (hsp H hO hS)) fun r s' h=>?_
    cases r with
    | error e=>exact (hCX H e s' h).elim
    | ok fl=>
      cases fl with
      | next=>exact False.elim h
      | brk=>exact False.elim h
      | cont=>exact False.elim h
      | ret u=>
        obtain ⟨v,H',os,bare,un,hok',r',q⟩:=h
        have q' : v = .bl true:=q
        subst q'
        obtain rfl : u=Value.bool true:=r'
        refine ⟨rfl,OldK.of_keep fun b o e=>?_,os,bare⟩
        cases q : H b with
        | none=>exact un.keep b o e q (by intro z; exact absurd (show b∈([] : List Addr) from z) (by simp)) (by simp)
        | some u=>
          rcases hO b with z | ⟨ob,xs,z⟩
          · rw [q] at z; cases z
          · have z2:=un.frzs b ob _ z
            obtain ⟨e1,_⟩:=hok b _ z
            obtain ⟨e2,_⟩:=hok' b _ z2
            rw [e] at e1; cases e1
            exact e2
  cases hk : K.lookup a with
  | some o=>
    have e:=KX a o hk
    rw [ha] at e
    cases e
    refine core (fun _=>none) (fun _=>.inl rfl) (.inr ⟨_,vs.toArray,_,hk,rfl,rfl,rfl,by rw [List.size_toArray,lenV]; exact hl,by simpa using rv⟩) (fun b u z=>by have z' : (none : Option HO)=some u:=z; cases z') (fun b z=>absurd rfl z) fun z=>absurd rfl z
  | none=>
    refine core (fun b=>if b=a then some (.frz { cls:=.type "list",data:=.seq vs.toArray } (.lst (ns.map V.int))) else none) (fun b=>?_) (.inl (.inr ⟨{ cls:=.type "list",data:=.seq vs.toArray },if_pos rfl⟩)) (fun b u z=>?_) (fun b z=>?_) fun _=>hk
    · by_cases hb : b=a
      · exact .inr ⟨_,_,if_pos hb⟩
      · exact .inl (if_neg hb)
    · by_cases hb : b=a
      · have z':=(if_pos hb).symm.trans z
        cases z'
        subst hb
        exact ⟨ha,by rw [List.length_map]; exact hl,vs,_,rv,ha⟩
      · have z':=(if_neg hb).symm.trans z
        cases z'
    · by_cases hb : b=a
      · exact hb
      · exact absurd (if_neg hb) z
end L2
namespace L2
open PySem PySem.Spec PyProof.Rows
theorem walk_of {l : PySem.W.OpenLaw} {n k : Nat} {q : Program} {loose : List Str} {XP : (Str→Option Value)→Heap→Prop} {YP : World→Heap→Prop} {d : DefRec} {K : Params→PySem.W.Frag} {CX : World→CXT} {sp : World→Sp} {x : Str}
    (hn : l.most=some n) (hn2 : n≤sizeLine) (hdf : d.params.defaults=[]) (hr : Room k callerA)
    (hY : ∀ (w : World) (h : Heap),YP w h→(K w.params).In h)
    (F : ∀ (w : World) (mg : Str→Option Value) (fa : Addr) (h : Heap),(K w.params).In h→h.Ns mainGlobals mg→mg d.name=some (.ref fa)→
      ∃ fd : FuncData,(∀ (s : Shared) (u : Value),BindsTo s fd ⟨[u],[]⟩ [(x,u)])∧
        ∀ base : Heap,(K w.params).In base→base.Ns mainGlobals mg→FnOk l.prog w (K w.params) mg base (CX w) k fa fd [x] (sp w))
    (hsp : ∀ (w : World) (H : Hp) (a : Addr) (ns : List Int),ns.length≤n→Only H→SqL (K w.params) H a (ns.map V.int)→sp w [.ref a] H (fun v _=>v = .bl true) fun _ _ _=>False)
    (hCX : ∀ (w : World) (H : Hp) (s : Shared) (e : Value) (s' : Shared),CX w [] H s (fun _ _ _=>False) e s'→False) :
    PySem.W.WalkO q loose XP YP l.row.toRowW d [] (fun f vs=>PySem.call f vs):=by
  refine Att.attach_call hn hdf fun w s₀ s₁ mg mb fa o pm cd doc a vs ns G Y ho hd hcd hmg hobj hints hlen hg=>?_
  have KX:=hY w _ Y
  obtain ⟨fd,hb,hF⟩:=F w mg fa _ KX G.T.g hmg
  exact law_call KX G.T.g G.T.b G.T.builtins G.T.nolimit hg hobj hints (Nat.le_trans hlen hn2) hr hF hb (fun H hO hS=>hsp w H a ns hlen hO hS) fun H e s'=>hCX w H s₁ e s'
end L2
namespace L2
open PySem PySem.Spec PyProof.Rows
def defArgs (s : Stmt) : Arguments:=match s with
  | .FunctionDef _ a _ _ _ _ _ _ _ _=>a
  | _=>{ posonlyargs:=[],args:=[],vararg:=none,kwonlyargs:=[],kw_defaults:=[],kwarg:=none,defaults:=[] }
def defBody (s : Stmt) : List Stmt:=match s with
  | .FunctionDef _ _ b _ _ _ _ _ _ _=>b
  | _=>[]
def defScope (s : Stmt) : Scope:=match s with
  | .FunctionDef _ _ _ _ _ _ sc _ _ _=>sc
  | _=>{ kind:=.function,names:=[],isGenerator:=false,isCoroutine:=false }
abbrev CX0 : CXT:=fun _ _ _ _ _ _=>False
abbrev E0 : XK:=fun _ _ _=>False
theorem pass0 {X : Cx} : Passes CX0 X E0:=fun _ _ _ _ _ _ _ h=>h.elim
structure Fun (K : PySem.W.Frag) (x qual : Str) (st : Stmt) (f : Addr) (fd : FuncData) : Prop where
  ex : ∃ (oc : Value) (od : Option Addr) (kV doc pm : Value) (an : Option Addr) (cdv ct : Value) (osl : Array (Option Value)),
    fd=PySem.W.fnOf x qual (defArgs st) (defBody st) (defScope st) .none kV doc pm an cdv ct∧K.lookup f=some ⟨oc,od,.func fd,osl⟩∧PySem.W.codeIn K cdv qual=true
  kp : PySem.W.keepIn K (.ref f)=true
section
variable {P : Program} {w : World} {K : PySem.W.Frag} {mg : Str→Option Value} {base : Heap}
theorem Fun.ok {x qual : Str} {st : Stmt} {f : Addr} {fd : FuncData} {N ps : List Str} {k : Nat} {sp : Sp} (F : Fun K x qual st f fd) (S : FnScope N ps (defScope st)) (len : ∀ vs H Q E,sp vs H Q E→vs.length=ps.length)
    (hbody : ∀ (cdv : Value) (A : Around) (outer : List Env) (s : Shared) (H : Hp) (vs : List V) (Q : VK) (E : XK),Room k (A.deeper (envOfC qual (defScope st) s.heap.objs.size f cdv))→sp vs H Q E→
      ∃ t,PSs (cxOf CX0 P w K mg base N qual (defScope st) f cdv A outer s H E).nox (defBody st) t∧t { nx:=fun _ H'=>Q .non H',rt:=Q } (start N vs) H) : FnOk P w K mg base CX0 (k + 1) f fd ps sp:=by
  obtain ⟨oc,od,kV,doc,pm,an,cdv,ct,osl,rfl,lk,hcd⟩:=F.ex
  refine fn_of lk hcd S len fun A outer s H vs Q E hr hsp=>?_
  obtain ⟨t,h,q⟩:=hbody cdv A outer s H vs Q E hr hsp
  exact ⟨t,h.nox,q⟩
theorem Fun.binds {x qual : Str} {st : Stmt} {f : Addr} {fd : FuncData} {ps : List Str} (F : Fun K x qual st f fd)
    (h : ∀ (kV doc pm : Value) (an : Option Addr) (cdv ct : Value) (us : List Value),us.length=ps.length→bindArgs (PySem.W.fnOf x qual (defArgs st) (defBody st) (defScope st) .none kV doc pm an cdv ct) ⟨us,[]⟩=pure (ps.zip us)) : Binds K fd ps []:=by
  obtain ⟨oc,od,kV,doc,pm,an,cdv,ct,osl,rfl,lk,hcd⟩:=F.ex
  exact .all (h kV doc pm an cdv ct)
theorem fun_mk {x qual : Str} {st : Stmt} {f : Addr} {oc : Value} {od an : Option Addr} {osl : Array (Option Value)} {kV doc pm cdv ct : Value} (l : K.lookup f=some ⟨oc,od,.func (PySem.W.fnOf x qual (defArgs st) (defBody st) (defScope st) .none kV doc pm an cdv ct),osl⟩)
    (c : PySem.W.codeIn K cdv qual=true) (k : PySem.W.keepIn K (.ref f)=true) : Fun K x qual st f (PySem.W.fnOf x qual (defArgs st) (defBody st) (defScope st) .none kV doc pm an cdv ct):=⟨⟨oc,od,kV,doc,pm,an,cdv,ct,osl,rfl,l,c⟩,k⟩
end
theorem hu_of {A : Around} {k : Nat} (hr : Room k A) : A.units + 1 < cLine:=Nat.lt_of_le_of_lt (Nat.add_le_add_left (by decide : 1≤64) _) hr.units
theorem small1000 {n : Nat} (h : n≤1000) : n < sizeLine:=Nat.lt_of_le_of_lt h (by decide)
section
variable {X : Cx}
theorem pv (i : Nat) {x : Str} {pos : Pos} (hN : X.N[i]? = some x:=by rfl) (hv : Vis X.env.scope x:=by first | exact Or.inl rfl | exact Or.inr (Or.inl rfl) | exact Or.inr (Or.inr rfl)) (hd : (x == ("__debug__" : Str))=false:=by decide)
    (hcd : (x == ("__classdict__" : Str))=false:=by decide) : PE X (.Name x pos) (tVar i):=pe_var hN hv hd hcd
end
theorem iteF {A B : Prop} (h : B) : if false=true then A else B:=by
  rw [if_neg Bool.false_ne_true]
  exact h
theorem iteT {A B : Prop} (h : A) : if true=true then A else B:=by
  rw [if_pos rfl]
  exact h
theorem ite2 {c A B : Prop} [Decidable c] (h1 : c→A) (h2 : ¬ c→B) : if c then A else B:=by
  by_cases h : c
  · rw [if_pos h]
    exact h1 h
  · rw [if_neg h]
    exact h2 h
theorem iteNS {c A B : Prop} [Decidable c] (hc : c) (h : B) : if (!decide c)=true then A else B:=by
  rw [decide_eq_true hc]
  exact iteF h
def Same (H H' : Hp) : Prop:=∀ b o,H b=some o→H' b=some o
theorem Same.refl (H : Hp) : Same H H:=fun _ _ h=>h
theorem Same.trans {H H1 H2 : Hp} (a : Same H H1) (b : Same H1 H2) : Same H H2:=fun c o h=>b c o (a c o h)
theorem Same.free {H H' : Hp} (e : Same H H') {l : Addr} (h : H' l=Option.none) : H l=Option.none:=by
  cases q : H l with
  | none=>rfl
  | some o=>
    rw [e l o q] at h
    cases h
end L2
set_option maxHeartbeats 4000000
namespace L2
open PySem PySem.Spec PyProof.Rows
theorem objThere {P : Program} {w : World} {H : Hp} {h : Heap} {a : Addr} {o : HO} (x : ObjOk P w H h a o) : ∃ ob,h.get? a=some ob:=by
  induction o with
  | lst xs=>obtain ⟨_,_,_,_,e⟩:=x; exact ⟨_,e⟩
  | tup xs=>obtain ⟨_,_,_,ob,e,_⟩:=x; exact ⟨_,e⟩
  | dK kvs=>obtain ⟨_,_,_,_,o,_,_,e,_⟩:=x; exact ⟨_,e⟩
  | dT kvs=>obtain ⟨_,_,_,_,o,_,_,e,_⟩:=x; exact ⟨_,e⟩
  | set S n=>obtain ⟨o,_,_,_,e,_⟩:=x; exact ⟨_,e⟩
  | ins C dx fs=>obtain ⟨_,_,_,e,_⟩:=x; exact ⟨_,e⟩
  | own y=>obtain ⟨_,e⟩:=x; exact ⟨_,e⟩
  | xd fs=>obtain ⟨_,⟨_,_,_,e,_⟩,_⟩:=x; exact ⟨_,e⟩
  | rng lo hi=>obtain ⟨_,_,_,e⟩:=x; exact ⟨_,e⟩
  | frz ob u _=>obtain ⟨e,_⟩:=x; exact ⟨_,e⟩
  | tbl ps=>exact ⟨_,(show h.get? a=some _ from x)⟩
  | met f y=>exact ⟨_,(show h.get? a=some _ from x)⟩
  | ext φ=>obtain ⟨_,e,_⟩:=x; exact e
  | cod q pos=>rcases x with e | ⟨_,e,_⟩ <;> exact ⟨_,e⟩
structure UnB (fs : List Addr) (H H' : Hp) (h B h' : Heap) : Prop where
  keep : ∀ b o,h.get? b=some o→H b=none→b ∉ fs→B.get? b=some o
  slot : ∀ b o,h.get? b=some o→H b=none→b∈fs→∃ sl,h'.get? b=some { o with slots:=sl }
  free : ∀ b o,h.get? b=some o→H b=none→H' b=none
  there : ∀ b o,h.get? b=some o→b∈fs∨∃ o',B.get? b=some o'
  tups : ∀ b xs,H b=some (.tup xs)→H' b=some (.tup xs)
  frzs : ∀ b o u,H b=some (.frz o u)→H' b=some (.frz o u)
  tbls : ∀ b ps,H b=some (.tbl ps)→∃ more,H' b=some (.tbl (ps ++ more))
def CXE (P : Program) (w : World) : CXT:=fun outer H s E e s'=>∃ (a : Addr) (cls a0 : Value) (H' : Hp) (B : Heap),e = .ref a∧s'.os=s.os∧AllBare s'.gens∧E cls none H'∧HOk P w H' B∧H' a=none∧s.heap.get? a=none∧
  Heap.FlyingW B outer a cls a0 s'.heap∧UnB (frs outer) H H' s.heap B s'.heap
theorem UnB.un {fs : List Addr} {H H' : Hp} {h B h' h'' : Heap} (u : UnB fs H H' h B h') (hB : B.StaysIn h'') (hs : h'.UpToSlots h'') (hf : ∀ b∈fs,∃ o,h'.get? b=some o∧∀ vs,o.data≠.fields vs) : Un fs [] H H' h h'' where
  keep:=fun b o e n hb _=>hB b o (u.keep b o e n hb)
  slot:=fun b o e n hb _=>by
    obtain ⟨sl,e1⟩:=u.slot b o e n hb
    obtain ⟨o1,e2,nf⟩:=hf b hb
    rw [e1] at e2; cases e2
    obtain ⟨sl',e3⟩:=hs b _ e1 nf
    exact ⟨sl',e3⟩
  free:=fun b o e n _=>u.free b o e n
  there:=fun b o e _=>by
    rcases u.there b o e with hb | ⟨o',e'⟩
    · obtain ⟨o1,e2,nf⟩:=hf b hb
      obtain ⟨sl',e3⟩:=hs b _ e2 nf
      exact ⟨_,e3⟩
    · exact ⟨o',hB b o' e'⟩
  tups:=u.tups
  frzs:=u.frzs
  tbls:=u.tbls
section
variable {X : Cx} {pins : List (Addr×Obj)} {σ : St} {H : Hp} {s s' : Shared} {E : XK}
theorem raise_leaves {CX : CXT} {P : Program} {w : World} {K : PySem.W.Frag} {mg : Str→Option Value} {base : Heap} {N : List Str} {qual : Str} {scope : Scope} {f : Addr} {cd : Value} {A : Around} {outer : List Env} {s₀ : Shared} {H₀ : Hp}
    {pins : List (Addr×Obj)} {σ : St} {H : Hp} {s : Shared} {h' : Heap} {e : Addr} {cls : Value} {args : List Value}
    (I : Inv (cxOf (CXE P w) P w K mg base N qual scope f cd A outer s₀ H₀ E) pins σ H s) (hx : Heap.MadeExcOf s.heap h' e cls args) (hE : E cls none H) :
    (cxOf (CXE P w) P w K mg base N qual scope f cd A outer s₀ H₀ E).xe (.ref e) { s with heap:=h' }:=by
  have hst:=I.stack
  have hlt:=I.lt
  have hnoex : ∀ b : Addr,b ∉ ([] : List Addr):=fun b z=>nomatch z
  show wpAny (model P w) (A.deeper (envOfC qual scope s₀.heap.objs.size f cd)) (leaving (envOfC qual scope s₀.heap.objs.size f cd) (.ref e)) (fun _ s''=>CXE P w outer H₀ s₀ E (.ref e) s'') (fun e' s''=>CXE P w outer H₀ s₀ E e' s'') { s with heap:=h' }
  refine wpAny_leaves_madeW (base:=PySem.W.hideAll s.heap (frs (envOfC qual scope s₀.heap.objs.size f cd :: outer))) (h:=s.heap) (L:=s₀.heap.objs.size) I.ok.frames rfl (fun b o q=>PySem.W.of_hideAll _ q)
    (PySem.W.funFrames_hide hst fun env he b hb=>List.mem_filterMap.mpr ⟨env,he,hb⟩) hx fun h'' t fly _ _ upto=>?_
  have hsub : ∀ b,b∈frs outer→b∈frs (envOfC qual scope s₀.heap.objs.size f cd :: outer):=fun b hb=>by
    obtain ⟨env,he,hf⟩:=List.mem_filterMap.mp hb
    exact List.mem_filterMap.mpr ⟨env,.tail _ he,hf⟩
  have hnot : ∀ b o,s₀.heap.get? b=some o→b ∉ frs outer→b ∉ frs (envOfC qual scope s₀.heap.objs.size f cd :: outer):=fun b o q nb hb=>by
    rcases List.mem_cons.mp (I.stkSub b hb) with z | z
    · exact absurd (Heap.lt_size q) (by rw [z]; exact Nat.lt_irrefl _)
    · exact nb z
  have hfree : ∀ b∈frs (envOfC qual scope s₀.heap.objs.size f cd :: outer),H b=none:=I.stkFree
  have nohid : ∀ b u,H b=some u→b ∉ frs (envOfC qual scope s₀.heap.objs.size f cd :: outer):=fun b u q hb=>by rw [hfree b hb] at q; cases q
  refine ⟨e,cls,.ref t,H,_,rfl,I.os,I.bare,hE,fun b u q=>?_,?_,?_,fly,?_⟩
  · refine (I.hok b u q).stay (fun c v hc r=>PySem.W.hideAll_get _ r ?_) (fun _ r=>r) fun _ _ r=>r
    rcases hc with z | z
    · rw [z]; exact nohid b u q
    · exact nohid c _ z
  · cases q : H e with
    | none=>rfl
    | some u=>
      obtain ⟨ob,e1⟩:=objThere (I.hok e u q)
      rw [hx.new] at e1; cases e1
  · cases q : s₀.heap.get? e with
    | none=>rfl
    | some o=>
      obtain ⟨o',e1⟩:=I.base.there e o q (hnoex e)
      rw [hx.new] at e1; cases e1
  · refine ⟨fun b o q n nb=>PySem.W.hideAll_get _ (I.base.keep b o q n nb (hnoex b)) (hnot b o q nb),fun b o q n hb=>?_,fun b o q n=>I.base.free b o q n (hnoex b),fun b o q=>?_,I.base.tups,I.base.frzs,I.base.tbls⟩
    · obtain ⟨sl,e1⟩:=I.base.slot b o q n hb (hnoex b)
      obtain ⟨_,ob,e2,nf⟩:=hst.mem (hsub b hb)
      rw [e1] at e2; cases e2
      have e3:=hx.keeps b _ e1
      obtain ⟨sl',e4⟩:=upto b _ e3 nf
      exact ⟨sl',e4⟩
    · by_cases hb : b∈frs outer
      · exact .inl hb
      · obtain ⟨o',e1⟩:=I.base.there b o q (hnoex b)
        exact .inr ⟨o',PySem.W.hideAll_get _ e1 (hnot b o q hb)⟩
theorem fly_land {B h'' : Heap} {a : Addr} {cls a0 : Value} {H' : Hp} (I : Inv X pins σ H s) (hos : s'.os=s.os) (hb : AllBare s'.gens) (hok : HOk X.prog X.w H' B) (fly : Heap.FlyingW B X.stack a cls a0 s'.heap) (u : UnB (frs X.stack) H H' s.heap B s'.heap)
    (hB : B.StaysIn h'') (hs : s'.heap.UpToSlots h'') : Inv X pins σ H' { s' with heap:=h'' }:=by
  have un:=u.un hB hs fun b hb=>let ⟨_,o,e,nf⟩:=fly.2.2.1.mem hb; ⟨o,e,nf⟩
  exact I.call' (s':={ s' with heap:=h'' }) (ch:=[]) hos un (hok.kept hB) hb fun b z=>nomatch z
theorem passE {P : Program} {w : World} {K : PySem.W.Frag} {mg : Str→Option Value} {base : Heap} {N : List Str} {qual : Str} {scope : Scope} {f : Addr} {cd : Value} {A : Around} {outer : List Env} {s₀ : Shared} {H₀ : Hp} {E E' : XK}
    (hE : ∀ cls H,E' cls none H→E cls none H) : Passes (CXE P w) (cxOf (CXE P w) P w K mg base N qual scope f cd A outer s₀ H₀ E) E':=by
  intro pins σ H s e s' I h
  obtain ⟨a,cls,a0,H',B,rfl,hos,hb,hE',hok,hna,hfr,fly,u⟩:=h
  have hnoex : ∀ b : Addr,b ∉ ([] : List Addr):=fun b z=>nomatch z
  have hsub : ∀ b,b∈frs outer→b∈frs (envOfC qual scope s₀.heap.objs.size f cd :: outer):=fun b hb=>by
    obtain ⟨env,he,hf⟩:=List.mem_filterMap.mp hb
    exact List.mem_filterMap.mpr ⟨env,.tail _ he,hf⟩
  have hnot : ∀ b o,s₀.heap.get? b=some o→b ∉ frs outer→b ∉ frs (envOfC qual scope s₀.heap.objs.size f cd :: outer):=fun b o q nb hb=>by
    rcases List.mem_cons.mp (I.stkSub b hb) with z | z
    · exact absurd (Heap.lt_size q) (by rw [z]; exact Nat.lt_irrefl _)
    · exact nb z
  show wpAny (model P w) (A.deeper (envOfC qual scope s₀.heap.objs.size f cd)) (leaving (envOfC qual scope s₀.heap.objs.size f cd) (.ref a)) (fun _ s''=>CXE P w outer H₀ s₀ E (.ref a) s'') (fun e' s''=>CXE P w outer H₀ s₀ E e' s'') s'
  refine wpAny_leaves_onW (L:=s₀.heap.objs.size) I.ok.frames rfl fly fun h'' fly' upto=>?_
  refine ⟨a,cls,a0,H',B,rfl,hos.trans I.os,hb,hE cls H' hE',hok,hna,?_,fly',?_⟩
  · cases q : s₀.heap.get? a with
    | none=>rfl
    | some o=>
      obtain ⟨o',e1⟩:=I.base.there a o q (hnoex a)
      rw [hfr] at e1; cases e1
  · refine ⟨fun b o q n nb=>u.keep b o (I.base.keep b o q n nb (hnoex b)) (I.base.free b o q n (hnoex b)) (hnot b o q nb),fun b o q n hb=>?_,fun b o q n=>?_,fun b o q=>?_,fun b xs q=>u.tups b xs (I.base.tups b xs q),fun b o x q=>u.frzs b o x (I.base.frzs b o x q),fun b ps q=>?_⟩
    · obtain ⟨sl,e1⟩:=I.base.slot b o q n hb (hnoex b)
      obtain ⟨sl',e2⟩:=u.slot b _ e1 (I.base.free b o q n (hnoex b)) (hsub b hb)
      obtain ⟨_,ob,e3,nf⟩:=fly.2.2.1.mem (hsub b hb)
      rw [e2] at e3; cases e3
      obtain ⟨sl'',e4⟩:=upto b _ e2 nf
      exact ⟨sl'',e4⟩
    · obtain ⟨o',e1⟩:=I.base.there b o q (hnoex b)
      exact u.free b o' e1 (I.base.free b o q n (hnoex b))
    · by_cases hb : b∈frs outer
      · exact .inl hb
      · obtain ⟨o',e1⟩:=I.base.there b o q (hnoex b)
        rcases u.there b o' e1 with z | z
        · exact absurd z (hnot b o q hb)
        · exact .inr z
    · obtain ⟨m1,e1⟩:=I.base.tbls b ps q
      obtain ⟨m2,e2⟩:=u.tbls b _ e1
      exact ⟨m1 ++ m2,by rw [e2,Array.append_assoc]⟩
end
end L2
namespace L2
open PySem PySem.Spec PyProof.Rows PySem.Builtin.ObjectAttr PySem.Builtin.Getset_descriptor
structure XCls (K : PySem.W.Frag) (D : Addr) : Prop where
  ga : PySem.W.findIn K (.ref D) "__getattribute__" = some (some (.builtin "BaseException.__getattribute__"))
  gt : PySem.W.findIn K (.ref D) "__getattr__" = some none
  cl : PySem.W.findIn K (.ref D) "__class__" = some (some (.builtin "object.__class__"))
  gg : PySem.W.specialIn K (.builtin "object.__class__") "__get__" = some (some (.builtin "getset_descriptor.__get__"))
  tk : PySem.W.takesIn K (.builtin "object.__class__")=some true
  mo : PySem.W.mroIn K D (.type "object")=some true
  sb : PySem.W.subIn K (.ref D) (.type "BaseException")=some true
  is : (PySem.W.clsIn K D).isSome=true
def IsX (a : Addr) (cls : Value) : Heap→Prop:=fun h=>∃ o vs,h.get? a=some o∧o.cls=cls∧o.data = .fields vs
section
variable {prog : Program} {w : World} {A : Around} {E : Value→Shared→Prop} {K : PySem.W.Frag} {x D : Addr} {s : Shared}
theorem xc_ty {M : Model} {h : Heap} {cls : Value} (I : IsX x cls h) : PySem.W.Looks M h (typeOf (.ref x)) cls:=by
  obtain ⟨o,vs,h1,h2,_⟩:=I
  exact h2 ▸ (PySem.W.Looks.ld h1).andThen .now
theorem xc_get {R : Result→Shared→Prop} (X : K.In s.heap) (C : XCls K D) (I : IsX x (.ref D) s.heap) (hR : R (.ok (.ret (.ref D))) s) :
    codeAny (model prog w) A (.call (.builtin "getset_descriptor.__get__") ⟨[.builtin "object.__class__",.ref x,.ref D],[]⟩) R s:=by
  obtain ⟨hp,gs,dr,tt,os⟩:=s
  have T0:=xc_ty (M:=model prog w) I
  have T1:=PySem.W.looks_mroIn (M:=model prog w) X C.mo
  refine codeAny_call_builtin PySem.W.KF.slot_gs.plain PySem.W.KF.entry_gs (PySem.W.KF.slot_gs.check _ _ _ _ _ _ _ _ PySem.W.KF.type_class (PySem.W.KF.args_gs _ _ _) ?_)
  (unfold Builtin.«getset_descriptor.__get__»; unfold descrGet)
  rw [PySem.W.dga_obj]; refine wpAny_bind (wpAny_pure ?_)
  (unfold descrGetter descrCheckInstance; unfold descrNameAndClass isInstance)
  simp only [PySem.W.KF.owner_class]
  repeat lk
  refine ⟨Code.quiet_builtin _ (by decide +kernel),codeAny_builtin PySem.W.KF.entry_class ?_⟩
  (unfold Builtin.«object.__class__»; unfold shownTypeOf)
  repeat lk
  exact hR
theorem xc_find {M : Model} {h : Heap} (X : K.In h) (C : XCls K D) : PySem.W.Looks M h (find (.ref x) (.ref D) "__class__") (.bind (.builtin "getset_descriptor.__get__") (.builtin "object.__class__")):=by
  intro A' Q' E' s' kk qq
  obtain ⟨hp,gs,dr,tt,os⟩:=s'
  have T1:=(PySem.W.looks_findIn (M:=M) X C.cl).keeps kk
  have T2:=(PySem.W.looks_specialIn (M:=M) X C.gg).keeps kk
  have T3:=(PySem.W.looks_takesIn (M:=M) X C.tk).keeps kk
  unfold find
  refine wpAny_bind (T1.at ?_)
  unfold getOf dataDescriptor?
  refine wpAny_bind (T2.at ?_)
  dsimp only
  refine wpAny_bind (wpAny_bind (T3.at ?_))
  rw [if_pos rfl]
  exact wpAny_pure (wpAny_bind (wpAny_rule (wpAny_pure qq)))
theorem xc_attr {Q : Option Value→Shared→Prop} (X : K.In s.heap) (C : XCls K D) (I : IsX x (.ref D) s.heap)
    (h : Q (some (.ref D)) { s with toks:=s.toks + 1 }) : wpAny (model prog w) A (getAttr? (.ref x) "__class__") Q E s:=by
  obtain ⟨hh,g,d,t,os⟩:=s
  have T0:=xc_ty (M:=model prog w) I
  have T1:=PySem.W.looks_findIn (M:=model prog w) X C.ga
  have T2:=PySem.W.looks_findIn (M:=model prog w) X C.gt
  have TI : PySem.W.Looks (model prog w) hh (isInstance (.ref x) (.type "BaseException")) true:=T0.andThen (PySem.W.looks_subIn X C.sb)
  have TF:=xc_find (x:=x) (M:=model prog w) X C
  have hkd : builtinKind "BaseException.__getattribute__" = some .slot:=by decide +kernel
  have hsp : splitId "BaseException.__getattribute__" = some ("BaseException","__getattribute__"):=by decide +kernel
  (unfold getAttr?; unfold getAttrBy? getAttrBy)
  refine wpAny_bind (wpAny_mkText (wpAny_bind (wpAny_attempt (wpAny_holding (wpAny_bind (T0.at (wpAny_bind (T1.at ?_))))))))
  show wpAny _ _ (getAttrByItsOwn (.ref x) _ (.ref D) (.builtin "BaseException.__getattribute__") false false) _ _ _
  unfold getAttrByItsOwn hookBefore
  refine wpAny_bind ?_
  show wpAny _ _ (typeLookup (.ref D) (Str.ofString "__getattr__")) _ _ _
  refine T2.at ?_
  refine wpAny_bind (wpAny_attempt (wpAny_holding ?_))
  show wpAny _ _ (boundAndCalled (.builtin "BaseException.__getattribute__") (.ref x) _) _ _ _
  unfold boundAndCalled
  refine wpAny_bind (wpAny_of_eq (F.attr_ValueError.ga.bind (.ref x)) ?_)
  have har:=F.args_bexc_ga (.ref x) (Value.str "__class__" t)
  refine wpAny_call (codeAny_call_builtin F.attr_ValueError.ga.plain F.entry_bexc_ga ?_)
  simp only [checkBuiltinCall,hkd,hsp]
  refine wpAny_bind (TI.at ?_)
  simp only [Bool.not_true,Bool.false_eq_true,if_false,if_true]
  refine wpAny_of_eq har ?_
  show wpAny _ _ (Builtin.«object.__getattribute__» ⟨[.ref x,.str "__class__" t],[]⟩) _ _ _
  unfold Builtin.«object.__getattribute__»
  refine wpAny_bind (wpAny_pure ?_)
  refine wpAny_bind (wpAny_pure ?_)
  refine wpAny_bind (T0.at ?_)
  refine wpAny_bind (TF.at ?_)
  show wpAny _ _ (holding [.builtin "object.__class__"] (call (.builtin "getset_descriptor.__get__") [.builtin "object.__class__",.ref x,.ref D]) >>= ret) _ _ _
  refine wpAny_bind (wpAny_holding (wpAny_call (xc_get X C I ?_)))
  exact wpAny_pure (PySem.W.handed_on rfl (wpAny_pure h))
theorem kitx_exc (C : XCls K D) : PySem.W.KitX K (.ref x) (.ref D) (IsX x (.ref D)) where
  ty:=fun _ _ _ I=>xc_ty I
  it:=fun M h X _=>by
    obtain ⟨cd,hc⟩:=Option.isSome_iff_exists.mp C.is
    unfold PySem.W.clsIn at hc
    split at hc
    · rename_i ho
      intro A' Q' E' s' kk qq
      unfold isType loadHead
      exact wpAny_bind (wpAny_loadPart (kk _ _ (X _ _ ho)) (wpAny_pure qq))
    · cases hc
  ne:=fun h tp dd its n sl X ht=>by
    obtain ⟨cd,hc⟩:=Option.isSome_iff_exists.mp C.is
    refine Bool.eq_false_iff.mpr fun z=>?_
    have e0 : D=tp:=Value.ref.inj (beq_iff_eq.mp z)
    subst e0
    unfold PySem.W.clsIn at hc
    split at hc
    · rename_i ho
      have z2:=(X _ _ ho).symm.trans ht
      cases z2
    · cases hc
  ca:=fun X I k=>xc_attr X C I k
theorem xc_isi {c : Value} {b : Bool} {Q : Value→Shared→Prop} (X : K.In s.heap) (C : XCls K D) (I : IsX x (.ref D) s.heap) (e : PySem.W.kitOne K (.ref D) c=some b) (h : ∀ tk,Q (.bool b) { s with toks:=tk }) :
    wpAny (model prog w) A (call (.builtin "isinstance") [.ref x,c]) Q E s:=PySem.W.kia_one (kitx_exc C) X I e (fun z=>nomatch z) h
end
end L2
namespace L2
open PySem PySem.Spec PyProof.Rows
theorem exc_obj {K : PySem.W.Frag} {h : Heap} {C : Addr} {bmB : List Value} {newId : String} (X : K.In h) (q : PySem.W.excIn K C bmB newId=true) :
    ∃ bm N nm qn bs hd sn sub ab col dd k0 k1 k2 k3 k5 mN,h.get? C=some (excClassObj nm qn C N bs bm hd sn sub ab col dd k0 k1 k2 k3 k5 newId)∧h.Ns N mN∧mN "__init__" = none∧OwnTail h bmB bm:=by
  unfold PySem.W.excIn at q
  split at q
  · rename_i dd cd sl look
    split at q
    · rename_i C2 bm k0 k1 k2 k3 n k5 hmro hsl
      simp only [Bool.and_eq_true,beq_iff_eq,Bool.not_eq_true'] at q
      obtain ⟨⟨⟨⟨⟨rfl,rfl⟩,hde⟩,htl⟩,hns⟩,hin⟩:=q
      obtain ⟨nm,bs,mro,ns,qn,hd,sn,sub,ab,col,del⟩:=cd
      dsimp only at hmro hde hns hin
      subst hmro hde
      have es : sl = #[k0,k1,k2,k3,some (.builtin n),k5]:=by
        obtain ⟨ls⟩:=sl
        have e1 : ls=[k0,k1,k2,k3,some (.builtin n),k5]:=hsl
        rw [e1]
      subst es
      exact ⟨bm,ns,nm,qn,bs,hd,sn,sub,ab,col,dd,k0,k1,k2,k3,k5,_,X _ _ look,.of_isNs (PySem.W.isNs_of_in X hns),PySem.W.nsMap_none_of_in X hns hin,PySem.W.tail_of_in X htl⟩
    · cases q
  · cases q
section
variable {X : Cx}
def tRaise (C : Addr) (E : XK) (t : TA) : TS:=fun D σ H=>t σ H fun vs H1=>vs.length≤sizeLine∧E (.ref C) none H1
def Makes (X : Cx) (E : XK) : Prop:=∀ (pins : List (Addr×Obj)) (σ : St) (H : Hp) (s : Shared) (h' : Heap) (e : Addr) (cls : Value) (args : List Value),Inv X pins σ H s→Heap.MadeExcOf s.heap h' e cls args→E cls none H→X.xe (.ref e) { s with heap:=h' }
theorem makesE {P : Program} {w : World} {K : PySem.W.Frag} {mg : Str→Option Value} {base : Heap} {N : List Str} {qual : Str} {scope : Scope} {f : Addr} {cd : Value} {A : Around} {outer : List Env} {s₀ : Shared} {H₀ : Hp} {E : XK} :
    Makes (cxOf (CXE P w) P w K mg base N qual scope f cd A outer s₀ H₀ E) E:=fun _ _ _ _ _ _ _ _ I hx hE=>raise_leaves (CX:=CXE P w) I hx hE
theorem ps_raise {x : Str} {C : Addr} {B newId initId : String} {bmB : List Value} {e₀ : Expr} {rest : List Expr} {np cpos pos : Pos} {t : TA} {E : XK} (hg : Gl X x) (hm : X.mg x=some (.ref C)) (hq : PySem.W.excIn X.K C bmB newId=true)
    (FB : ExcBaseFacts B newId initId bmB) (hcalm : X.calm=true) (hxe : Makes X E) (ha : PA X (e₀ :: rest) t) (hd : (x == ("__debug__" : Str))=false:=by decide)
    (he : starEach (e₀ :: rest) X.env=(false,eval e₀ X.env) :: starEach rest X.env:=by rfl) (hpl : (backTo cpos (starEach rest X.env)).any (·.1)=false:=by rfl) :
    PS X (.Raise (some (.Call (.Name x np) (e₀ :: rest) [] cpos)) none pos) (tRaise C E t):=by
  refine ⟨?_⟩
  intro pins s σ H D I h
  obtain ⟨bm,N,nm,qn,bs,hdd,sn,sub,ab,col,dd,k0,k1,k2,k3,k5,mN,hC,hN,hni,T⟩:=exc_obj (bmB:=bmB) I.mod.kin hq
  refine wpAny_Raise_call_subT (C:=C) (N:=N) (bm:=bm) (nm:=nm) (q:=qn) (bs:=bs) (hdct:=hdd) (sn:=sn) (sub:=sub) (ab:=ab) (col:=col) (dd:=dd) (k0:=k0) (k1:=k1) (k2:=k2) (k3:=k3) (k5:=k5) FB (mN:=mN) (T.hasType FB.hasBase) (I.ok.hd hcalm)
    (by rw [he]; show (false || (backTo cpos (starEach rest X.env)).any (·.1))=false; rw [hpl]; rfl) hni (ld_glob I hg hm ⟨rfl,?_⟩ hd)
  have h1:=ha cpos pins s σ H _ I h
  rw [he] at h1 ⊢
  refine Calls.evalArgs_plain (thn h1 fun us s1 ⟨vs,H1,I1,r1,q1⟩=>?_)
  exact ⟨rfl,(by rw [← r1.length]; exact q1.1),I1.bk _ _ hC,hN.keeps I1.bk,T.keeps I1.bk,fun h' e hx=>hxe pins σ H1 s1 h' e _ _ I1 hx q1.2⟩
theorem Inv.track {pins : List (Addr×Obj)} {σ : St} {H : Hp} {s : Shared} {a : Addr} {o : HO} (I : Inv X pins σ H s) (hs : X.s₀.heap.get? a=none) (hn : H a=none) (hL : a≠X.env.locals) (hc : ∀ x c,X.env.cells.lookup x=some c→c≠a)
    (hp : ∀ p∈X.pn ++ pins,p.1≠a) (new : ObjOk X.prog X.w (upd H a o) s.heap a o) : Inv X pins σ (upd H a o) s:=by
  have ne : ∀ b ob,X.s₀.heap.get? b=some ob→b≠a:=fun b ob e z=>by rw [z,hs] at e; cases e
  have nt : ∀ b u,H b=some u→b≠a:=fun b u e z=>by rw [z,hn] at e; cases e
  refine ⟨I.ok,I.os,I.bare,⟨I.base.keep,I.base.slot,fun b ob e n hx=>by rw [upd_ne (ne b ob e)]; exact I.base.free b ob e n hx,I.base.there,fun b xs e=>?_,fun b ob xs e=>?_,fun b ps e=>?_⟩,I.loc,I.cell,by rw [upd_ne hL.symm]; exact I.free,fun x c e=>by rw [upd_ne (hc x c e)]; exact I.freeC x c e,fun p hp'=>?_,fun b u e=>?_,I.len⟩
  · have e1:=I.base.tups b xs e
    rw [upd_ne (nt b _ e1)]; exact e1
  · have e1:=I.base.frzs b ob xs e
    rw [upd_ne (nt b _ e1)]; exact e1
  · obtain ⟨more,e1⟩:=I.base.tbls b ps e
    exact ⟨more,by rw [upd_ne (nt b _ e1)]; exact e1⟩
  · obtain ⟨e,n,r⟩:=I.pin p hp'
    exact ⟨e,by rw [upd_ne (hp p hp')]; exact n,r⟩
  · by_cases z : b=a
    · subst z
      rw [upd_same] at e
      cases e
      exact new
    · rw [upd_ne z] at e
      exact (I.hok b u e).stay (fun _ _ _ q=>q) (fun c q=>by rw [upd_ne (nt c _ q)]; exact q) fun c xs q=>by rw [upd_ne (nt c _ q)]; exact q
abbrev Cx.tryCx (X : Cx) (pn : List (Addr×Obj)) (xe : Value→Shared→Prop) : Cx:={ X with pn:=pn,xe:=xe }
abbrev Cx.suite (X : Cx) (e : Addr) : Cx:={ X with A:=X.A.mark (some (.ref e)),calm:=false,xe:=fun _ _=>False }
theorem Cx.Ok.tryCx {pn : List (Addr×Obj)} {xe : Value→Shared→Prop} (ok : X.Ok) : (X.tryCx pn xe).Ok:=
  ⟨ok.mod,ok.kind,ok.glob,ok.blt,ok.above,ok.inj,ok.has,ok.cab,ok.hd,ok.frames,ok.stk,ok.exf,ok.bs,ok.bsz,ok.noex,ok.exfs,ok.funs,ok.frf⟩
theorem Cx.Ok.suite {e : Addr} (ok : X.Ok) : (X.suite e).Ok:=
  ⟨ok.mod,ok.kind,ok.glob,ok.blt,ok.above,ok.inj,ok.has,ok.cab,(fun z=>nomatch z),ok.frames,ok.stk,ok.exf,ok.bs,ok.bsz,ok.noex,ok.exfs,ok.funs,ok.frf⟩
theorem Inv.toTry {pins : List (Addr×Obj)} {σ : St} {H : Hp} {s : Shared} {xe : Value→Shared→Prop} (I : Inv X pins σ H s) : Inv (X.tryCx (X.pn ++ pins) xe) [] σ H s:=
  ⟨I.ok.tryCx,I.os,I.bare,I.base,I.loc,I.cell,I.free,I.freeC,fun p hp=>I.pin p (by rw [List.append_nil] at hp; exact hp),I.hok,I.len⟩
theorem Inv.ofTry {pins : List (Addr×Obj)} {σ : St} {H : Hp} {s : Shared} {xe : Value→Shared→Prop} (ok : X.Ok) (I : Inv (X.tryCx (X.pn ++ pins) xe) [] σ H s) : Inv X pins σ H s:=
  ⟨ok,I.os,I.bare,I.base,I.loc,I.cell,I.free,I.freeC,fun p hp=>I.pin p (by rw [List.append_nil]; exact hp),I.hok,I.len⟩
theorem Inv.ofTry' {pins q : List (Addr×Obj)} {σ : St} {H : Hp} {s : Shared} {xe : Value→Shared→Prop} (ok : X.Ok) (I : Inv (X.tryCx (X.pn ++ pins) xe) q σ H s) : Inv X pins σ H s:=
  ⟨ok,I.os,I.bare,I.base,I.loc,I.cell,I.free,I.freeC,fun p hp=>I.pin p (List.mem_append_left _ hp),I.hok,I.len⟩
theorem Inv.toSuite {pins : List (Addr×Obj)} {σ : St} {H : Hp} {s : Shared} {e : Addr} (I : Inv X pins σ H s) : Inv (X.suite e) pins σ H s:=
  ⟨I.ok.suite,I.os,I.bare,I.base,I.loc,I.cell,I.free,I.freeC,I.pin,I.hok,I.len⟩
theorem Inv.ofSuite {pins : List (Addr×Obj)} {σ : St} {H : Hp} {s : Shared} {e : Addr} (ok : X.Ok) (I : Inv (X.suite e) pins σ H s) : Inv X pins σ H s:=
  ⟨ok,I.os,I.bare,I.base,I.loc,I.cell,I.free,I.freeC,I.pin,I.hok,I.len⟩
theorem SP.ofTry {pins : List (Addr×Obj)} {D : Ends} {f : Flow} {s : Shared} {xe : Value→Shared→Prop} (ok : X.Ok) (h : SP (X.tryCx (X.pn ++ pins) xe) [] D f s) : SP X pins D f s:=by
  cases f with
  | next=>obtain ⟨σ',H',I,q⟩:=h; exact ⟨σ',H',I.ofTry ok,q⟩
  | brk=>obtain ⟨σ',H',I,q⟩:=h; exact ⟨σ',H',I.ofTry ok,q⟩
  | cont=>obtain ⟨σ',H',I,q⟩:=h; exact ⟨σ',H',I.ofTry ok,q⟩
  | ret u=>obtain ⟨v,σ',H',I,r,q⟩:=h; exact ⟨v,σ',H',I.ofTry ok,r,q⟩
theorem Inv.nameGoes {pins : List (Addr×Obj)} {σ : St} {H : Hp} {s : Shared} {i : Nat} {n : Str} {pos : Pos} {M : Model} {A : Around} {E : Value→Shared→Prop} {Q : Unit→Shared→Prop} (I : Inv X pins σ H s) (hN : X.N.Nodup) (hi : X.N[i]? = some n) (hl : X.env.kindOf n=some .local)
    (h : ∀ s',Inv X pins (σ.set i none) H s'→Q () s') : wpAny M A (do bindName X.env n .none; unbindBehindTheSuite X.env n pos) Q E s:=by
  obtain ⟨m,hn,hloc⟩:=id I.loc
  have hcls : (X.env.scope.kind == .class || (X.env.scope.kind == .module && X.env.locals != X.env.globals))=false:=by rw [I.ok.kind]; rfl
  have hiσ : i < σ.length:=by rw [I.len]; exact (List.getElem?_eq_some_iff.mp hi).1
  refine wpAny_nameGoes_keeps hl hn hcls fun h' v hn' hs=>?_
  have neL : ∀ b ob,X.s₀.heap.get? b=some ob→b≠X.env.locals:=fun b ob e=>Nat.ne_of_lt (Nat.lt_of_lt_of_le (Heap.lt_size e) I.ok.above)
  refine h _ ⟨I.ok,I.os,I.bare,⟨fun b o e nn hb hx=>?_,fun b o e nn hb hx=>?_,I.base.free,fun b o e hx=>?_,I.base.tups,I.base.frzs,I.base.tbls⟩,⟨_,hn',fun j y w' e1 e2 e3=>?_⟩,fun y c e=>?_,I.free,I.freeC,fun p hp=>?_,fun b u e=>?_,by simpa using I.len⟩
  · exact (hs.2 b (neL b o e)).trans (I.base.keep b o e nn hb hx)
  · obtain ⟨sl,e1⟩:=I.base.slot b o e nn hb hx
    exact ⟨sl,(hs.2 b (neL b o e)).trans e1⟩
  · obtain ⟨o',e1⟩:=I.base.there b o e hx
    exact ⟨o',(hs.2 b (neL b o e)).trans e1⟩
  · by_cases hj : j=i
    · subst hj
      rw [List.getElem?_set_self hiσ] at e2
      cases e2
    · rw [List.getElem?_set_ne (Ne.symm hj)] at e2
      obtain ⟨u,r,l⟩:=hloc j y w' e1 e2 e3
      refine ⟨u,r,?_⟩
      rcases l with ⟨k,e⟩ | ⟨k,c,e,z⟩
      · refine .inl ⟨k,?_⟩
        have : y≠n:=fun z=>hj (nodup_ix hN e1 (z ▸ hi))
        simp [this,e]
      · exact .inr ⟨k,c,e,z.sameBut hs (I.cne y c e)⟩
  · obtain ⟨w',z⟩:=I.cell y c e
    exact ⟨w',z.sameBut hs (I.cne y c e)⟩
  · obtain ⟨e,nn,ne,nf,d⟩:=I.pin p hp
    exact ⟨(hs.2 p.1 ne).trans e,nn,ne,nf,d⟩
  · refine (I.hok b u e).stay (fun c w' hc q=>(hs.2 c ?_).trans q) (fun _ q=>q) fun _ _ q=>q
    rintro rfl
    have hf:=I.free
    rcases hc with z | z
    · rw [z,e] at hf; cases hf
    · rw [z] at hf; cases hf
end
end L2
namespace L2
open PySem PySem.Spec PyProof.Rows
def clOf (env : Env) : List (Str×NameKind)→List (Str×Addr)→List (Str×Addr)
  | [],cs=>cs
  | (n,k) :: r,cs=>clOf env r (if k == .free then (n,(env.cells.lookup n).getD 0) :: cs else cs)
theorem closureFor_cl {scope : Scope} {env : Env} (h : ∀ y∈scope.names,y.2 = .free→∃ c,env.cells.lookup y.1=some c) : closureFor scope env=pure (clOf env scope.names []):=by
  have all : ∀ (l : List (Str×NameKind)) (cs : List (Str×Addr)),(∀ y∈l,y.2 = .free→∃ c,env.cells.lookup y.1=some c)→
      (forIn l cs fun (x : Str×NameKind) r=>(if (x.2 == NameKind.free)=true then do let a ← cellOf env x.1; pure (ForInStep.yield ((x.1,a) :: r)) else pure (ForInStep.yield r) : Sem (ForInStep (List (Str×Addr)))))=pure (clOf env l cs):=by
    intro l
    induction l with
    | nil=>intro cs _; rfl
    | cons x r ih=>
      intro cs hl
      obtain ⟨n,k⟩:=x
      rw [List.forIn_cons]
      by_cases hk : (k == NameKind.free)=true
      · obtain ⟨c,hc⟩:=hl (n,k) (.head _) (by simpa using hk)
        have e : cellOf env n=pure c:=by unfold cellOf; rw [show env.cells.lookup n=some c from hc]
        simp only [hk,if_true,e,pure_bind]
        rw [ih _ fun y hy=>hl y (.tail _ hy)]
        show _=pure (clOf env r (if k == .free then _ else _))
        rw [if_pos hk,show env.cells.lookup n=some c from hc]
        rfl
      · simp only [hk,Bool.false_eq_true,if_false,pure_bind]
        rw [ih _ fun y hy=>hl y (.tail _ hy)]
        show _=pure (clOf env r (if k == .free then _ else _))
        rw [if_neg hk]
  unfold closureFor
  have:=all scope.names [] h
  simp only [bind_pure] at this ⊢
  exact this
theorem mem_clOf {env : Env} : ∀ (l : List (Str×NameKind)) (cs : List (Str×Addr)) {p : Str×Addr},p∈clOf env l cs→p∈cs∨((p.1,NameKind.free)∈l∧p.2=(env.cells.lookup p.1).getD 0)
  | [],cs,p,h=>.inl h
  | (n,k) :: r,cs,p,h=>by
    unfold clOf at h
    rcases mem_clOf r _ h with z | ⟨z1,z2⟩
    · split at z
      · rename_i hk
        have hk' : k = .free:=by simpa using hk
        rcases List.mem_cons.mp z with rfl | z
        · exact .inr ⟨by rw [hk']; exact .head _,rfl⟩
        · exact .inl z
      · exact .inl z
    · exact .inr ⟨.tail _ z1,z2⟩
theorem clOf_grows {env : Env} : ∀ (l : List (Str×NameKind)) (cs : List (Str×Addr)) {p : Str×Addr},p∈cs→p∈clOf env l cs
  | [],cs,p,h=>h
  | (n,k) :: r,cs,p,h=>by
    unfold clOf
    refine clOf_grows r _ ?_
    split
    · exact .tail _ h
    · exact h
theorem clOf_has {env : Env} : ∀ (l : List (Str×NameKind)) (cs : List (Str×Addr)) {x : Str},(x,NameKind.free)∈l→(x,(env.cells.lookup x).getD 0)∈clOf env l cs
  | (n,k) :: r,cs,x,h=>by
    unfold clOf
    rcases List.mem_cons.mp h with e | h
    · cases e
      refine clOf_grows r _ ?_
      rw [if_pos (by decide)]
      exact .head _
    · exact clOf_has r _ h
theorem lookup_of_mem {α : Type} : ∀ {l : List (Str×α)} {x : Str} {v : α},(x,v)∈l→∃ u,l.lookup x=some u
  | (n,k) :: r,x,v,h=>by
    by_cases e : x=n
    · exact ⟨k,by rw [List.lookup_cons,e]; simp⟩
    · rcases List.mem_cons.mp h with z | z
      · cases z; exact absurd rfl e
      · obtain ⟨u,hu⟩:=lookup_of_mem z
        exact ⟨u,by rw [List.lookup_cons]; rw [show (x == n)=false from by simpa using e]; exact hu⟩
def cxComp (X : Cx) (N' : List Str) (scope : Scope) (C : Addr) (s : Shared) (H : Hp) (fp : List Addr) : Cx where
  prog:=X.prog
  w:=X.w
  K:=X.K
  mg:=X.mg
  base:=X.base
  A:=X.A
  N:=N'
  s₀:=s
  H₀:=H
  env:=compEnvC scope (clOf X.env scope.names []) C X.env
  outer:=X.stack
  stack:=X.stack
  ex:=fp
  fn:=fun _=>false
  calm:=true
  pn:=[]
  xe:=fun _ _=>False
structure CompScope (X : Cx) (N' : List Str) (ix : List (Option Nat)) (scope : Scope) : Prop where
  kind : scope.kind = .function
  nocell : ∀ y∈scope.names,y.2≠.cell
  loc : ∀ y∈scope.names,y.2 = .local→scope.names.lookup y.1=some .local
  nd : N'.Nodup
  len : ix.length=N'.length
  free : ∀ y∈scope.names,y.2 = .free→X.env.kindOf y.1=some .cell
  out : ∀ (k j : Nat) (x : Str),N'[k]? = some x→ix[k]? = some (some j)→X.N[j]? = some x∧(x,NameKind.free)∈scope.names∧(relabel scope X.env).names.lookup x=some .cell
def compSt (ix : List (Option Nat)) (σ : St) : St:=ix.map fun o=>o.bind fun j=>(σ[j]?).join
theorem relabel_back {scope : Scope} {env : Env} {x : Str} {k : NameKind} (hc : ∀ y∈scope.names,y.2≠.cell) (h : (relabel scope env).names.lookup x=some k) (hk : k = .cell∨k = .free) : (x,NameKind.free)∈scope.names:=by
  have m:=PySem.mem_of_lookup h
  unfold relabel at m
  obtain ⟨⟨n,k0⟩,h1,h2⟩:=List.mem_map.mp m
  dsimp only at h2
  split at h2
  · rename_i q
    cases h2
    have : k0 = .free:=by
      simp only [Bool.and_eq_true,beq_iff_eq] at q
      exact q.1.1
    rw [this] at h1
    exact h1
  · cases h2
    rcases hk with rfl | rfl
    · exact absurd rfl (hc _ h1)
    · exact h1
section
variable {X : Cx} {N' : List Str} {ix : List (Option Nat)} {scope : Scope}
theorem cl_cells {pins : List (Addr×Obj)} {σ : St} {H : Hp} {s : Shared} (I : Inv X pins σ H s) (S : CompScope X N' ix scope) {x : Str} {c : Addr} (h : (clOf X.env scope.names []).lookup x=some c) : X.env.cells.lookup x=some c:=by
  rcases mem_clOf _ _ (PySem.mem_of_lookup h) with z | ⟨z1,z2⟩
  · cases z
  · obtain ⟨c',hc⟩:=I.ok.has x (.inl (S.free _ z1 rfl))
    dsimp only at z2
    rw [hc] at z2
    rw [hc,z2]
    rfl
theorem inv_comp {pins : List (Addr×Obj)} {σ : St} {H : Hp} {s : Shared} {h' : Heap} {tk : Nat} {fp : List Addr} (I : Inv X pins σ H s) (hcalm : X.calm=true) (S : CompScope X N' ix scope) (hf : ∀ b∈fp,FpOk X pins H b) (hlt : ∀ b∈fp,b < s.heap.objs.size)
    (hns : h'.Ns s.heap.objs.size (fun _=>none)) (hk : ∀ b o,s.heap.get? b=some o→h'.get? b=some o) : Inv (cxComp X N' scope s.heap.objs.size s H fp) [] (compSt ix σ) H { s with heap:=h',toks:=tk }:=by
  have noL : H s.heap.objs.size=none:=I.hok.fresh (Nat.le_refl _)
  refine ⟨⟨I.ok.mod,S.kind,I.ok.glob,I.ok.blt,Nat.le_refl _,fun x y c h1 h2=>I.ok.inj x y c (cl_cells I S h1) (cl_cells I S h2),fun x hx=>?_,(fun x c z=>nomatch z),fun _=>I.ok.hd hcalm,I.ok.frames,.inl rfl,fun b hb=>⟨Nat.ne_of_lt (hlt b hb),fun x c h=>?_⟩,I.bs,Nat.le_trans I.ok.bsz I.sz,fun b o q hb=>?_,fun b hb=>?_,I.stack,I.stkFree⟩,
    rfl,I.bare,Un.kept hk,⟨_,hns,fun k x v h1 h2 h3=>?_⟩,fun x c h=>?_,noL,fun x c h=>I.freeC x c (cl_cells I S h),(fun p hp=>absurd (show p∈([] : List (Addr×Obj)) from hp) (by simp)),I.hok.kept hk,?_⟩
  · have hx' : (relabel scope X.env).names.lookup x=some .cell∨(relabel scope X.env).names.lookup x=some .free:=hx
    have m : (x,NameKind.free)∈scope.names:=by
      rcases hx' with z | z
      · exact relabel_back S.nocell z (.inl rfl)
      · exact relabel_back S.nocell z (.inr rfl)
    exact lookup_of_mem (clOf_has (env:=X.env) scope.names [] m)
  · exact (hf b hb).2.2.2.2.1 x c (cl_cells I S h)
  · rcases (hf b hb).2.2.2.1 with z | z
    · exact I.ok.noex b o q z
    · exact absurd (Nat.lt_of_lt_of_le (Heap.lt_size (I.ok.bs b o q).1) z) (Nat.lt_irrefl _)
  · intro z
    rcases List.mem_cons.mp (I.stkSub b z) with e | e
    · exact (hf b hb).2.1 e
    · exact (hf b hb).2.2.1 e
  · have e2 : (compSt ix σ)[k]? = some (some v):=h2
    unfold compSt at e2
    rw [List.getElem?_map] at e2
    cases e3 : ix[k]? with
    | none=>rw [e3] at e2; cases e2
    | some o=>
      rw [e3] at e2
      cases o with
      | none=>cases e2
      | some j=>
        obtain ⟨n1,n2,n3⟩:=S.out k j x h1 e3
        have e4 : σ[j]? = some (some v):=by
          have : (σ[j]?).join=some v:=Option.some.inj e2
          cases e5 : σ[j]? with
          | none=>rw [e5] at this; cases this
          | some w=>rw [e5] at this; exact congrArg some this
        have kc:=S.free _ n2 rfl
        obtain ⟨m,hn,hl⟩:=I.loc
        obtain ⟨u,r,l⟩:=hl j x v n1 e4 (.inr (.inl kc))
        refine ⟨u,r,?_⟩
        rcases l with ⟨z,_⟩ | ⟨_,c,hc,hcell⟩
        · dsimp only at kc
          rw [kc] at z; cases z
        · obtain ⟨c',hc'⟩:=lookup_of_mem (clOf_has (env:=X.env) scope.names [] n2)
          have ec:=cl_cells I S hc'
          rw [hc] at ec
          cases ec
          exact .inr ⟨.inl n3,c,hc',hcell.keeps hk⟩
  · obtain ⟨v,q⟩:=I.cell x c (cl_cells I S h)
    exact ⟨v,q.keeps hk⟩
  · unfold compSt
    rw [List.length_map]
    exact S.len
end
end L2
namespace L2
open PySem PySem.Spec PyProof.Rows
def PIfs0 (X : Cx) (ifs : List Expr) (t : TT) : Prop:=
  ∀ (pins : List (Addr×Obj)) (s : Shared) (σ : St) (H : Hp) (Q : Bool→Hp→Prop),Inv X pins σ H s→t σ H Q→
    wpAny (model X.prog X.w) X.A (forIn ifs true fun c r=>if r=true then do let ok ← isTrue c X.env (eval c X.env); pure (ForInStep.yield ok) else pure (ForInStep.yield r)) (TP X pins σ Q) X.xe s
structure PIfs (X : Cx) (ifs : List Expr) (t : TT) : Prop where
  out : PIfs0 X ifs t
instance {X : Cx} {ifs : List Expr} {t : TT} : CoeFun (PIfs X ifs t) (fun _=>PIfs0 X ifs t):=⟨PIfs.out⟩
def tIf0 : TT:=fun _ H Q=>Q true H
theorem pifs_nil {X : Cx} : PIfs X [] tIf0:=⟨fun pins s σ H Q I h=>wpAny_pure ⟨H,I,h⟩⟩
theorem pifs_one {X : Cx} {c : Expr} {t : TT} (h : PT X c t) : PIfs X [c] t:=⟨fun pins s σ H Q I q=>wpAny_tests_one (h pins s σ H Q I q)⟩
def tComp (ix : List (Option Nat)) (wi : TI) (g : TG) (ti : TT) (te : TE) : TE:=fun σ H Q=>wi σ H fun J H1=>∀ D,H1 D=none→∃ W : Nat→Nat→Hp→Prop,(∃ m,W 0 m (upd H1 D (.lst [])))∧∀ i m H,W i m H→
  (J.stop i H∧Q (.ref D) H)∨(J.go i H∧∀ x H',J.yld i H x H'→g x (compSt ix σ) H' fun σ2 H2=>(∀ (k : Nat) v,(compSt ix σ)[k]? = some (some v)→σ2[k]? = some (some v))∧ti σ2 H2 fun b H3=>
    if b=true then te σ2 H3 fun y H4=>∃ zs,H4 D=some (.lst zs)∧zs.length < sizeLine∧∃ m',m' < m∧W (i + 1) m' (upd H4 D (.lst (zs ++ [y]))) else ∃ m',m' < m∧W (i + 1) m' H3)
section
variable {X : Cx} {N' : List Str} {ix : List (Option Nat)} {scope : Scope} {elt tg iter : Expr} {ifs : List Expr} {pos : Pos} {wi : TI} {g : TG} {ti : TT} {te : TE}
def CompEnd (X : Cx) (pins : List (Addr×Obj)) (σ : St) (Q : VK) (acc : Value) (C : Addr) (r : Result) (s' : Shared) : Prop:=
  ∃ D H',acc = .ref D∧(∃ f,r = .ok f)∧Inv X pins σ H' s'∧FpOk X pins H' C∧(∃ m,s'.heap.Ns C m)∧Q (.ref D) H'
theorem comp_loop {X' : Cx} {σ₀ : St} {H : Hp} {s : Shared} {Q : VK} {it D : Addr} {fp : List Addr} {tn : Nat→Heap→Prop} {J : It} {W : Nat→Nat→Hp→Prop} {m0 : Nat} (I : Inv X' [] σ₀ H s) (hcalm : X'.calm=true) (hxe : X'.xe=fun _ _=>False)
    (T : Turn X'.prog X'.w X'.K tg J fp it tn) (st : tn 0 s.heap) (hf : ∀ b∈fp,FpOk X' [] H b) (hg : PG X' tg g) (hi : PIfs X' ifs ti) (he : PE X' elt te) (w0 : W 0 m0 H)
    (turn : ∀ i m H,W i m H→(J.stop i H∧Q (.ref D) H)∨(J.go i H∧∀ x H',J.yld i H x H'→g x σ₀ H' fun σ2 H2=>(∀ (k : Nat) v,σ₀[k]? = some (some v)→σ2[k]? = some (some v))∧ti σ2 H2 fun b H3=>
        if b=true then te σ2 H3 fun y H4=>∃ zs,H4 D=some (.lst zs)∧zs.length < sizeLine∧∃ m',m' < m∧W (i + 1) m' (upd H4 D (.lst (zs ++ [y]))) else ∃ m',m' < m∧W (i + 1) m' H3)) :
    codeAny (model X'.prog X'.w) X'.A (.compStart (.ListComp elt [⟨tg,iter,ifs,0⟩] scope pos) 0 (.ref it) (.ref D) X'.env) (fun r s'=>(∃ f,r = .ok f)∧∃ H',Inv X' [] σ₀ H' s'∧Q (.ref D) H') s:=by
  have stat : ∀ {H' : Hp},(∀ b∈fp,H' b=none)→∀ b∈fp,FpOk X' [] H' b:=fun hn b hb=>⟨hn b hb,(hf b hb).2⟩
  have loop : codeAny (model X'.prog X'.w) X'.A (.compLoop (.ListComp elt [⟨tg,iter,ifs,0⟩] scope pos) 0 (.ref it) (.ref D) X'.env) (fun r s'=>(∃ f,r = .ok f)∧∃ H',Inv X' [] σ₀ H' s'∧Q (.ref D) H') s:=by
    refine codeAny_loop rfl (fun n s'=>∃ i H',Inv X' [] σ₀ H' s'∧tn i s'.heap∧(∀ b∈fp,H' b=none)∧W i n H') ?_ m0 ⟨0,H,I,st,fun b hb=>(hf b hb).1,w0⟩
    rintro n s1 ⟨i,H1,I1,st1,fr1,w1⟩
    show wpAny _ X'.A ((compTurn (.ListComp elt [⟨tg,iter,ifs,0⟩] scope pos) 0 (.ref it) (.ref D) X'.env).onRaise (fun x=>do noteFrame x X'.env; theTreesLotGoes x)) _ _ s1
    refine wpAny_noted ?_
    have noE : ∀ {α : Type} {t : Sem α} {P : α→Shared→Prop} {F : Value→Shared→Prop} {s : Shared},wpAny (model X'.prog X'.w) X'.A t P X'.xe s→wpAny (model X'.prog X'.w) X'.A t P F s:=fun h=>wpAny_mono h (fun _ _ x=>x) fun e s' x=>by rw [hxe] at x; exact x.elim
    rw [compTurn_list]
    refine wpAny_bind (wpAny_standAt (wpAny_bind ?_))
    rcases turn i n H1 w1 with ⟨stop,qn⟩ | ⟨go,step⟩
    · refine thn (T.done X' rfl rfl rfl hcalm i [] s1 σ₀ H1 _ I1 (stat fr1) st1 stop) fun r s2 ⟨hr,I2⟩=>?_
      subst hr
      exact wpAny_pure ⟨⟨_,rfl⟩,H1,I2,qn⟩
    · refine thn (T.item X' rfl rfl rfl hcalm i [] s1 σ₀ H1 _ I1 (stat fr1) st1 go) fun r s2 ⟨u,hr,h2⟩=>?_
      subst hr
      refine wpAny_bind (thn h2 fun _ s3 ⟨x,H3,I3,r3,y3,st3,fr3⟩=>?_)
      have I3':=I3.pinned (stat fr3) (T.obj _ _ st3)
      refine wpAny_bind (noE (thn (hg _ s3 σ₀ H3 x u _ I3' r3 (step x H3 y3)) fun _ s4 ⟨σ4,H4,I4,hk4,q4⟩=>?_))
      refine wpAny_bind (noE (thn (hi _ s4 σ4 H4 _ I4 q4) fun ok s5 ⟨H5,I5,q5⟩=>?_))
      have again' : ∀ {s7 : Shared} {H7 : Hp} {m' : Nat},Inv X' ([] ++ pinsAt fp s3.heap) σ4 H7 s7→m' < n→W (i + 1) m' H7→∃ m,m < n∧∃ i H',Inv X' [] σ₀ H' s7∧tn i s7.heap∧(∀ b∈fp,H' b=none)∧W i m H':=fun {s7 H7 m'} I7 hm w7=>by
        refine ⟨m',hm,i + 1,H7,I7.unpinned.weak (by rw [I3.len,I7.len]) hk4,T.keep _ _ _ st3 fun b hb o e=>(I7.pin (b,o) (List.mem_append_right _ (List.mem_append_right _ (mem_pinsAt hb e)))).1,fun b hb=>?_,w7⟩
        obtain ⟨o,e,d⟩:=T.obj _ _ st3 b hb
        exact (I7.pin (b,o) (List.mem_append_right _ (List.mem_append_right _ (mem_pinsAt hb e)))).2.1
      cases ok with
      | false=>
        obtain ⟨m',hm,w7⟩:=q5
        exact wpAny_pure ⟨rfl,again' I5 hm w7⟩
      | true=>
        refine wpAny_bind (wpAny_bind (noE (thn (he _ s5 σ4 H5 _ I5 q5) fun y s6 ⟨yv,H6,I6,r6,zs,hD,hz,m',hm,w7⟩=>?_)))
        refine wpAny_bind (noE (thn (mt_append (X:=X') _ s6 σ4 H6 (.ref D) [yv] (.ref D) [y] (fun v H7=>H7=upd H6 D (.lst (zs ++ [yv]))) I6 rfl (.cons r6 .nil) ⟨D,zs,yv,rfl,rfl,hD,hz,rfl⟩) fun v s7 ⟨vv,H7,I7,_,e7⟩=>?_))
        subst e7
        exact wpAny_pure (wpAny_pure ⟨rfl,again' I7 hm w7⟩)
  refine codeAny_compStart_list loop (T.self _ 0 s _ _ st loop)
theorem comp_block {pins : List (Addr×Obj)} {σ : St} {H : Hp} {s : Shared} {Q : VK} {it : Addr} {fp : List Addr} {tn : Nat→Heap→Prop} {J : It} {E : Value→Shared→Prop} (I : Inv X pins σ H s) (hcalm : X.calm=true) (S : CompScope X N' ix scope)
    (T : Turn X.prog X.w X.K tg J fp it tn) (st : tn 0 s.heap) (hf : ∀ b∈fp,FpOk X pins H b)
    (hg : ∀ C s H fp,PG (cxComp X N' scope C s H fp) tg g) (hi : ∀ C s H fp,PIfs (cxComp X N' scope C s H fp) ifs ti) (he : ∀ C s H fp,PE (cxComp X N' scope C s H fp) elt te)
    (h : ∀ D,H D=none→∃ W : Nat→Nat→Hp→Prop,(∃ m,W 0 m (upd H D (.lst [])))∧∀ i m H,W i m H→
      (J.stop i H∧Q (.ref D) H)∨(J.go i H∧∀ x H',J.yld i H x H'→g x (compSt ix σ) H' fun σ2 H2=>(∀ (k : Nat) v,(compSt ix σ)[k]? = some (some v)→σ2[k]? = some (some v))∧ti σ2 H2 fun b H3=>
        if b=true then te σ2 H3 fun y H4=>∃ zs,H4 D=some (.lst zs)∧zs.length < sizeLine∧∃ m',m' < m∧W (i + 1) m' (upd H4 D (.lst (zs ++ [y]))) else ∃ m',m' < m∧W (i + 1) m' H3)) :
    wpAny (model X.prog X.w) X.A (newList []) (fun acc s3=>wpAny (model X.prog X.w) X.A (newFunctionEnv scope X.env.globals (clOf X.env scope.names []) [] X.env.qual none .none (some X.env)) (fun cenv s4=>
      codeAny (model X.prog X.w) X.A (.compStart (.ListComp elt [⟨tg,iter,ifs,0⟩] scope pos) 0 (.ref it) acc { cenv with scope:=relabel scope X.env }) (CompEnd X pins σ Q acc cenv.locals) s4) E s3) E s:=by
  refine wpAny_newList ?_
  have fresh0 : H s.heap.objs.size=none:=I.hok.fresh (Nat.le_refl _)
  have I3 : Inv X pins σ (upd H s.heap.objs.size (.lst [])) { s with heap:=s.heap.push { cls:=.type "list",data:=.seq ([] : List Value).toArray } } :=
    I.laid (t':=s.toks) (fun b u e=>Heap.get?_push_of_some _ e) (Nat.le_refl _) ⟨by show 0≤sizeLine; exact Nat.zero_le _,[],0,.nil,Heap.get?_push_size _ rfl⟩
  obtain ⟨W,⟨m0,w0⟩,turn⟩:=h s.heap.objs.size fresh0
  generalize hD : s.heap.objs.size=D at *
  have lt0 : ∀ b∈fp,b < s.heap.objs.size:=fun b hb=>by obtain ⟨o,e,_⟩:=T.obj 0 _ st b hb; exact Heap.lt_size e
  have hf3 : ∀ b∈fp,FpOk X pins (upd H D (.lst [])) b:=fun b hb=>by
    have nb : b≠D:=by rw [← hD]; exact Nat.ne_of_lt (lt0 b hb)
    obtain ⟨f0,fr⟩:=hf b hb
    exact ⟨by rw [upd_ne nb]; exact f0,fr⟩
  have st3 : tn 0 (s.heap.push { cls:=.type "list",data:=.seq ([] : List Value).toArray }):=T.keep _ _ _ st fun b hb o e=>Heap.get?_push_of_some _ e
  revert I3 st3
  generalize (s.heap.push { cls:=.type "list",data:=.seq ([] : List Value).toArray })=h3
  intro I3 st3
  have lt3 : ∀ b∈fp,b < h3.objs.size:=fun b hb=>by obtain ⟨o,e,_⟩:=T.obj 0 _ st3 b hb; exact Heap.lt_size e
  refine wpAny_newFunctionEnv S.nocell (fun x hx=>nomatch hx) (fun h4 hns hsb=>?_) S.kind
  have k4 : ∀ b o,h3.get? b=some o→h4.get? b=some o:=fun b o e=>(hsb.2 b (Nat.ne_of_lt (Heap.lt_size e))).trans (Heap.get?_push_of_some _ e)
  have J4 : Inv (cxComp X N' scope h3.objs.size { s with heap:=h3 } (upd H D (.lst [])) fp) [] (compSt ix σ) (upd H D (.lst [])) { s with heap:=h4,toks:=s.toks + ([] : List (Str×Value)).length }:=
    inv_comp (s:={ s with heap:=h3 }) (tk:=s.toks + ([] : List (Str×Value)).length) I3 hcalm S hf3 lt3 hns k4
  have st4 : tn 0 ({ s with heap:=h4,toks:=s.toks + ([] : List (Str×Value)).length } : Shared).heap:=T.keep _ _ _ st3 fun b hb o e=>k4 b o e
  have fr4 : ∀ b∈fp,upd H D (.lst []) b=none:=fun b hb=>(hf3 b hb).1
  revert J4 st4
  generalize ({ s with heap:=h4,toks:=s.toks + ([] : List (Str×Value)).length } : Shared)=s4
  intro J4 st4
  have hf4 : ∀ b∈fp,FpOk (cxComp X N' scope h3.objs.size { s with heap:=h3 } (upd H D (.lst [])) fp) [] (upd H D (.lst [])) b:=fun b hb=>
    ⟨fr4 b hb,Nat.ne_of_lt (lt3 b hb),J4.ok.exfs b hb,.inl hb,fun x c e=>(J4.ok.exf b hb).2 x c e,fun p hp=>nomatch hp⟩
  refine codeAny_mono (comp_loop (X':=cxComp X N' scope h3.objs.size { s with heap:=h3 } (upd H D (.lst [])) fp) (Q:=Q) (D:=D) J4 rfl rfl T st4 hf4 (hg _ _ _ _) (hi _ _ _ _) (he _ _ _ _) w0 turn) fun r s' ⟨hr,H',J',q'⟩=>?_
  refine ⟨D,H',rfl,hr,I3.call' J'.os J'.base J'.hok J'.bare fun b hb=>?_,?_,?_,q'⟩
  · obtain ⟨_,f1,_,f3,f4,f5⟩:=hf3 b hb
    exact ⟨f3,f1,f4,f5⟩
  · exact I3.fpOk (H':=H') (Nat.le_refl _) J'.free
  · obtain ⟨m,hn,_⟩:=J'.loc
    exact ⟨m,hn⟩
end
end L2
namespace L2
open PySem PySem.Spec PyProof.Rows
section
variable {X : Cx} {N' : List Str} {ix : List (Option Nat)} {scope : Scope} {elt tg iter : Expr} {ifs : List Expr} {pos : Pos} {wi : TI} {g : TG} {ti : TT} {te : TE}
theorem comp_closure {pins : List (Addr×Obj)} {σ : St} {H : Hp} {s : Shared} (I : Inv X pins σ H s) (S : CompScope X N' ix scope) : closureFor scope X.env=pure (clOf X.env scope.names []):=
  closureFor_cl fun y hy e=>I.ok.has y.1 (.inl (S.free y hy e))
theorem pe_comp (hcalm : X.calm=true) (S : CompScope X N' ix scope) (hit : PI X tg iter wi)
    (hg : ∀ C s H fp,PG (cxComp X N' scope C s H fp) tg g) (hi : ∀ C s H fp,PIfs (cxComp X N' scope C s H fp) ifs ti) (he : ∀ C s H fp,PE (cxComp X N' scope C s H fp) elt te)
    (hs : ∀ x,foldedSetIterable iter X.env x=pure x:=by intro _; rfl) : PE X (.ListComp elt [⟨tg,iter,ifs,0⟩] scope pos) (tComp ix wi g ti te):=by
  refine ⟨?_⟩
  intro pins s σ H Q I h
  rw [eval_ListComp]
  refine wpAny_comprehension_free (use:=none) rfl hs (comp_closure I S) S.kind S.loc (thn (hit pins s σ H _ I h) fun v s1 h1=>thn h1 fun itv s2 h2=>?_)
  obtain ⟨it,fp,tn,J,H2,rfl,I2,T,st2,f2,q2⟩:=h2
  refine thn (comp_block (E:=X.xe) (elt:=elt) (iter:=iter) (pos:=pos) I2 hcalm S T st2 f2 hg hi he q2) fun acc s3 h3=>thn h3 fun cenv s4 h4=>codeAny_mono h4 fun r s' hr=>?_
  obtain ⟨D,H',rfl,⟨f,rfl⟩,I',⟨g0,g1,_,g3,g4,g5⟩,⟨m,hm⟩,q'⟩:=hr
  exact ⟨m,hm,fun h' hsb=>⟨.ref D,H',I'.turned (t':=s'.toks) (fun b o hb e=>(hsb.2 b hb).trans e) g0 g1 g3 g4 g5,rfl,q'⟩⟩
theorem ps_setComp {i : Nat} {y : Str} {py spos : Pos} (hN : X.N.Nodup) (hy : X.N[i]? = some y) (hly : Loc X.env.scope y) (hcalm : X.calm=true) (S : CompScope X N' ix scope) (hit : PI X tg iter wi)
    (hg : ∀ C s H fp,PG (cxComp X N' scope C s H fp) tg g) (hi : ∀ C s H fp,PIfs (cxComp X N' scope C s H fp) ifs ti) (he : ∀ C s H fp,PE (cxComp X N' scope C s H fp) elt te)
    (hsw : swapsWith (.ListComp elt [⟨tg,iter,ifs,0⟩] scope pos) (some (.Name y py)) spos.line X.env=pure true:=by rfl) (hs : ∀ x,foldedSetIterable iter X.env x=pure x:=by intro _; rfl)
    (hf : X.fn y=true∨X.env.scope.names.lookup y=some .local:=by first | exact .inl rfl | exact .inr rfl | assumption) :
    PS X (.Assign [.Name y py] (.ListComp elt [⟨tg,iter,ifs,0⟩] scope pos) spos) (tAsg (tComp ix wi g ti te) (gName i)):=by
  refine ⟨?_⟩
  intro pins s σ H D I h
  rw [exec_Assign_Name_used _ _ _ _ hsw]
  refine wpAny_bind (wpAny_standAt (wpAny_bind ?_))
  show wpAny _ X.A (do let _ ← comprehension (.ListComp elt [⟨tg,iter,ifs,0⟩] scope pos) scope X.env _ (newList []) false (eval iter X.env) (some (assign (.Name y py) X.env))) _ _ s
  refine wpAny_bind (thn (wpAny_comprehension_free (use:=some (assign (.Name y py) X.env)) (Q:=fun _ s'=>SP X pins D .next s') rfl hs (comp_closure I S) S.kind S.loc (thn (hit pins s σ H _ I h) fun v s1 h1=>thn h1 fun itv s2 h2=>?_)) fun _ s' hq=>wpAny_pure (wpAny_pure hq))
  obtain ⟨it,fp,tn,J,H2,rfl,I2,T,st2,f2,q2⟩:=h2
  refine thn (comp_block (E:=X.xe) (Q:=fun x H1=>gName i x σ H1 D.nx) (elt:=elt) (iter:=iter) (pos:=pos) I2 hcalm S T st2 f2 hg hi he q2) fun acc s3 h3=>thn h3 fun cenv s4 h4=>codeAny_mono h4 fun r s' hr=>?_
  obtain ⟨A,H',rfl,⟨f,rfl⟩,I',⟨g0,g1,g2,g3,g4,g5⟩,⟨m,hm⟩,q'⟩:=hr
  show wpAny _ X.A (assign (.Name y py) X.env (.ref A)) _ _ _
  refine wpAny_assign_Name (store_ok2 I' hN hy hly (v:=.ref A) rfl (fun s5 I5 ⟨a,hsb,ha⟩=>?_) hf)
  have na : cenv.locals≠a:=by
    rcases ha with z | z
    · rw [z]; exact g1
    · exact (g4 y a z).symm
  exact ⟨m,hm.sameBut hsb na,fun h' hsb'=>⟨_,H',I5.turned (t':=s5.toks) (fun b o hb e=>(hsb'.2 b hb).trans e) g0 g1 g3 g4 g5,q'⟩⟩
end
end L2
namespace L2
open PySem PySem.Spec PyProof.Rows PySem.Builtin.SmallTypes
def SqI (h : Heap) (b : Bool) (it a : Addr) (k : Nat) : Prop:=match b with
  | true=>h.IsListIter it a k
  | false=>h.IsTupleIter it a k
def SqH (h : Heap) (b : Bool) (a : Addr) (its : Array Value) : Prop:=match b with
  | true=>h.IsList a its
  | false=>h.IsTuple a its
theorem SqI.ext {h h' : Heap} {b : Bool} {it a c : Addr} {k : Nat} (x : SqI h b it a k) (e : Heap.ExtBut c h h') (n : it≠c) : SqI h' b it a k:=by
  cases b with
  | true=>exact Heap.IsListIter.at (h:=h) x fun o q=>e it o n q
  | false=>exact Heap.IsTupleIter.at (h:=h) x fun o q=>e it o n q
theorem SqI.keep {h h' : Heap} {b : Bool} {it a : Addr} {k : Nat} (x : SqI h b it a k) (e : ∀ o,h.get? it=some o→h'.get? it=some o) : SqI h' b it a k:=by
  cases b with
  | true=>exact Heap.IsListIter.at (h:=h) x e
  | false=>exact Heap.IsTupleIter.at (h:=h) x e
theorem SqH.ext {h h' : Heap} {b : Bool} {a c : Addr} {its : Array Value} (x : SqH h b a its) (e : Heap.ExtBut c h h') (n : a≠c) : SqH h' b a its:=by
  cases b with
  | true=>exact Heap.IsList.at (h:=h) x fun o q=>e a o n q
  | false=>
    obtain ⟨o,h1,h2⟩:=(show h.IsTuple a its from x)
    exact (show h'.IsTuple a its from ⟨o,e a o n h1,h2⟩)
theorem SqI.obj {h : Heap} {b : Bool} {it a : Addr} {k : Nat} (x : SqI h b it a k) : ∃ o,h.get? it=some o∧∃ vs,o.data = .fields vs:=by
  cases b with
  | true=>obtain ⟨o,h1,_,h3⟩:=(show h.IsListIter it a k from x); exact ⟨o,h1,_,h3⟩
  | false=>obtain ⟨o,h1,_,h3⟩:=(show h.IsTupleIter it a k from x); exact ⟨o,h1,_,h3⟩
section
variable {prog : Program} {w : World} {A : Around} {E : Value→Shared→Prop} {s : Shared}
theorem tupIt_next {it t : Addr} {i : Nat} {its : Array Value} {x : Value} {Q : Value→Shared→Prop} (hi : s.heap.IsTupleIter it t i) (ht : s.heap.IsTuple t its) (hx : its[i]? = some x)
    (hq : ∀ h',h'.IsTupleIter it t (i + 1)→Heap.SameBut it s.heap h'→Q x { s with heap:=h' }) : wpAny (model prog w) A (nextOf (.ref it)) Q E s:=by
  obtain ⟨oi,e1,ec,ed⟩:=id hi
  obtain ⟨ot,e2,_,nt,et⟩:=ht
  (unfold nextOf; refine wpAny_bind (wpAny_callSpecial?_slot (name:=Str.ofString "__next__") hi.typeIs F.slot_tuple_iterator_next (wpAny_call_entry F.slot_tuple_iterator_next hi.typeIs F.entry_tuple_iterator_next ?_ (F.args_tuple_iterator_next_1 _))))
  (show wpAny _ _ (field (.ref it) 0 >>= _) _ _ s; refine wpAny_bind (wpAny_field e1 ed (x:=.ref t) rfl ?_))
  (show wpAny _ _ (if (Value.ref t == Value.none)=true then _ else _) _ _ s; rw [if_neg (show ¬ ((Value.ref t == Value.none)=true) from Bool.false_ne_true)])
  (show wpAny _ _ (field (.ref it) 1 >>= _) _ _ s; refine wpAny_bind (wpAny_field e1 ed (x:=.int i 0) rfl ?_))
  (show wpAny _ _ (seqItems? (.ref t) >>= _) _ _ s; refine wpAny_bind (wpAny_seqItems e2 et ?_))
  simp only [Int.toNat_natCast,hx]
  refine wpAny_bind (wpAny_setField e1 ed (by simp) (wpAny_pure ⟨x,rfl,wpAny_pure (hq _ ?_ (Heap.SameBut.update ..))⟩))
  exact ⟨_,Heap.get?_update_self _ e1 (Obj.isFreed_of_fields (Obj.data_mapFields ed _)),(Obj.cls_mapFields ..).trans ec,by rw [Obj.data_mapFields ed]; simp [rawInt]⟩
theorem tupIt_end {it t : Addr} {i : Nat} {its : Array Value} {Q : Value→Shared→Prop} (hh : A.handled=none) (hi : s.heap.IsTupleIter it t i) (ht : s.heap.IsTuple t its) (hx : its[i]? = none)
    (hE : ∀ h' e,Heap.ExtBut it s.heap h'→(∃ o,h'.get? e=some o∧o.cls = .type "StopIteration")→E (.ref e) { s with heap:=h' }) : wpAny (model prog w) A (nextOf (.ref it)) Q E s:=by
  obtain ⟨oi,e1,ec,ed⟩:=id hi
  obtain ⟨ot,e2,_,nt,et⟩:=ht
  (unfold nextOf; refine wpAny_bind (wpAny_callSpecial?_slot (name:=Str.ofString "__next__") hi.typeIs F.slot_tuple_iterator_next (wpAny_call_entry F.slot_tuple_iterator_next hi.typeIs F.entry_tuple_iterator_next ?_ (F.args_tuple_iterator_next_1 _))))
  (show wpAny _ _ (field (.ref it) 0 >>= _) _ _ s; refine wpAny_bind (wpAny_field e1 ed (x:=.ref t) rfl ?_))
  (show wpAny _ _ (if (Value.ref t == Value.none)=true then _ else _) _ _ s; rw [if_neg (show ¬ ((Value.ref t == Value.none)=true) from Bool.false_ne_true)])
  (show wpAny _ _ (field (.ref it) 1 >>= _) _ _ s; refine wpAny_bind (wpAny_field e1 ed (x:=.int i 0) rfl ?_))
  (show wpAny _ _ (seqItems? (.ref t) >>= _) _ _ s; refine wpAny_bind (wpAny_seqItems e2 et ?_))
  simp only [Int.toNat_natCast,hx]
  refine wpAny_bind (wpAny_rule (wpAny_bind (wpAny_setField e1 ed (by simp) ?_)))
  (show wpAny _ _ (newExc (.type "StopIteration") [] >>= _) _ _ _; refine wpAny_bind ?_)
  (simp only [newExc,newTuple]; refine wpAny_bind (wpAny_newObj_type ?_ (by size_fits)))
  refine wpAny_bind (m:=firstArgMember _ _) (wpAny_of_eq (a:=Value.none) (by rfl) ?_)
  refine wpAny_newObj_type ?_ (by size_fits)
  (simp only [raiseNew]; refine wpAny_bind (wpAny_handled ?_))
  rw [show A.in1.handled=none from hh]
  refine wpAny_bind (wpAny_pure (wpAny_throw ?_))
  exact hE _ _ (((Heap.SameBut.update ..).extBut.push _).push _) ⟨_,Heap.get?_push_size _ rfl,rfl⟩
theorem sq_next {b : Bool} {it a : Addr} {i : Nat} {its : Array Value} {x : Value} {Q : Value→Shared→Prop} (hi : SqI s.heap b it a i) (ha : SqH s.heap b a its) (hx : its[i]? = some x)
    (hq : ∀ h',SqI h' b it a (i + 1)→Heap.SameBut it s.heap h'→Q x { s with heap:=h' }) : wpAny (model prog w) A (nextOf (.ref it)) Q E s:=by
  cases b with
  | true=>exact wpAny_nextOf_list_item hi ha hx hq
  | false=>exact tupIt_next hi ha hx hq
theorem sq_end {b : Bool} {it a : Addr} {i : Nat} {its : Array Value} {Q : Value→Shared→Prop} (hh : A.handled=none) (hi : SqI s.heap b it a i) (ha : SqH s.heap b a its) (hx : its[i]? = none)
    (hE : ∀ h' e,Heap.ExtBut it s.heap h'→(∃ o,h'.get? e=some o∧o.cls = .type "StopIteration")→E (.ref e) { s with heap:=h' }) : wpAny (model prog w) A (nextOf (.ref it)) Q E s:=by
  cases b with
  | true=>exact wpAny_nextOf_list_end hh hi ha hx hE
  | false=>exact tupIt_end hh hi ha hx hE
variable {z TI TO i1 i2 l1 l2 : Addr} {b1 b2 : Bool} {k1 k2 : Nat} {xs ys : Array Value} {x y a b : Value}
theorem zipS_item {Q : Value→Shared→Prop} (D : ZipApart z TI TO i1 i2 l1 l2) (hz : IsZip s.heap z TI TO .none) (hTI : IsPair s.heap TI (.ref i1) (.ref i2)) (hTO : IsPair s.heap TO a b)
    (h1 : SqI s.heap b1 i1 l1 k1) (h2 : SqI s.heap b2 i2 l2 k2) (hl1 : SqH s.heap b1 l1 xs) (hl2 : SqH s.heap b2 l2 ys) (hx : xs[k1]? = some x) (hy : ys[k2]? = some y)
    (hq : ∀ h',IsZip h' z TI TO (rawInt s.heap.objs.size)→IsPair h' TO x y→SqI h' b1 i1 l1 (k1 + 1)→SqI h' b2 i2 l2 (k2 + 1)→IsPair h' s.heap.objs.size x y→h'.objs.size=s.heap.objs.size + 1→
      (∀ c o,c≠z→c≠TO→c≠i1→c≠i2→s.heap.get? c=some o→h'.get? c=some o)→Q (.ref s.heap.objs.size) { s with heap:=h' }) :
    wpAny (model prog w) A (Builtin.«zip.__next__» ⟨[.ref z],[]⟩) (fun fin s'=>∃ v,fin = .done (.ret v)∧Q v s') E s:=by
  (show wpAny _ _ (field (.ref z) 2 >>= _) _ _ _; refine wpAny_bind (wpAny_field hz rfl (x:=.bool false) rfl ?_))
  (show wpAny _ _ (field (.ref z) 3 >>= _) _ _ _; refine wpAny_bind (wpAny_field hz rfl (x:=.ref TI) rfl (wpAny_bind (wpAny_seqItems hTI rfl ?_))))
  (show wpAny _ _ (ownedTupleIsFree (.ref z) >>= _) _ _ _; refine wpAny_bind ?_)
  (unfold ownedTupleIsFree; refine wpAny_bind (wpAny_field hz rfl (x:=.none) rfl (wpAny_pure ?_)))
  (simp only [if_true]; refine wpAny_bind (wpAny_rule (wpAny_bind (wpAny_field hz rfl (x:=.ref TO) rfl ?_))))
  refine wpAny_bind (wpAny_setField_rec hz (by simp) fun g1 z1 s1=>?_)
  replace z1 : IsZip g1 z TI TO .ellipsis:=z1
  (refine wpAny_bind ?_; simp only [List.zipIdx_cons,List.zipIdx_nil,List.forIn_cons,List.forIn_nil])
  (refine wpAny_bind (wpAny_bind (wpAny_onRaise ?_)); show wpAny _ _ (nextOf (.ref i1) >>= _) _ _ _)
  refine wpAny_bind (sq_next (h1.ext s1.extBut D.i1z) (hl1.ext s1.extBut D.l1z) hx fun g2 p2 s2=>wpAny_pure ?_)
  have t2 : IsPair g2 TO a b:=s2.extBut _ _ D.TOi1 (s1.extBut _ _ D.TOz hTO)
  refine wpAny_bind (wpAny_seqItems t2 rfl (wpAny_bind (wpAny_updateSeq_pair t2 fun g3 t3 s3=>?_)))
  replace t3 : IsPair g3 TO x b:=t3
  (refine wpAny_bind (wpAny_letGo (wpAny_pure ?_)); refine wpAny_bind (wpAny_bind (wpAny_onRaise ?_)); show wpAny _ _ (nextOf (.ref i2) >>= _) _ _ _)
  refine wpAny_bind (sq_next (((h2.ext s1.extBut D.i2z).ext s2.extBut D.i12.symm).ext s3.extBut D.TOi2.symm) (((hl2.ext s1.extBut D.l2z).ext s2.extBut D.l2i1).ext s3.extBut D.l2TO) hy fun g4 p4 s4=>wpAny_pure ?_)
  have t4 : IsPair g4 TO x b:=s4.extBut _ _ D.TOi2 t3
  refine wpAny_bind (wpAny_seqItems t4 rfl (wpAny_bind (wpAny_updateSeq_pair t4 fun g5 t5 s5=>?_)))
  replace t5 : IsPair g5 TO x y:=t5
  (refine wpAny_bind (wpAny_letGo (wpAny_pure (wpAny_pure ?_))); refine wpAny_bind (wpAny_seqItems t5 rfl (wpAny_bind (wpAny_newTuple ?_))))
  have ez : g5.objs.size=s.heap.objs.size:=by rw [s5.1,s4.1,s3.1,s2.1,s1.1]
  have z5 : IsZip g5 z TI TO .ellipsis:=s5.extBut _ _ D.TOz.symm (s4.extBut _ _ D.i2z.symm (s3.extBut _ _ D.TOz.symm (s2.extBut _ _ D.i1z.symm z1)))
  have kp : ∀ c o,c≠z→c≠TO→c≠i1→c≠i2→s.heap.get? c=some o→g5.get? c=some o:=fun c o c1 c2 c3 c4 e=>s5.extBut _ _ c2 (s4.extBut _ _ c4 (s3.extBut _ _ c2 (s2.extBut _ _ c3 (s1.extBut _ _ c1 e))))
  have p1 : SqI g5 b1 i1 l1 (k1 + 1):=((p2.ext s3.extBut D.TOi1.symm).ext s4.extBut D.i12).ext s5.extBut D.TOi1.symm
  have p5 : SqI g5 b2 i2 l2 (k2 + 1):=p4.ext s5.extBut D.TOi2.symm
  have q1 : i1 < g5.objs.size:=let ⟨_,e,_⟩:=p1.obj; Heap.lt_size e
  have q2 : i2 < g5.objs.size:=let ⟨_,e,_⟩:=p5.obj; Heap.lt_size e
  (show wpAny _ _ (ownedTupleHandOut (.ref z) (.ref g5.objs.size) >>= _) _ _ _; refine wpAny_bind ?_; unfold ownedTupleHandOut)
  have z6 : IsZip (g5.push { cls:=.type "tuple",data:=.seq #[x,y] }) z TI TO .ellipsis:=Heap.get?_push_of_some _ z5
  refine wpAny_bind (wpAny_setField_rec z6 (by simp) fun g7 z7 s7=>?_)
  replace z7 : IsZip g7 z TI TO (rawInt g5.objs.size):=z7
  refine wpAny_setField_rec z7 (by simp) fun g8 z8 s8=>?_
  replace z8 : IsZip g8 z TI TO (rawInt g5.objs.size):=z8
  have up : ∀ c o,c≠z→g5.get? c=some o→g8.get? c=some o:=fun c o c1 e=>s8.extBut _ _ c1 (s7.extBut _ _ c1 (Heap.get?_push_of_some _ e))
  have nT : g5.objs.size≠z:=Nat.ne_of_gt (Heap.lt_size z5)
  have T8 : IsPair g8 g5.objs.size x y:=s8.extBut _ _ nT (s7.extBut _ _ nT (Heap.get?_push_size _ rfl))
  have e8 : g8.objs.size=g5.objs.size + 1:=by rw [s8.1,s7.1,Heap.size_push]
  refine wpAny_pure ⟨_,rfl,?_⟩
  rw [ez] at z8 T8 e8 ⊢
  exact hq g8 z8 (up _ _ D.TOz t5) (p1.keep fun o e=>up _ o D.i1z e) (p5.keep fun o e=>up _ o D.i2z e) T8 e8 fun c o c1 c2 c3 c4 e=>up c o c1 (kp c o c1 c2 c3 c4 e)
theorem zipS_end {Q : Fin→Shared→Prop} (hh : A.handled=none) (D : ZipApart z TI TO i1 i2 l1 l2) (hz : IsZip s.heap z TI TO .none) (hTI : IsPair s.heap TI (.ref i1) (.ref i2)) (hTO : IsPair s.heap TO a b)
    (h1 : SqI s.heap b1 i1 l1 k1) (h2 : SqI s.heap b2 i2 l2 k2) (hl1 : SqH s.heap b1 l1 xs) (hl2 : SqH s.heap b2 l2 ys) (hend : xs[k1]? = none∨ys[k2]? = none)
    (hE : ∀ h' e,(∀ c o,c≠z→c≠TO→c≠i1→c≠i2→s.heap.get? c=some o→h'.get? c=some o)→(∃ o,h'.get? e=some o∧o.cls = .type "StopIteration")→E (.ref e) { s with heap:=h' }) :
    wpAny (model prog w) A (Builtin.«zip.__next__» ⟨[.ref z],[]⟩) Q E s:=by
  (show wpAny _ _ (field (.ref z) 2 >>= _) _ _ _; refine wpAny_bind (wpAny_field hz rfl (x:=.bool false) rfl ?_))
  (show wpAny _ _ (field (.ref z) 3 >>= _) _ _ _; refine wpAny_bind (wpAny_field hz rfl (x:=.ref TI) rfl (wpAny_bind (wpAny_seqItems hTI rfl ?_))))
  (show wpAny _ _ (ownedTupleIsFree (.ref z) >>= _) _ _ _; refine wpAny_bind ?_)
  (unfold ownedTupleIsFree; refine wpAny_bind (wpAny_field hz rfl (x:=.none) rfl (wpAny_pure ?_)))
  (simp only [if_true]; refine wpAny_bind (wpAny_rule (wpAny_bind (wpAny_field hz rfl (x:=.ref TO) rfl ?_))))
  refine wpAny_bind (wpAny_setField_rec hz (by simp) fun g1 z1 s1=>?_)
  replace z1 : IsZip g1 z TI TO .ellipsis:=z1
  (refine wpAny_bind ?_; simp only [List.zipIdx_cons,List.zipIdx_nil,List.forIn_cons,List.forIn_nil])
  (refine wpAny_bind (wpAny_bind (wpAny_onRaise ?_)); show wpAny _ _ (nextOf (.ref i1) >>= _) _ _ _)
  cases ex : xs[k1]? with
  | none=>
    refine wpAny_bind (sq_end hh (h1.ext s1.extBut D.i1z) (hl1.ext s1.extBut D.l1z) ex fun g2 e s2 ⟨oe,he,ce⟩=>?_)
    have z2 : IsZip g2 z TI TO .ellipsis:=s2 _ _ D.i1z.symm z1
    have nez : e≠z:=fun q=>by subst q; rw [z2] at he; cases he; simp at ce
    exact wpAny_setField_rec z2 (by simp) fun g3 _ s3=>hE g3 e (fun c o c1 _ c3 _ q=>s3.extBut _ _ c1 (s2 _ _ c3 (s1.extBut _ _ c1 q))) ⟨oe,s3.extBut _ _ nez he,ce⟩
  | some x=>
    have ey : ys[k2]? = none:=by rcases hend with q | q; rw [ex] at q; cases q; exact q
    refine wpAny_bind (sq_next (h1.ext s1.extBut D.i1z) (hl1.ext s1.extBut D.l1z) ex fun g2 p2 s2=>wpAny_pure ?_)
    have t2 : IsPair g2 TO a b:=s2.extBut _ _ D.TOi1 (s1.extBut _ _ D.TOz hTO)
    refine wpAny_bind (wpAny_seqItems t2 rfl (wpAny_bind (wpAny_updateSeq_pair t2 fun g3 t3 s3=>?_)))
    (refine wpAny_bind (wpAny_letGo (wpAny_pure ?_)); refine wpAny_bind (wpAny_bind (wpAny_onRaise ?_)); show wpAny _ _ (nextOf (.ref i2) >>= _) _ _ _)
    refine wpAny_bind (sq_end hh (((h2.ext s1.extBut D.i2z).ext s2.extBut D.i12.symm).ext s3.extBut D.TOi2.symm) (((hl2.ext s1.extBut D.l2z).ext s2.extBut D.l2i1).ext s3.extBut D.l2TO) ey fun g4 e s4 ⟨oe,he,ce⟩=>?_)
    have z4 : IsZip g4 z TI TO .ellipsis:=s4 _ _ D.i2z.symm (s3.extBut _ _ D.TOz.symm (s2.extBut _ _ D.i1z.symm z1))
    have nez : e≠z:=fun q=>by subst q; rw [z4] at he; cases he; simp at ce
    exact wpAny_setField_rec z4 (by simp) fun g5 _ s5=>hE g5 e (fun c o c1 c2 c3 c4 q=>s5.extBut _ _ c1 (s4 _ _ c4 (s3.extBut _ _ c2 (s2.extBut _ _ c3 (s1.extBut _ _ c1 q))))) ⟨oe,s5.extBut _ _ nez he,ce⟩
end
end L2
namespace L2
open PySem PySem.Spec PyProof.Rows PySem.Builtin.SmallTypes
def itName : Bool→String
  | true => "list_iterator"
  | false => "tuple_iterator"
abbrev zg1 (h : Heap) (b1 : Bool) (l1 : Addr) : Heap:=h.push { cls:=.type (itName b1),data:=.fields #[.ref l1,.int 0 0] }
abbrev zg2 (h : Heap) (b1 b2 : Bool) (l1 l2 : Addr) : Heap:=(zg1 h b1 l1).push { cls:=.type (itName b2),data:=.fields #[.ref l2,.int 0 0] }
abbrev zg3 (h : Heap) (b1 b2 : Bool) (l1 l2 : Addr) : Heap:=(zg2 h b1 b2 l1 l2).push { cls:=.type "tuple",data:=.seq #[.ref h.objs.size,.ref (zg1 h b1 l1).objs.size] }
abbrev zg4 (h : Heap) (b1 b2 : Bool) (l1 l2 : Addr) : Heap:=(zg3 h b1 b2 l1 l2).push { cls:=.type "tuple",data:=.seq #[.none,.none] }
abbrev zg5 (h : Heap) (b1 b2 : Bool) (l1 l2 : Addr) : Heap:=(zg4 h b1 b2 l1 l2).push { cls:=.type "zip",data:=.fields #[.none,.bool false,.bool false,.ref (zg2 h b1 b2 l1 l2).objs.size,.ref (zg3 h b1 b2 l1 l2).objs.size] }
theorem meetsZip (b1 b2 : Bool) (l1 l2 : Addr) (xs ys : Array Value) :
    Meets (Builtin.«zip.__new__» ⟨[.type "zip",.ref l1,.ref l2],[]⟩) (fun _ R s=>SqH s.heap b1 l1 xs∧SqH s.heap b2 l2 ys ∧
      R (.ok (.ret (.ref (zg4 s.heap b1 b2 l1 l2).objs.size))) { s with heap:=zg5 s.heap b1 b2 l1 l2 }):=
  .of_wp fun prog w A R s h=>by
    obtain ⟨hp,g,d,tk,os⟩:=s; obtain ⟨q1,q2,h⟩:=h
    have hsub:=sub_zip
    cases b1 with
    | true=>
      have g1 : Heap.IsList (Shared.heap ⟨hp,g,d,tk,os⟩) l1 xs:=q1
      cases b2 with
      | true=>
        have g2 : Heap.IsList (Shared.heap ⟨hp.push { cls:=.type "list_iterator",data:=.fields #[.ref l1,.int 0 0] },g,d,tk,os⟩) l2 ys:=Heap.IsList.push (show hp.IsList l2 ys from q2) _
        wp_walk using wpAny_pyIter_list g1,wpAny_pyIter_list g2
        exact ⟨_,rfl,h⟩
      | false=>
        have g2 : Heap.IsTuple (Shared.heap ⟨hp.push { cls:=.type "list_iterator",data:=.fields #[.ref l1,.int 0 0] },g,d,tk,os⟩) l2 ys:=Heap.IsTuple.push (show hp.IsTuple l2 ys from q2) _
        wp_walk using wpAny_pyIter_list g1,wpAny_pyIter_tuple g2
        exact ⟨_,rfl,h⟩
    | false=>
      have g1 : Heap.IsTuple (Shared.heap ⟨hp,g,d,tk,os⟩) l1 xs:=q1
      cases b2 with
      | true=>
        have g2 : Heap.IsList (Shared.heap ⟨hp.push { cls:=.type "tuple_iterator",data:=.fields #[.ref l1,.int 0 0] },g,d,tk,os⟩) l2 ys:=Heap.IsList.push (show hp.IsList l2 ys from q2) _
        wp_walk using wpAny_pyIter_tuple g1,wpAny_pyIter_list g2
        exact ⟨_,rfl,h⟩
      | false=>
        have g2 : Heap.IsTuple (Shared.heap ⟨hp.push { cls:=.type "tuple_iterator",data:=.fields #[.ref l1,.int 0 0] },g,d,tk,os⟩) l2 ys:=Heap.IsTuple.push (show hp.IsTuple l2 ys from q2) _
        wp_walk using wpAny_pyIter_tuple g1,wpAny_pyIter_tuple g2
        exact ⟨_,rfl,h⟩
theorem sqi_new {h : Heap} {b : Bool} {it a : Addr} (e : h.get? it=some { cls:=.type (itName b),data:=.fields #[.ref a,.int 0 0] }) : SqI h b it a 0:=by
  cases b with
  | true=>exact (show h.IsListIter it a 0 from ⟨_,e,rfl,rfl⟩)
  | false=>exact (show h.IsTupleIter it a 0 from ⟨_,e,rfl,rfl⟩)
section
variable {prog : Program} {w : World} {A : Around} {E : Value→Shared→Prop} {s : Shared}
theorem call_zipS {b1 b2 : Bool} {l1 l2 : Addr} {xs ys : Array Value} {Q : Value→Shared→Prop} (q1 : SqH s.heap b1 l1 xs) (q2 : SqH s.heap b2 l2 ys)
    (hq : ∀ h',IsZip h' (s.heap.objs.size + 4) (s.heap.objs.size + 2) (s.heap.objs.size + 3) .none→IsPair h' (s.heap.objs.size + 2) (.ref s.heap.objs.size) (.ref (s.heap.objs.size + 1))→IsPair h' (s.heap.objs.size + 3) .none .none→
      SqI h' b1 s.heap.objs.size l1 0→SqI h' b2 (s.heap.objs.size + 1) l2 0→(∀ c o,s.heap.get? c=some o→h'.get? c=some o)→Q (.ref (s.heap.objs.size + 4)) { s with heap:=h' }) :
    wpAny (model prog w) A (call (.type "zip") [.ref l1,.ref l2]) Q E s:=by
  refine callType_new F.called_zip (by decide) (F.typeCall_zip_2 _ _) (F.newCall_zip_2 _ _) (fun obj=>F.args_object_init_3 obj _ _) F.entry_zip_new (meetsZip b1 b2 l1 l2 xs ys) ⟨q1,q2,?_⟩
  have n1 : (zg1 s.heap b1 l1).objs.size=s.heap.objs.size + 1:=Heap.size_push ..
  have n2 : (zg2 s.heap b1 b2 l1 l2).objs.size=s.heap.objs.size + 2:=by rw [Heap.size_push,n1]
  have n3 : (zg3 s.heap b1 b2 l1 l2).objs.size=s.heap.objs.size + 3:=by rw [Heap.size_push,n2]
  have n4 : (zg4 s.heap b1 b2 l1 l2).objs.size=s.heap.objs.size + 4:=by rw [Heap.size_push,n3]
  have p5 : (zg5 s.heap b1 b2 l1 l2).get? (zg4 s.heap b1 b2 l1 l2).objs.size=some _:=Heap.get?_push_size _ rfl
  have p4 : (zg5 s.heap b1 b2 l1 l2).get? (zg3 s.heap b1 b2 l1 l2).objs.size=some _:=Heap.get?_push_of_some _ (Heap.get?_push_size _ rfl)
  have p3 : (zg5 s.heap b1 b2 l1 l2).get? (zg2 s.heap b1 b2 l1 l2).objs.size=some _:=Heap.get?_push_of_some _ (Heap.get?_push_of_some _ (Heap.get?_push_size _ rfl))
  have p2 : (zg5 s.heap b1 b2 l1 l2).get? (zg1 s.heap b1 l1).objs.size=some _:=Heap.get?_push_of_some _ (Heap.get?_push_of_some _ (Heap.get?_push_of_some _ (Heap.get?_push_size _ rfl)))
  have p1 : (zg5 s.heap b1 b2 l1 l2).get? s.heap.objs.size=some _:=Heap.get?_push_of_some _ (Heap.get?_push_of_some _ (Heap.get?_push_of_some _ (Heap.get?_push_of_some _ (Heap.get?_push_size _ rfl))))
  rw [n2,n3,n4] at p5
  rw [n1,n2] at p3
  rw [n3] at p4
  rw [n1] at p2
  show _∧_
  rw [n4]
  exact ⟨⟨_,p5,rfl⟩,hq _ p5 p3 p4 (sqi_new p1) (sqi_new p2) fun c o e=>Heap.get?_push_of_some _ (Heap.get?_push_of_some _ (Heap.get?_push_of_some _ (Heap.get?_push_of_some _ (Heap.get?_push_of_some _ e))))⟩
variable {z TI TO i1 i2 l1 l2 : Addr} {b1 b2 : Bool} {k1 k2 : Nat} {xs ys : Array Value} {x y a b : Value}
theorem nextZip_item {Q : Option Value→Shared→Prop} (D : ZipApart z TI TO i1 i2 l1 l2) (hz : IsZip s.heap z TI TO .none) (hTI : IsPair s.heap TI (.ref i1) (.ref i2)) (hTO : IsPair s.heap TO a b)
    (h1 : SqI s.heap b1 i1 l1 k1) (h2 : SqI s.heap b2 i2 l2 k2) (hl1 : SqH s.heap b1 l1 xs) (hl2 : SqH s.heap b2 l2 ys) (hx : xs[k1]? = some x) (hy : ys[k2]? = some y)
    (hq : ∀ h',IsZip h' z TI TO (rawInt s.heap.objs.size)→IsPair h' TO x y→SqI h' b1 i1 l1 (k1 + 1)→SqI h' b2 i2 l2 (k2 + 1)→IsPair h' s.heap.objs.size x y→
      (∀ c o,c≠z→c≠TO→c≠i1→c≠i2→s.heap.get? c=some o→h'.get? c=some o)→Q (some (.ref s.heap.objs.size)) { s with heap:=h' }) : wpAny (model prog w) A (pyNext (.ref z)) Q E s:=by
  have ty : s.TypeIs (.ref z) "zip" := ⟨_,hz,rfl⟩
  (unfold pyNext; exact wpAny_bind (wpAny_attempt (wpAny_callSpecial?_slot (name:=Str.ofString "__next__") ty F.slot_zip_next (wpAny_call_entry F.slot_zip_next ty F.entry_zip_next (zipS_item D hz hTI hTO h1 h2 hl1 hl2 hx hy fun h' a1 a2 a3 a4 a5 _ a7=>wpAny_pure (hq h' a1 a2 a3 a4 a5 a7)) (F.args_zip_next_1 _)))))
theorem nextZip_end {Q : Option Value→Shared→Prop} (hh : A.handled=none) (D : ZipApart z TI TO i1 i2 l1 l2) (hz : IsZip s.heap z TI TO .none) (hTI : IsPair s.heap TI (.ref i1) (.ref i2)) (hTO : IsPair s.heap TO a b)
    (h1 : SqI s.heap b1 i1 l1 k1) (h2 : SqI s.heap b2 i2 l2 k2) (hl1 : SqH s.heap b1 l1 xs) (hl2 : SqH s.heap b2 l2 ys) (hend : xs[k1]? = none∨ys[k2]? = none)
    (hq : ∀ h',(∀ c o,c≠z→c≠TO→c≠i1→c≠i2→s.heap.get? c=some o→h'.get? c=some o)→Q none { s with heap:=h' }) : wpAny (model prog w) A (pyNext (.ref z)) Q E s:=by
  have ty : s.TypeIs (.ref z) "zip" := ⟨_,hz,rfl⟩
  (unfold pyNext; refine wpAny_bind (wpAny_attempt (wpAny_callSpecial?_slot (name:=Str.ofString "__next__") ty F.slot_zip_next (wpAny_call_entry F.slot_zip_next ty F.entry_zip_next (zipS_end hh D hz hTI hTO h1 h2 hl1 hl2 hend fun h' e hk ⟨o,ho,hc⟩=>?_) (F.args_zip_next_1 _)))))
  exact wpAny_bind (wpAny_isInstance (T := "StopIteration") (b:=true) ⟨o,ho,hc⟩ isSubtype_stop (wpAny_pure (hq _ hk)))
end
end L2
namespace L2
open PySem PySem.Spec PyProof.Rows
def SqB (K : PySem.W.Frag) (H : Hp) (b : Bool) (a : Addr) (xs : List V) : Prop:=match b with
  | true=>SqL K H a xs
  | false=>SqT K H a xs
section
variable {X : Cx} {pins : List (Addr×Obj)} {σ : St} {H : Hp} {s : Shared}
theorem Inv.sqB {b : Bool} {a : Addr} {xs : List V} (I : Inv X pins σ H s) (h : SqB X.K H b a xs) : ∃ its : List Value,Vals xs its∧SqH s.heap b a its.toArray:=by
  cases b with
  | true=>obtain ⟨its,r,p,_⟩:=I.list h; exact ⟨its,r,p.isList⟩
  | false=>obtain ⟨its,r,p,_⟩:=I.tuple h; exact ⟨its,r,p⟩
theorem Inv.sqB_inj {b : Bool} {a : Addr} {xs ys : List V} (I : Inv X pins σ H s) (h : SqB X.K H b a xs) (h' : SqB X.K H b a ys) : xs=ys:=by
  cases b with
  | true=>exact I.list_inj h h'
  | false=>exact I.tuple_inj h h'
theorem Inv.turnedL {h' : Heap} {t' : Nat} {ch : List Addr} (I : Inv X pins σ H s) (hf : ∀ b∈ch,FpOk X pins H b) (k : ∀ b o,b ∉ ch→s.heap.get? b=some o→h'.get? b=some o) : Inv X pins σ H { s with heap:=h',toks:=t' }:=by
  have nt : ∀ b u,H b=some u→b ∉ ch:=fun b u e z=>by rw [(hf b z).1] at e; cases e
  have hL : X.env.locals ∉ ch:=fun z=>(hf _ z).2.1 rfl
  refine I.step (g':=s.gens) (d':=s.drawn) (ch:=ch) (fun b hb=>⟨(hf b hb).2.2.2.1,(hf b hb).2.1,(hf b hb).2.2.2.2.1,(hf b hb).2.2.2.2.2⟩) (fun b o _ _ hc e _=>k b o hc e) (fun b o _ _ hc e _=>⟨o.slots,k b o hc e⟩) (fun _ _ _ _ n=>n)
    (fun b o hc e=>⟨o,k b o hc e⟩) (fun _ _ e=>e) (fun _ _ _ e=>e) (fun b ps e=>⟨#[],by rw [e]; simp⟩) (fun m hm=>?_) (fun b u e=>?_) I.bare
  · obtain ⟨o,es,ep,ho,r⟩:=hm
    exact ⟨o,es,ep,k _ o hL ho,r⟩
  · refine (I.hok b u e).stay (fun c v hc q=>k c v ?_ q) (fun _ q=>q) fun _ _ q=>q
    rcases hc with z | z
    · rw [z]; exact nt b u e
    · exact nt c _ z
theorem Inv.trackNew {h' : Heap} {t' : Nat} {a : Addr} {o : HO} (I0 : Inv X pins σ H s) (I : Inv X pins σ H { s with heap:=h',toks:=t' }) (ha : s.heap.objs.size≤a) (new : ObjOk X.prog X.w (upd H a o) h' a o) : Inv X pins σ (upd H a o) { s with heap:=h',toks:=t' }:=by
  refine I.track (Heap.get?_none_of_le (Nat.le_trans I0.sz ha)) (I0.hok.fresh ha) (Nat.ne_of_gt (Nat.lt_of_lt_of_le I0.lt ha)) (fun x c e z=>?_) (fun p hp z=>?_) new
  · obtain ⟨v,q⟩:=I0.cell x c e
    exact absurd (Nat.lt_of_lt_of_le q.lt (by rw [z]; exact ha)) (Nat.lt_irrefl _)
  · exact absurd (Nat.lt_of_lt_of_le (Heap.lt_size (I0.pin p hp).1) (by rw [z]; exact ha)) (Nat.lt_irrefl _)
end
def Itz (K : PySem.W.Frag) (b1 b2 : Bool) (l1 l2 : Addr) : It:=
  ⟨fun i H=>∃ xs ys x y,SqB K H b1 l1 xs∧SqB K H b2 l2 ys∧xs[i]? = some x∧ys[i]? = some y,
   fun i H v H'=>∃ p x y,v = .ref p∧H p=none∧H' = upd H p (.tup [x,y])∧∀ xs ys,SqB K H b1 l1 xs→SqB K H b2 l2 ys→xs[i]? = some x∧ys[i]? = some y,
   fun i H=>∃ xs ys,SqB K H b1 l1 xs∧SqB K H b2 l2 ys∧(xs.length≤i∨ys.length≤i)⟩
def zipTn (z TI TO i1 i2 l1 l2 : Addr) (b1 b2 : Bool) (i : Nat) (h : Heap) : Prop:=IsZip h z TI TO .none∧IsPair h TI (.ref i1) (.ref i2)∧(∃ a b,IsPair h TO a b)∧SqI h b1 i1 l1 i∧SqI h b2 i2 l2 i
theorem turn_zip {P : Program} {w : World} {K : PySem.W.Frag} {es : List Expr} {x1 : Nat} {tp : Pos} {z TI TO i1 i2 l1 l2 : Addr} {b1 b2 : Bool} (D : ZipApart z TI TO i1 i2 l1 l2) :
    Turn P w K (.Tuple es x1 tp) (Itz K b1 b2 l1 l2) [z,TI,TO,i1,i2] z (zipTn z TI TO i1 i2 l1 l2 b1 b2) where
  mem:=by simp
  obj:=fun i h ⟨t1,t2,⟨a,b,t3⟩,t4,t5⟩ c hc=>by
    simp only [List.mem_cons,List.not_mem_nil,or_false] at hc
    rcases hc with rfl | rfl | rfl | rfl | rfl
    · exact ⟨_,t1,fun v q=>by cases q⟩
    · exact ⟨_,t2,fun v q=>by cases q⟩
    · exact ⟨_,t3,fun v q=>by cases q⟩
    · obtain ⟨o,e,vs,d⟩:=t4.obj; exact ⟨o,e,fun v q=>by rw [d] at q; cases q⟩
    · obtain ⟨o,e,vs,d⟩:=t5.obj; exact ⟨o,e,fun v q=>by rw [d] at q; cases q⟩
  keep:=fun i h h' ⟨t1,t2,⟨a,b,t3⟩,t4,t5⟩ k=>⟨k z (by simp) _ t1,k TI (by simp) _ t2,⟨a,b,k TO (by simp) _ t3⟩,t4.keep fun o e=>k i1 (by simp) o e,t5.keep fun o e=>k i2 (by simp) o e⟩
  item:=by
    intro X hP hw hK hc i pins s σ H E I hf st hg
    subst hP hw hK
    obtain ⟨t1,t2,⟨a,b,t3⟩,t4,t5⟩:=st
    obtain ⟨xs,ys,x,y,q1,q2,e1,e2⟩:=hg
    obtain ⟨us,r1,p1⟩:=I.sqB q1
    obtain ⟨vs,r2,p2⟩:=I.sqB q2
    obtain ⟨u,eu,ru⟩:=r1.get e1
    obtain ⟨v,ev,rv⟩:=r2.get e2
    refine nextZip_item (x:=u) (y:=v) D t1 t2 t3 t4 t5 p1 p2 (by simpa using eu) (by simpa using ev) fun h' a1 a2 a3 a4 a5 a7=>?_
    refine ⟨_,rfl,wpAny_letOwnedTupleGo_zip a1 fun h'' c1 c2=>?_⟩
    have nz : s.heap.objs.size≠z:=Nat.ne_of_gt (Heap.lt_size t1)
    have I1 : Inv X pins σ H { s with heap:=h'',toks:=s.toks }:=I.turnedL hf fun c o hc q=>by
      simp only [List.mem_cons,List.not_mem_nil,or_false,not_or] at hc
      exact c2.extBut c o hc.1 (a7 c o hc.1 hc.2.2.1 hc.2.2.2.1 hc.2.2.2.2 q)
    have I2:=I.trackNew (t':=s.toks) (o:=.tup [x,y]) I1 (Nat.le_refl _) ⟨by show 2≤sizeLine; decide,[u,v],.cons ru (.cons rv .nil),⟨_,c2.extBut _ _ nz a5,rfl,_,rfl⟩⟩
    have fr : H s.heap.objs.size=none:=I.hok.fresh (Nat.le_refl _)
    refine ⟨.ref s.heap.objs.size,_,I2,rfl,⟨s.heap.objs.size,x,y,rfl,fr,rfl,fun xs' ys' q1' q2'=>⟨by rw [I.sqB_inj q1' q1]; exact e1,by rw [I.sqB_inj q2' q2]; exact e2⟩⟩,⟨c1,c2.extBut _ _ D.TIz (a7 TI _ D.TIz D.TITO D.TIi1 D.TIi2 t2),⟨u,v,c2.extBut _ _ D.TOz a2⟩,a3.ext c2.extBut D.i1z,a4.ext c2.extBut D.i2z⟩,fun c hc=>?_⟩
    obtain ⟨o,eo⟩ : ∃ o,s.heap.get? c=some o:=by
      simp only [List.mem_cons,List.not_mem_nil,or_false] at hc
      rcases hc with rfl | rfl | rfl | rfl | rfl
      · exact ⟨_,t1⟩
      · exact ⟨_,t2⟩
      · exact ⟨_,t3⟩
      · obtain ⟨o,e,_⟩:=t4.obj; exact ⟨o,e⟩
      · obtain ⟨o,e,_⟩:=t5.obj; exact ⟨o,e⟩
    rw [upd_ne (Nat.ne_of_lt (Heap.lt_size eo))]
    exact (hf c hc).1
  done:=by
    intro X hP hw hK hc i pins s σ H E I hf st hg
    subst hP hw hK
    obtain ⟨t1,t2,⟨a,b,t3⟩,t4,t5⟩:=st
    obtain ⟨xs,ys,q1,q2,hl⟩:=hg
    obtain ⟨us,r1,p1⟩:=I.sqB q1
    obtain ⟨vs,r2,p2⟩:=I.sqB q2
    have n1:=r1.length
    have n2:=r2.length
    refine nextZip_end (I.ok.hd hc) D t1 t2 t3 t4 t5 p1 p2 ?_ fun h' kk=>⟨rfl,I.turnedL (t':=s.toks) hf fun c o hc q=>?_⟩
    · rcases hl with z | z
      · exact .inl (by simp; omega)
      · exact .inr (by simp; omega)
    · simp only [List.mem_cons,List.not_mem_nil,or_false,not_or] at hc
      exact kk c o hc.1 hc.2.2.1 hc.2.2.2.1 hc.2.2.2.2 q
  self:=fun _ _ _ _ _ st h=>wpAny_pyIter_zip st.1 h
section
variable {X : Cx} {es : List Expr} {x1 : Nat} {tp : Pos}
def iZip (K : PySem.W.Frag) (ta : TA) : TI:=fun σ H R=>ta σ H fun vs H1=>∃ b1 b2 l1 l2 xs ys,vs=[.ref l1,.ref l2]∧SqB K H1 b1 l1 xs∧SqB K H1 b2 l2 ys∧R (Itz K b1 b2 l1 l2) H1
theorem pi_zip {a b : Expr} {ta : TA} {p pos : Pos} (hg : Gl X "zip") (hm : X.mg "zip" = none) (ha : PA X [a,b] ta) (hs : starEach [a,b] X.env=[(false,eval a X.env),(false,eval b X.env)]:=by rfl) (hs2 : starEach [b] X.env=[(false,eval b X.env)]:=by rfl) :
    PI X (.Tuple es x1 tp) (.Call (.Name "zip" p) [a,b] [] pos) (iZip X.K ta):=by
  refine ⟨?_⟩
  intro pins s σ H R I h
  refine Call_ (ld_blt I hg hm boot_zip (PyProof.Rows.callWith_type1 (thn (ha pos pins s σ H _ I h) fun us s1 ⟨vs,H1,I1,r1,q1⟩=>?_) (by rw [hs,hs2]) (by rw [hs2]; rfl)))
  obtain ⟨b1,b2,l1,l2,xs,ys,rfl,q1,q2,q⟩:=q1
  obtain ⟨u,v,rfl,ru,rv⟩:=r1.two
  cases ru; cases rv
  obtain ⟨us1,_,p1⟩:=I1.sqB q1
  obtain ⟨us2,_,p2⟩:=I1.sqB q2
  have n1 : l1 < s1.heap.objs.size:=by
    cases b1 with
    | true=>obtain ⟨o,e,_⟩:=(show s1.heap.IsList l1 _ from p1); exact Heap.lt_size e
    | false=>obtain ⟨o,e,_⟩:=(show s1.heap.IsTuple l1 _ from p1); exact Heap.lt_size e
  have n2 : l2 < s1.heap.objs.size:=by
    cases b2 with
    | true=>obtain ⟨o,e,_⟩:=(show s1.heap.IsList l2 _ from p2); exact Heap.lt_size e
    | false=>obtain ⟨o,e,_⟩:=(show s1.heap.IsTuple l2 _ from p2); exact Heap.lt_size e
  refine call_zipS p1 p2 fun h' a1 a2 a3 a4 a5 kk=>?_
  refine wpAny_pyIter_zip a1 ?_
  have I2 : Inv X pins σ H1 { s1 with heap:=h',toks:=s1.toks }:=I1.kept kk
  refine ⟨_,[s1.heap.objs.size + 4,s1.heap.objs.size + 2,s1.heap.objs.size + 3,s1.heap.objs.size,s1.heap.objs.size + 1],_,_,H1,rfl,I2,turn_zip (zipApart_new n1 n2),⟨a1,a2,⟨_,_,a3⟩,a4,a5⟩,fun c hc=>?_,q⟩
  have hge : s1.heap.objs.size≤c:=by
    simp only [List.mem_cons,List.not_mem_nil,or_false] at hc
    rcases hc with rfl | rfl | rfl | rfl | rfl <;> omega
  exact I1.fpOk (H':=H1) hge (I1.hok.fresh hge)
end
end L2
namespace L2
open PySem PySem.Spec PyProof.Rows
section
variable {X : Cx}
theorem vals_bools : ∀ {bs : List Bool} {us : List Value},Vals (bs.map V.bl) us→us=bs.map Value.bool
  | [],_,.nil=>rfl
  | b :: r,_,.cons x t=>by rw [show _=Value.bool b from x,vals_bools t]; rfl
theorem range_all {bs : List Bool} : (List.range bs.length).all (fun i=>bs.getD i false)=bs.all id:=by
  rw [Bool.eq_iff_iff,List.all_eq_true,List.all_eq_true]
  constructor
  · intro h b hb
    obtain ⟨i,hi,rfl⟩:=List.mem_iff_getElem.mp hb
    have:=h i (List.mem_range.mpr hi)
    simpa [List.getD_eq_getElem?_getD,hi] using this
  · intro h i hi
    have hi':=List.mem_range.mp hi
    have:=h _ (List.getElem_mem hi')
    simpa [List.getD_eq_getElem?_getD,hi'] using this
theorem bools_at {bs : List Bool} {i : Nat} {v : Value} (h : (bs.map Value.bool).toArray[i]? = some v) : v = .bool (bs.getD i false):=by
  have h' : (bs.map Value.bool)[i]? = some v:=by simpa using h
  rw [List.getElem?_map] at h'
  cases e : bs[i]? with
  | none=>rw [e] at h'; cases h'
  | some b=>
    rw [e] at h'
    rw [List.getD_eq_getElem?_getD,e]
    exact (Option.some.inj h').symm
theorem call_allB (hc : X.calm=true) : CallR X (.builtin "all") (fun xs H Q=>∃ (p : Addr) (bs : List Bool),xs=[.ref p]∧SqL X.K H p (bs.map V.bl)∧Q (.bl (bs.all id)) H):=by
  intro pins s σ H xs us Q I r h
  obtain ⟨p,bs,rfl,hq,q⟩:=h
  obtain ⟨u,rfl,ru⟩:=r.one
  cases ru
  obtain ⟨its,rv,pl,hz⟩:=I.list hq
  have e:=vals_bools rv
  subst e
  have nl : p≠s.heap.objs.size:=by obtain ⟨o,e,_⟩:=pl.isList; exact Nat.ne_of_lt (Heap.lt_size e)
  refine call_all_walk (wpAny_pyIter_list pl.isList ?_)
  refine ⟨s.heap.objs.size,_,_,_,_,_,fun i=>bs.getD i false,rfl,Walks.list (A:=X.A.in1) (I.ok.hd hc) s.heap.objs.size p nl (bs.map Value.bool).toArray,⟨⟨_,Heap.get?_push_size _ rfl,rfl,rfl⟩,pl.isList.push _⟩,?_,fun h' tk k=>?_⟩
  · intro i v s' Q' E' hP hq'
    rw [bools_at hP]
    exact wpAny_pure hq'
  · have e2 : (bs.map Value.bool).toArray.size=bs.length:=by simp
    rw [e2,range_all]
    refine ⟨.bl _,H,I.kept (t':=tk) (h':=h') fun b o e=>k b o ?_ (Heap.get?_push_of_some _ e),rfl,q⟩
    intro z
    have z' : b=s.heap.objs.size:=by simpa using z
    exact absurd (Heap.lt_size e) (by rw [z']; exact Nat.lt_irrefl _)
def CDivL (i j : Int) : Prop:=0 < j∧j < 18446744073709551616
theorem op_fdivL : OpR X (binaryOp .FloorDiv) (rI CDivL fun i j=>.int (i / j)):=opI fun i j _ _ _ _ _ hc q=>by
  have hj : j.natAbs.log2 < 9000:=by
    have h0 : j.natAbs≠0:=by have:=hc.1; omega
    have h1 : j.natAbs < 2 ^ 64:=by
      have h2:=hc.1
      have h3 : j < 2 ^ 64:=hc.2
      omega
    have:=(Nat.log2_lt h0).mpr h1
    omega
  have e : i / j=i.fdiv j:=(Int.fdiv_eq_ediv_of_nonneg i (Int.le_of_lt hc.1)).symm
  rw [e] at q
  exact floordiv_int (by have:=hc.1; omega) q (.inl (PyProof.noPylong_of_log2 hj))
def clsV : V→Option Value
  | .ty n=>some (.type n)
  | .ref a=>some (.ref a)
  | _=>none
theorem clsV_rel {c : V} {u w : Value} (r : RelV c u) (h : clsV c=some w) : u=w:=by
  cases c with
  | ty n=>cases h; exact r
  | ref a=>cases h; exact r
  | _=>cases h
def rIsi (K : PySem.W.Frag) : List V→Hp→VK→Prop:=fun xs H Q=>∃ x c t w b,xs=[x,c]∧clsV c=some w∧TyOf K H x t∧PySem.W.kitOne K t w=some b∧Q (.bl b) H
theorem call_isi : CallR X (.builtin "isinstance") (rIsi X.K):=by
  intro pins s σ H xs us Q I r h
  obtain ⟨x,c,t,w,b,rfl,hw,ty,e,q⟩:=h
  obtain ⟨u,v,rfl,ru,rv⟩:=r.two
  rw [clsV_rel rv hw]
  exact isinst_ok I ru ty e fun tk=>⟨.bl b,H,I.tok tk,rfl,q⟩
def rIsX (K : PySem.W.Frag) : List V→Hp→VK→Prop:=fun xs H Q=>∃ a c D w b,xs=[.ref a,c]∧clsV c=some w∧H a=some (.ext (IsX a (.ref D)))∧XCls K D∧PySem.W.kitOne K (.ref D) w=some b∧Q (.bl b) H
theorem call_isX : CallR X (.builtin "isinstance") (rIsX X.K):=by
  intro pins s σ H xs us Q I r h
  obtain ⟨a,c,D,w,b,rfl,hw,hH,hx,e,q⟩:=h
  obtain ⟨u,v,rfl,ru,rv⟩:=r.two
  rw [clsV_rel rv hw]
  cases ru
  obtain ⟨p,_,_⟩:=I.hok a _ hH
  exact xc_isi I.kIn hx p e fun tk=>⟨.bl b,H,I.tok tk,rfl,q⟩
end
end L2
namespace L2
open PySem PySem.Spec PyProof.Rows
section
variable {X : Cx} {pins : List (Addr×Obj)} {σ : St} {H : Hp} {s : Shared}
theorem tyof_kit {x : V} {u t : Value} (I : Inv X pins σ H s) (rx : RelV x u) (ty : TyOf X.K H x t) : ∃ φ : Heap→Prop,PySem.W.KitX X.K u t φ∧φ s.heap∧u≠.builtin "__main__.__loader__#opaque" := by
  cases ty with
  | non=>cases (show u=Value.none from rx); exact ⟨_,PySem.W.kitx_none,True.intro,(fun z=>nomatch z)⟩
  | bl y=>cases (show u=Value.bool y from rx); exact ⟨_,PySem.W.kitx_bool,True.intro,(fun z=>nomatch z)⟩
  | int i=>obtain ⟨t,q⟩:=(show ∃ t,u=Value.int i t from rx); cases q; exact ⟨_,PySem.W.kitx_int,True.intro,(fun z=>nomatch z)⟩
  | str y=>obtain ⟨t,q⟩:=(show ∃ t,u=Value.str y t from rx); cases q; exact ⟨_,PySem.W.kitx_str,True.intro,(fun z=>nomatch z)⟩
  | flt y=>obtain ⟨t,q⟩:=(show ∃ t,u=Value.float y t from rx); cases q; exact ⟨_,PySem.W.kitx_float,True.intro,(fun z=>nomatch z)⟩
  | @lst a xs ea=>
    cases (show u=Value.ref a from rx)
    obtain ⟨_,_,n,_,h1⟩:=(show ObjOk X.prog X.w H s.heap a (.lst xs) from I.hok a _ ea)
    exact ⟨_,PySem.W.kitx_list,⟨_,h1,rfl⟩,(fun z=>nomatch z)⟩
  | @frz a ob xs ea=>
    cases (show u=Value.ref a from rx)
    obtain ⟨_,_,_,n,_,h1⟩:=(show ObjOk X.prog X.w H s.heap a (.frz ob (.lst xs)) from I.hok a _ ea)
    exact ⟨_,PySem.W.kitx_list,⟨_,h1,rfl⟩,(fun z=>nomatch z)⟩
  | @tup a xs ea=>
    cases (show u=Value.ref a from rx)
    obtain ⟨_,_,_,p⟩:=(show ObjOk X.prog X.w H s.heap a (.tup xs) from I.hok a _ ea)
    obtain ⟨o,h1,h2,_⟩:=p
    exact ⟨_,PySem.W.kitx_tuple,⟨o,h1,h2⟩,(fun z=>nomatch z)⟩
  | @dK a kvs ea=>
    cases (show u=Value.ref a from rx)
    obtain ⟨_,_,vs,_,p⟩:=(show ObjOk X.prog X.w H s.heap a (.dK kvs) from I.hok a _ ea)
    obtain ⟨o,es,ep,h1,h2,_⟩:=p
    exact ⟨_,PySem.W.kitx_dict,⟨o,h1,h2.1⟩,(fun z=>nomatch z)⟩
  | @dT a kvs ea=>
    cases (show u=Value.ref a from rx)
    obtain ⟨_,_,xs,_,o,es,ep,h1,h2,_⟩:=(show ObjOk X.prog X.w H s.heap a (.dT kvs) from I.hok a _ ea)
    exact ⟨_,PySem.W.kitx_dict,⟨o,h1,h2.1⟩,(fun z=>nomatch z)⟩
  | @ins a C dx fs ea cl ha hn htk hm=>
    cases (show u=Value.ref a from rx)
    obtain ⟨mA,O,_⟩:=ins_get I.hok ea
    obtain ⟨od,J,_⟩:=O.look
    exact ⟨_,PySem.W.kitx_own (cl.get _) cl.hd ha hn htk hm,J,(fun z=>nomatch z)⟩
theorem cls_all : ∀ {cs : List V} {us ws : List Value},Vals cs us→cs.map clsV=ws.map some→us=ws
  | [],_,[],.nil,_=>rfl
  | c :: cs,_,w :: ws,.cons r t,e=>by
    rw [List.map_cons,List.map_cons] at e
    injection e with e1 e2
    rw [clsV_rel r e1,cls_all t e2]
def rIsT (K : PySem.W.Frag) : List V→Hp→VK→Prop:=fun xs H Q=>∃ x p cs t ws b,xs=[x,.ref p]∧H p=some (.tup cs)∧cs.map clsV=ws.map some∧TyOf K H x t∧PySem.W.kitAny K t ws=some b∧Q (.bl b) H
theorem call_isT : CallR X (.builtin "isinstance") (rIsT X.K):=by
  intro pins s σ H xs us Q I r h
  obtain ⟨x,p,cs,t,ws,b,rfl,hp,hc,ty,e,q⟩:=h
  obtain ⟨u,v,rfl,ru,rv⟩:=r.two
  cases rv
  obtain ⟨φ,Z,hφ,hne⟩:=tyof_kit I ru ty
  obtain ⟨_,its,rs,⟨ob,h1,h2,n,h3⟩⟩:=(show ObjOk X.prog X.w H s.heap p (.tup cs) from I.hok p _ hp)
  have ei:=cls_all rs hc
  subst ei
  obtain ⟨oc,od,dt,sl⟩:=ob
  dsimp only at h2 h3
  subst h2 h3
  exact PySem.W.kia_tup Z I.kIn hφ h1 e hne fun tk=>⟨.bl b,H,I.tok tk,rfl,q⟩
end
inductive EqD (H : Hp) : Nat→V→V→Prop
  | flat {n : Nat} {v : V} (h : flatV v=true) : EqD H n v v
  | tup {n : Nat} {p q : Addr} {xs ys : List V} (h1 : H p=some (.tup xs)) (h2 : H q=some (.tup ys)) (hl : xs.length=ys.length) (hs : xs.length≤1000) (h : ∀ (i : Nat) x y,xs[i]? = some x→ys[i]? = some y→EqD H n x y) : EqD H (n + 1) (.ref p) (.ref q)
  | lst {n : Nat} {p q : Addr} {xs ys : List V} (h1 : H p=some (.lst xs)) (h2 : H q=some (.lst ys)) (hl : xs.length=ys.length) (hs : xs.length≤1000) (h : ∀ (i : Nat) x y,xs[i]? = some x→ys[i]? = some y→EqD H n x y) : EqD H (n + 1) (.ref p) (.ref q)
theorem EqD.same {H H' : Hp} (s : Same H H') : ∀ {n : Nat} {v u : V},EqD H n v u→EqD H' n v u:=by
  intro n v u h
  induction h with
  | flat h=>exact .flat h
  | tup h1 h2 hl hs _ ih=>exact .tup (s _ _ h1) (s _ _ h2) hl hs fun i x y a b=>ih i x y a b
  | lst h1 h2 hl hs _ ih=>exact .lst (s _ _ h1) (s _ _ h2) hl hs fun i x y a b=>ih i x y a b
theorem same_new {H : Hp} {p : Addr} (h : H p=none) (o : HO) : Same H (upd H p o):=fun b u q=>by rw [upd_ne (ne_of_none q h)]; exact q
def plainE : Expr→Bool
  | .Starred ..=>false
  | _=>true
theorem star_plain {e : Expr} {es : List Expr} {env : Env} (h : plainE e=true) : starEach (e :: es) env=(false,eval e env) :: starEach es env:=by
  cases e <;> first | rfl | cases h
theorem pa_c {X : Cx} {e : Expr} {es : List Expr} {te : TE} {t : TA} (ha : PE X e te) (hr : PA X es t) (hn : plainE e=true:=by rfl) : PA X (e :: es) (tCons te t):=pa_cons ha hr (star_plain hn)
end L2
namespace L2
open PySem PySem.Spec PyProof.Rows
inductive EqB (K : PySem.W.Frag) (H : Hp) : Nat→V→V→Bool→Prop
  | flat {n : Nat} {x y : V} (hx : flatV x=true) (hy : flatV y=true) : EqB K H n x y (eqV x y)
  | same {n : Nat} {p : Addr} : EqB K H n (.ref p) (.ref p) true
  | tup {n : Nat} {a b : Addr} {xs ys : List V} (e : Nat→Bool) (hn : a≠b) (h1 : SqT K H a xs) (h2 : SqT K H b ys) (he : ∀ j x y,xs[j]? = some x→ys[j]? = some y→EqB K H n x y (e j)) : EqB K H (n + 1) (.ref a) (.ref b) ((List.range (min xs.length ys.length)).all e && xs.length == ys.length)
  | lst {n : Nat} {a b : Addr} {xs ys : List V} (e : Nat→Bool) (hn : a≠b) (hl : xs.length=ys.length) (h1 : SqL K H a xs) (h2 : SqL K H b ys) (he : ∀ j x y,xs[j]? = some x→ys[j]? = some y→EqB K H n x y (e j)) : EqB K H (n + 1) (.ref a) (.ref b) ((List.range xs.length).all e)
  | lsn {n : Nat} {a b : Addr} {xs ys : List V} (hl : xs.length≠ys.length) (h1 : SqL K H a xs) (h2 : SqL K H b ys) : EqB K H (n + 1) (.ref a) (.ref b) false
theorem in1_units {A : Around} : A.in1.units=A.units + 1:=rfl
section
variable {X : Cx} {pins : List (Addr×Obj)} {σ : St} {H : Hp} {s : Shared}
theorem items_eqAt {A : Around} {n : Nat} {xs ys : List V} {us vs : List Value} {e : Nat→Bool} (rx : Vals xs us) (ry : Vals ys vs) (h : ∀ j x y u v,xs[j]? = some x→ys[j]? = some y→RelV x u→RelV y v→SeqAt.EqAt A s u v (e j)) :
    ∀ j (h1 : j < us.toArray.size) (h2 : j < vs.toArray.size),SeqAt.EqAt A s us.toArray[j] vs.toArray[j] (e j):=fun j h1 h2=>by
  have l1:=rx.length
  have l2:=ry.length
  have g1 : j < xs.length:=by simp at h1; omega
  have g2 : j < ys.length:=by simp at h2; omega
  obtain ⟨u,eu,ru⟩:=rx.get (List.getElem?_eq_getElem g1)
  obtain ⟨v,ev,rv⟩:=ry.get (List.getElem?_eq_getElem g2)
  have e1 : us.toArray[j]=u:=by
    have:=List.getElem?_eq_some_iff.mp eu
    obtain ⟨_,e⟩:=this
    simpa using e
  have e2 : vs.toArray[j]=v:=by
    have:=List.getElem?_eq_some_iff.mp ev
    obtain ⟨_,e⟩:=this
    simpa using e
  rw [e1,e2]
  exact h j _ _ u v (List.getElem?_eq_getElem g1) (List.getElem?_eq_getElem g2) ru rv
theorem EqB.eqAt (I : Inv X pins σ H s) {n : Nat} {x y : V} {b : Bool} (h : EqB X.K H n x y b) : ∀ (A : Around) (u v : Value),A.units + n < cLine→RelV x u→RelV y v→SeqAt.EqAt A s u v b:=by
  induction h with
  | flat hx hy=>exact fun A u v _ rx ry=>eqAt_V rx ry hx hy
  | same=>intro A u v _ rx ry; cases rx; cases ry; exact SeqAt.EqAt.same _
  | @tup n a b xs ys e hn h1 h2 he ih=>
    intro A u v hu rx ry
    cases rx; cases ry
    obtain ⟨us,r1,p1,_⟩:=I.tuple h1
    obtain ⟨vs,r2,p2,_⟩:=I.tuple h2
    refine SeqAt.EqAt.of_refs hn ?_
    have:=SeqAt.RcAt.tuples (s:=s) (A:=A) (e:=e) p1 p2 (by omega) (items_eqAt (n:=n) r1 r2 fun j x y u v e1 e2 ru rv=>ih j x y e1 e2 A.in1 u v (by rw [in1_units]; omega) ru rv)
    have l1:=r1.length
    have l2:=r2.length
    simpa [l1,l2] using this
  | @lst n a b xs ys e hn hl h1 h2 he ih=>
    intro A u v hu rx ry
    cases rx; cases ry
    obtain ⟨us,r1,p1,_⟩:=I.list h1
    obtain ⟨vs,r2,p2,_⟩:=I.list h2
    have l1:=r1.length
    have l2:=r2.length
    refine SeqAt.EqAt.of_refs hn ?_
    have:=SeqAt.RcAt.lists (s:=s) (A:=A) (e:=e) p1.isList p2.isList (by simp; omega) (by omega) (items_eqAt (n:=n) r1 r2 fun j x y u v e1 e2 ru rv=>ih j x y e1 e2 A.in1 u v (by rw [in1_units]; omega) ru rv)
    simpa [l1,l2] using this
  | @lsn n a b xs ys hl h1 h2=>
    intro A u v hu rx ry
    cases rx; cases ry
    have hn : a≠b:=fun z=>by subst z; exact hl (by rw [I.list_inj h1 h2])
    obtain ⟨us,r1,p1,_⟩:=I.list h1
    obtain ⟨vs,r2,p2,_⟩:=I.list h2
    have l1:=r1.length
    have l2:=r2.length
    refine SeqAt.EqAt.of_refs hn ?_
    exact SeqAt.RcAt.lists_lengths (s:=s) (A:=A) p1.isList p2.isList (by simp; omega) (by omega)
def rCmpL (K : PySem.W.Frag) (neg : Bool) : R2:=fun x y H Q=>∃ a b xs ys,x = .ref a∧y = .ref b∧SqL K H a xs∧SqL K H b ys∧
  ((xs.length≠ys.length∧Q (.bl neg) H)∨(xs.length=ys.length∧∃ (n : Nat) (e : Nat→Bool),n≤32∧(∀ j x y,xs[j]? = some x→ys[j]? = some y→EqB K H n x y (e j))∧Q (.bl (neg != (List.range xs.length).all e)) H))
theorem op_neL (hu : X.A.units + 64 < cLine) : OpR X (compareOp .NotEq) (rCmpL X.K true):=by
  intro pins s σ H x y v u Q I rx ry h
  obtain ⟨a,b,xs,ys,rfl,rfl,h1,h2,h⟩:=h
  cases rx; cases ry
  obtain ⟨us,r1,p1,_⟩:=I.list h1
  obtain ⟨vs,r2,p2,_⟩:=I.list h2
  have l1:=r1.length
  have l2:=r2.length
  rcases h with ⟨hl,q⟩ | ⟨hl,n,e,hn,he,q⟩
  · exact SeqAt.RcNeAt.lists_lengths (s:=s) (A:=X.A) p1.isList p2.isList (by simp; omega) (by omega) _ _ _ _ ⟨.bl _,H,I,rfl,q⟩
  · refine SeqAt.RcNeAt.lists (s:=s) (A:=X.A) (e:=e) p1.isList p2.isList (by simp; omega) (by omega) (items_eqAt (n:=n) r1 r2 fun j x y u v e1 e2 ru rv=>(he j x y e1 e2).eqAt I _ u v (by rw [in1_units]; omega) ru rv) _ _ _ _ ⟨.bl _,H,I,rfl,?_⟩
    simpa [l1] using q
end
structure Cal (P : Program) (w : World) (K : PySem.W.Frag) (mg : Str→Option Value) (base : Heap) (CX : CXT) (k : Nat) (x : Str) (ps : List Str) (sp : Sp) : Prop where
  ex : ∃ (f : Addr) (fd : FuncData),FnOk P w K mg base CX k f fd ps sp∧Binds K fd ps []∧PySem.W.keepIn K (.ref f)=true∧mg x=some (.ref f)
theorem pe_cal {X : Cx} {CX : CXT} {k j : Nat} {ps : List Str} {sp : Sp} {E : XK} {x : Str} {p pos : Pos} {e : Expr} {es : List Expr} {t : TA} (F : Cal X.prog X.w X.K X.mg X.base CX k x ps sp) (hr : Room j X.A) (hg : Gl X x) (hx : Passes CX X E) (ha : PA X (e :: es) t)
    (hk : k≤j:=by decide) (hdb : (x == ("__debug__" : Str))=false:=by decide) (he : starEach (e :: es) X.env=(false,eval e X.env) :: starEach es X.env:=by rfl) (hpl : (backTo pos (starEach es X.env)).any (·.1)=false:=by rfl) :
    PE X (.Call (.Name x p) (e :: es) [] pos) (tCall sp [] E t):=by
  obtain ⟨f,fd,h1,h2,h3,h4⟩:=F.ex
  exact pe_call (h1.mono hk) hr hg h4 h3 h2 .nil hx ha hdb he hpl
end L2
namespace L2
open PySem PySem.Spec PyProof.Rows
section
variable {X : Cx} {es : List Expr} {x1 : Nat} {tp : Pos}
end
end L2
namespace L2
open PySem PySem.Spec PyProof.Rows
def relabelD (scope D : Scope) : List (Str×NameKind):=scope.names.map fun (n,k)=>if (k == .free && D.kind == .function && D.names.lookup n == some .cell) then (n,.cell) else (n,k)
def compOk (N N' : List Str) (ix : List (Option Nat)) (scope D : Scope) : Bool:=
  (scope.kind == .function) && (scope.names.all fun y=>(y.2 == .local && scope.names.lookup y.1 == some .local) || (y.2 == .free && D.names.lookup y.1 == some .cell) || (y.2 != .local && y.2 != .free && y.2 != .cell)) && decide N'.Nodup && (ix.length == N'.length) &&
  ((List.range N'.length).all fun k=>match ix[k]?,N'[k]? with
    | some (some j),some x=>N[j]? == some x && scope.names.contains (x,.free) && (relabelD scope D).lookup x == some .cell
    | _,_=>true)
theorem comp_scope {X : Cx} {N' : List Str} {ix : List (Option Nat)} {scope : Scope} {N : List Str} {D : Scope} (h : compOk N N' ix scope D=true) (hN : X.N=N:=by rfl) (hD : X.env.scope=D:=by rfl) : CompScope X N' ix scope:=by
  unfold compOk at h
  simp only [Bool.and_eq_true,decide_eq_true_eq] at h
  obtain ⟨⟨⟨⟨h1,h2⟩,h3⟩,h4⟩,h5⟩:=h
  have hall:=List.all_eq_true.mp h2
  refine ⟨by simpa using h1,fun y hy=>?_,fun y hy e=>?_,h3,by simpa using h4,fun y hy e=>?_,fun k j x e1 e2=>?_⟩
  · have:=hall y hy
    intro z
    rw [z] at this
    simp at this
  · have:=hall y hy
    rw [e] at this
    simpa using this
  · have:=hall y hy
    rw [e] at this
    have q : D.names.lookup y.1=some .cell:=by simpa using this
    show X.env.scope.names.lookup y.1=some .cell
    rw [hD]; exact q
  · have hk : k < N'.length:=(List.getElem?_eq_some_iff.mp e1).1
    have:=List.all_eq_true.mp h5 k (List.mem_range.mpr hk)
    rw [e1,e2] at this
    simp only [Bool.and_eq_true,beq_iff_eq] at this
    obtain ⟨⟨a1,a2⟩,a3⟩:=this
    refine ⟨by rw [hN]; exact a1,by simpa using a2,?_⟩
    show (relabelD scope X.env.scope).lookup x=some .cell
    rw [hD]; exact a3
end L2
namespace L2
open PySem PySem.Spec PyProof.Rows
def tTryE (i k : Nat) (E : XK) (tb : TS) (th : Addr→TS) : TS:=fun D σ H=>tb D σ H∧∀ (C a : Addr) (H1 : Hp),E (.ref C) none H1→H1 a=none→
  th a { nx:=fun σ' H'=>D.nx (σ'.set i none) H',rt:=D.rt,bk:=fun σ' H'=>D.bk (σ'.set i none) H',ct:=fun σ' H'=>D.ct (σ'.set i none) H' } ((List.replicate k none).set i (some (.ref a))) (upd H1 a (.ext (IsX a (.ref C))))
section
variable {X : Cx}
theorem ps_tryE {body : List Stmt} {b₀ : Stmt} {suite : List Stmt} {x n : Str} {C : Addr} {i : Nat} {E : XK} {tb : TS} {th : Addr→TS} {np hpos pos : Pos} (hN : X.N.Nodup) (hi : X.N[i]? = some n) (hl : X.env.scope.names.lookup n=some .local)
    (hfr : X.env.frame=some X.env.locals) (hstk : X.stack=X.env :: X.outer) (hg : Gl X x) (hm : X.mg x=some (.ref C)) (hcalm : X.calm=true) (hex : X.ex=[]) (hx : ∀ cls H,E cls none H→(∃ D,cls = .ref D)∧PySem.W.exmOne X.K cls (.ref C)=some true)
    (hb : ∀ pn xe,Passes (CXE X.prog X.w) (X.tryCx pn xe) E→PSs (X.tryCx pn xe) body tb) (hs : ∀ e,PSs (X.suite e) (b₀ :: suite) (th e)) (hd : (x == ("__debug__" : Str))=false:=by decide) :
    PS X (.Try body [.ExceptHandler (some (.Name x np)) (some n) (b₀ :: suite) hpos] [] [] pos) (tTryE i X.N.length E tb th):=by
  refine ⟨?_⟩
  intro pins s σ H D I ⟨h1,h2⟩
  refine wpAny_Try_except ?_
  refine wpAny_mono (hb (X.pn ++ pins) _ ?_ [] s σ H D I.toTry h1) (fun f s1 q=>?_) fun e s1 q=>q
  · -- what an exception finds here
    intro pins' σ' H' s0 e s' J hcx
    obtain ⟨a,cls,a0,H1,B,rfl,hos,hbare,hE,hok,hna,hnew,fly,u⟩:=hcx
    obtain ⟨⟨D1,rfl⟩,hmatch⟩:=hx cls H1 hE
    have land : ∀ (h'' : Heap) (tk : Nat),B.StaysIn h''→s'.heap.UpToSlots h''→Inv X pins (List.replicate X.N.length none) H1 { s' with heap:=h'',toks:=tk }:=fun h'' tk b1 b2=>by
      have J1:=(fly_land J hos hbare hok fly u b1 b2).tok tk
      exact (J1.ofTry' I.ok).weak (by rw [List.length_replicate]; exact J1.len.symm) fun k v e=>by
        rw [List.getElem?_replicate] at e
        split at e <;> cases e
    have fly' : Heap.FlyingW B (X.env :: X.outer) a (.ref D1) a0 s'.heap:=by rw [← hstk]; exact fly
    refine wpAny_looks_onW (L:=X.env.locals) (by rw [I.ok.frames,hstk]) hfr fly' fun h4 held4 up4=>?_
    refine wpAny_landsW held4 fun h5 fly5 up5=>?_
    have J5:=land h5 s'.toks fly5.1 (up4.trans up5)
    obtain ⟨o5,vs5,e5,c5,d5,_⟩:=fly5.first
    refine wpAny_handleBy_cons (codeAny_handlers_test (ld_glob (X:=X.suite a) (pins:=pins) (σ:=List.replicate X.N.length none) (H:=H1) J5.toSuite hg hm ?_ hd)) (by intro q; cases q)
    refine (PySem.W.exm_one (M:=model X.prog X.w) J5.kIn (xc_ty ⟨o5,vs5,e5,c5,d5⟩) hmatch).here ?_
    refine codeAny_handlers_suite_as ?_
    refine lands_againW fly5 fun h6 fly6 up6=>?_
    have J6:=land h6 s'.toks fly6.1 ((up4.trans up5).trans up6)
    obtain ⟨o6,vs6,e6,c6,d6,_⟩:=fly6.first
    have ne0 : ∀ b ob,s0.heap.get? b=some ob→b≠a:=fun b ob q z=>by rw [z,hnew] at q; cases q
    have JT : Inv X pins (List.replicate X.N.length none) (upd H1 a (.ext (IsX a (.ref D1)))) { s' with heap:=h6,toks:=s'.toks }:=by
      refine J6.track ?_ hna (fun z=>?_) (fun y c q z=>?_) (fun p hp z=>?_) ⟨⟨o6,vs6,e6,c6,d6⟩,⟨o6,e6⟩,fun g1 g2 ⟨o,vs,y1,y2,y3⟩ k=>⟨o,vs,k o y1,y2,y3⟩⟩
      · cases q : X.s₀.heap.get? a with
        | none=>rfl
        | some ob=>
          obtain ⟨ob',q1⟩:=J.base.there a ob q (by rw [show (X.tryCx _ _).ex=[] from hex]; intro z; cases z)
          exact absurd rfl (ne0 a ob' q1)
      · obtain ⟨m,⟨ob,_,_,q,_⟩,_⟩:=J.loc
        exact ne0 _ ob q z.symm
      · obtain ⟨v,ob,q1,_⟩:=J.cell y c q
        exact ne0 c ob q1 z
      · exact ne0 p.1 p.2 (J.pin p (List.mem_append_left _ hp)).1 z
    refine store_ok (X:=X) (i:=i) (v:=.ref a) JT hN hi (.inl hl) rfl (fun s7 J7=>?_) (.inr hl)
    refine wpAny_mono (hs a pins s7 _ _ _ J7.toSuite (h2 D1 a H1 hE hna)) (fun f s8 q8=>?_) fun _ _ z=>z.elim
    cases f with
    | next=>
      obtain ⟨σ8,H8,J8,q⟩:=q8
      exact (J8.ofSuite I.ok).nameGoes hN hi hl fun s9 J9=>⟨_,H8,J9,q⟩
    | brk=>
      obtain ⟨σ8,H8,J8,q⟩:=q8
      exact (J8.ofSuite I.ok).nameGoes hN hi hl fun s9 J9=>⟨_,H8,J9,q⟩
    | cont=>
      obtain ⟨σ8,H8,J8,q⟩:=q8
      exact (J8.ofSuite I.ok).nameGoes hN hi hl fun s9 J9=>⟨_,H8,J9,q⟩
    | ret v=>
      obtain ⟨v8,σ8,H8,J8,r8,q⟩:=q8
      exact (J8.ofSuite I.ok).nameGoes hN hi hl fun s9 J9=>⟨v8,_,H8,J9,r8,q⟩
  · cases f with
    | next=>exact wpAny_execs_nil (SP.ofTry I.ok q)
    | brk=>exact SP.ofTry I.ok q
    | cont=>exact SP.ofTry I.ok q
    | ret v=>exact SP.ofTry I.ok q
end
end L2
namespace L2
open PySem PySem.Spec PyProof.Rows
section
variable {K : PySem.W.Frag} {c d : Addr} {b : Bool} {v : Value}
theorem cls_some (h : PySem.W.mroIn K c v=some b) : (PySem.W.clsIn K c).isSome=true:=by
  unfold PySem.W.mroIn at h
  cases e : PySem.W.clsIn K c with
  | none=>rw [e] at h; cases h
  | some x=>rfl
theorem kit_of {t : Value} (h0 : (t == .ref d)=false) (h1 : (PySem.W.clsIn K d).isSome=true) (h2 : PySem.W.typeIn K (.ref d)=some (.type "type")) (h3 : PySem.W.subIn K t (.ref d)=some b) : PySem.W.kitOne K t (.ref d)=some b:=by
  unfold PySem.W.kitOne
  rw [if_neg (by rw [h0]; decide)]
  show (if ((PySem.W.clsIn K d).isSome && PySem.W.typeIn K (.ref d) == some (.type "type"))=true then PySem.W.subIn K t (.ref d) else none)=some b
  rw [h1,h2,if_pos (by simp)]
  exact h3
theorem kit_self : PySem.W.kitOne K (.ref c) (.ref c)=some true:=by
  unfold PySem.W.kitOne
  rw [if_pos (by simp)]
theorem kit_ne (hs : PySem.W.mroIn K c (.ref c)=some true) (h1 : (PySem.W.clsIn K d).isSome=true) (h2 : PySem.W.typeIn K (.ref d)=some (.type "type")) (h3 : PySem.W.mroIn K c (.ref d)=some false) : PySem.W.kitOne K (.ref c) (.ref d)=some false:=by
  refine kit_of ?_ h1 h2 h3
  refine Bool.eq_false_iff.mpr fun z=>?_
  have e : c=d:=Value.ref.inj (beq_iff_eq.mp z)
  subst e
  rw [hs] at h3
  cases h3
theorem kit_ty {T : String} (hm : PySem.W.kitMeta T=true) (h : PySem.W.mroIn K c (.type T)=some b) : PySem.W.kitOne K (.ref c) (.type T)=some b:=by
  unfold PySem.W.kitOne
  rw [if_neg (by intro z; cases beq_iff_eq.mp z)]
  show (if PySem.W.kitMeta T=true then PySem.W.subIn K (.ref c) (.type T) else none)=some b
  rw [if_pos hm]
  exact h
theorem exm_of (h0 : PySem.W.subIn K (.ref d) (.type "BaseException")=some true) (h1 : (PySem.W.clsIn K d).isSome=true) (h2 : PySem.W.typeIn K (.ref d)=some (.type "type")) (h3 : PySem.W.mroIn K c (.ref d)=some b) : PySem.W.exmOne K (.ref c) (.ref d)=some b:=by
  unfold PySem.W.exmOne
  rw [if_pos (by rw [h0]; simp)]
  show (if ((PySem.W.clsIn K d).isSome && PySem.W.typeIn K (.ref d) == some (.type "type"))=true then PySem.W.subIn K (.ref c) (.ref d) else none)=some b
  rw [h1,h2,if_pos (by simp)]
  exact h3
theorem meta_VE : PySem.W.kitMeta "ValueError" = true:=by decide +kernel
end
end L2
namespace L2
open PySem PySem.Spec PyProof.Rows
theorem Fun.okE {P : Program} {w : World} {K : PySem.W.Frag} {mg : Str→Option Value} {base : Heap} {x qual : Str} {st : Stmt} {f : Addr} {fd : FuncData} {N ps : List Str} {k : Nat} {sp : Sp} (F : Fun K x qual st f fd) (S : FnScope N ps (defScope st))
    (len : ∀ vs H Q E,sp vs H Q E→vs.length=ps.length)
    (hbody : ∀ (cdv : Value) (A : Around) (outer : List Env) (s : Shared) (H : Hp) (vs : List V) (Q : VK) (E : XK),Room k (A.deeper (envOfC qual (defScope st) s.heap.objs.size f cdv))→sp vs H Q E→
      ∃ t,PSs (cxOf (CXE P w) P w K mg base N qual (defScope st) f cdv A outer s H E) (defBody st) t∧t { nx:=fun _ H'=>Q .non H',rt:=Q } (start N vs) H) : FnOk P w K mg base (CXE P w) (k + 1) f fd ps sp:=by
  obtain ⟨oc,od,kV,doc,pm,an,cdv,ct,osl,rfl,lk,hcd⟩:=F.ex
  exact fn_of lk hcd S len fun A outer s H vs Q E hr hsp=>hbody cdv A outer s H vs Q E hr hsp
theorem tSeq_by {t u : TS} {D : Ends} {σ : St} {H : Hp} (R : St→Hp→Prop) (h1 : ∀ D' : Ends,(∀ σ' H',R σ' H'→D'.nx σ' H')→D'.rt=D.rt→t D' σ H) (h2 : ∀ σ' H',R σ' H'→u D σ' H') : tSeq t u D σ H:=h1 { D with nx:=u D } h2 rfl
theorem boot_VE : bootBuiltins "ValueError" = some (.type "ValueError"):=by decide +kernel
structure Bn (mg : Str→Option Value) : Prop where
  len : mg "len" = none
  list : mg "list" = none
  isi : mg "isinstance" = none
  bool : mg "bool" = none
  int : mg "int" = none
  str : mg "str" = none
  tuple : mg "tuple" = none
  all : mg "all" = none
  any : mg "any" = none
  zip : mg "zip" = none
  range : mg "range" = none
  max : mg "max" = none
  min : mg "min" = none
  enumerate : mg "enumerate" = none
  sum : mg "sum" = none
  sorted : mg "sorted" = none
  verr : mg "ValueError" = none
def KeepBut (a : Addr) (H H' : Hp) : Prop:=∀ b o,b≠a→H b=some o→H' b=some o
theorem KeepBut.refl {a : Addr} {H : Hp} : KeepBut a H H:=fun _ _ _ h=>h
theorem KeepBut.trans {a : Addr} {H H1 H2 : Hp} (x : KeepBut a H H1) (y : KeepBut a H1 H2) : KeepBut a H H2:=fun b o n h=>y b o n (x b o n h)
theorem KeepBut.upd {a : Addr} {H H1 : Hp} {o : HO} (x : KeepBut a H H1) : KeepBut a H (L2.upd H1 a o):=fun b u n h=>by rw [upd_ne n]; exact x b u n h
theorem KeepBut.new {a p : Addr} {H H1 : Hp} {o : HO} (x : KeepBut a H H1) (hp : H1 p=none) : KeepBut a H (L2.upd H1 p o):=fun b u n h=>by
  have:=x b u n h
  rw [upd_ne (ne_of_none this hp)]; exact this
theorem KeepBut.young {a p : Addr} {H H1 : Hp} {o : HO} (x : KeepBut a H H1) (hp : H p=none) : KeepBut a H (L2.upd H1 p o):=fun b u n h=>by
  rw [upd_ne (ne_of_none h hp)]; exact x b u n h
theorem KeepBut.of_same {a : Addr} {H H1 : Hp} (x : Same H H1) : KeepBut a H H1:=fun b o _ h=>x b o h
theorem KeepBut.none {a p : Addr} {H H' : Hp} (k : KeepBut a H H') (n : p≠a) (h : H' p=Option.none) : H p=Option.none:=by
  cases q : H p with
  | none=>rfl
  | some o=>rw [k p o n q] at h; cases h
theorem Same.young {p : Addr} {H H1 : Hp} {o : HO} (x : Same H H1) (hp : H p=none) : Same H (L2.upd H1 p o):=fun b u h=>by
  rw [upd_ne (ne_of_none h hp)]; exact x b u h
def Draw (H : Hp) (a c : Addr) (ns : List Int) (i x y z : Int) : Prop:=H a=some (.lst [.ref c,.int i,.int x,.int y,.int z])∧H c=some (.lst (ns.map V.int))∧c≠a∧0≤i∧0≤y∧y < 1000000007
def DrawAt (H : Hp) (a c : Addr) : Prop:=∃ ns i x y z,Draw H a c ns i x y z
theorem DrawAt.new {H : Hp} {a c p : Addr} {o : HO} (d : DrawAt H a c) (hp : H p=none) : DrawAt (L2.upd H p o) a c:=by
  obtain ⟨ns,i,x,y,z,h1,h2,r⟩:=d
  exact ⟨ns,i,x,y,z,by rw [upd_ne (ne_of_none h1 hp)]; exact h1,by rw [upd_ne (ne_of_none h2 hp)]; exact h2,r⟩
theorem DrawAt.upd {H : Hp} {a c p : Addr} {o : HO} (d : DrawAt H a c) (na : p≠a) (nc : p≠c) : DrawAt (L2.upd H p o) a c:=by
  obtain ⟨ns,i,x,y,z,h1,h2,r⟩:=d
  exact ⟨ns,i,x,y,z,by rw [upd_ne na.symm]; exact h1,by rw [upd_ne nc.symm]; exact h2,r⟩
theorem DrawAt.same {H H' : Hp} {a c : Addr} (d : DrawAt H a c) (s : Same H H') : DrawAt H' a c:=by
  obtain ⟨ns,i,x,y,z,h1,h2,r⟩:=d
  exact ⟨ns,i,x,y,z,s _ _ h1,s _ _ h2,r⟩
theorem DrawAt.there {H : Hp} {a c : Addr} (d : DrawAt H a c) : ∃ o,H a=some o:=by
  obtain ⟨ns,i,x,y,z,h1,_⟩:=d
  exact ⟨_,h1⟩
theorem DrawAt.ne {H : Hp} {a c p : Addr} (d : DrawAt H a c) (hp : H p=none) : p≠a:=by
  obtain ⟨o,e⟩:=d.there
  exact (ne_of_none e hp).symm
theorem DrawAt.nc {H : Hp} {a c p : Addr} (d : DrawAt H a c) (hp : H p=none) : p≠c:=by
  obtain ⟨ns,i,x,y,z,_,h2,_⟩:=d
  exact (ne_of_none h2 hp).symm
theorem DrawAt.neT {H : Hp} {a c p : Addr} {xs : List V} (d : DrawAt H a c) (hp : H p=some (.tup xs)) : p≠a:=by
  obtain ⟨_,_,_,_,_,h,_⟩:=d
  exact ne_of hp h (by intro z; cases z)
def spBegin (K : PySem.W.Frag) : Sp:=fun vs H Q _=>∃ (a : Addr) (ns : List Int),vs=[.ref a]∧SqL K H a (ns.map V.int)∧ns.length≤63∧∀ l c H',H l=none→H c=none→Same H H'→DrawAt H' l c→Q (.ref l) H'
def spPick : Sp:=fun vs H Q _=>∃ (a c : Addr) (m : Int),vs=[.ref a,.int m]∧DrawAt H a c∧0 < m∧m < 18446744073709551616∧∀ r H',0≤r→r < m→DrawAt H' a c→KeepBut a H H'→Q (.int r) H'
theorem cut_ints (ns : List Int) (lo hi : Option Int) : ∃ ms : List Int,cutV (ns.map V.int) lo hi=ms.map V.int∧ms.length≤ns.length:=by
  unfold cutV
  rw [← List.map_drop,← List.map_take]
  exact ⟨_,rfl,by rw [List.length_take,List.length_drop]; omega⟩
theorem atI_some {xs : List V} {r : Int} {v : V} (h0 : 0≤r) (h : xs[r.toNat]? = some v) : atI xs r=some v:=by
  have:=atI_nat (xs:=xs) (j:=r.toNat) (v:=v) h
  rw [show ((r.toNat : Nat) : Int)=r by omega] at this
  exact this
def rAddT : R2:=fun x y H Q=>∃ a b xs ys,x = .ref a∧y = .ref b∧H a=some (.tup xs)∧H b=some (.tup ys)∧xs.length + ys.length≤sizeLine∧∀ p H',Same H H'→H' p=some (.tup (xs ++ ys))→Q (.ref p) H'
theorem cat_tup0 {prog : Program} {w : World} {A : Around} {E : Value→Shared→Prop} {s : Shared} {t b : Addr} {vs ws : List Value} {Q : Value→Shared→Prop} (ht : IsTup s.heap t vs.toArray) (hb : IsTup s.heap b ws.toArray) (hv : vs=[]) (h1 : Q (.ref b) s) : wpAny (model prog w) A (binaryOp .Add (.ref t) (.ref b)) Q E s:=by
  obtain ⟨⟨cls,dd,data,sl⟩,ho,hc,n,hd⟩:=id ht
  obtain ⟨⟨cls2,dd2,data2,sl2⟩,ho2,hc2,n2,hd2⟩:=id hb
  simp only at hc hd hc2 hd2
  subst hc hd hc2 hd2
  exact concat_meets ⟨_,ho,rfl⟩ ⟨_,ho2,rfl⟩ noFill_tuple_add seq_tuple_add PySem.F.slot_tuple_add PySem.F.entry_tuple_add (PySem.F.args_tuple_add_2 _ _)
      (tuple_addW0 t b vs.toArray ws.toArray n n2 dd dd2 sl sl2 (by simp [hv])) ⟨ho,ho2,h1⟩
theorem op_addT {X : Cx} : OpR X (binaryOp .Add) rAddT:=by
  intro pins s σ H x y v u Q I rx ry h
  obtain ⟨a,b,xs,ys,rfl,rfl,ha,hb,hz,q⟩:=h
  by_cases hx : xs=[]
  · cases rx
    cases ry
    obtain ⟨its,r1,p1,_⟩:=I.tuple (SqT.of ha)
    obtain ⟨its2,r2,p2,_⟩:=I.tuple (SqT.of hb)
    exact cat_tup0 p1 p2 (r1.nil_iff.mpr hx) ⟨.ref b,H,I,rfl,q b H (Same.refl H) (by rw [hx]; exact hb)⟩
  · refine op_catT pins s σ H _ _ v u Q I rx ry ⟨a,b,xs,ys,rfl,rfl,SqT.of ha,SqT.of hb,hx,hz,fun e=>q a H (Same.refl H) (by rw [e,List.append_nil]; exact ha),fun e p hp=>q p _ (same_new hp _) upd_same⟩
end L2
namespace K55
open PySem L2
def top (i : Nat) : Stmt:=PySem.Challenge.pw_drawback_k55_lines_read_or_refused.main.body.getD i (.Pass ⟨0,0,0,0⟩)
abbrev s_begin : Stmt:=top 11
abbrev n_begin : List Str:=["_law_script"]
abbrev p_begin : List Str:=["_law_script"]
theorem sc_begin : FnScope n_begin p_begin (defScope s_begin):=⟨rfl,rfl,rfl,by decide +kernel,rfl,by decide +kernel,by decide +kernel⟩
abbrev s_pick : Stmt:=top 13
abbrev n_pick : List Str:=["_law_draw","_law_many","_law_cell","_law_got"]
abbrev p_pick : List Str:=["_law_draw","_law_many"]
theorem sc_pick : FnScope n_pick p_pick (defScope s_pick):=⟨rfl,rfl,rfl,by decide +kernel,rfl,by decide +kernel,by decide +kernel⟩
section
variable {P : Program} {w : World} {K : PySem.W.Frag} {mg : Str→Option Value} {base : Heap} {f : Addr} {fd : FuncData}
theorem ok_begin (F : Fun K "_law_begin" "_law_begin" s_begin f fd) (B : Bn mg) : FnOk P w K mg base CX0 1 f fd p_begin (spBegin K):=by
  refine F.ok sc_begin (fun vs H Q E h=>?_) (fun cdv A outer s H vs Q E hr h=>?_)
  · obtain ⟨a,ns,rfl,_⟩:=h; rfl
  obtain ⟨a,ns,rfl,hS,hl,q⟩:=h
  refine ⟨_,(pss_one (ps_ret (pe_lst (pa_c (pe_callTy call_list_of rfl B.list PyProof.Rows.boot_list (pa_c (pe_slice sl_list (pv 0) po_none (po_some pe_int)) pa_nil)) (pa_c pe_int (pa_c pe_int (pa_c pe_int (pa_c pe_int pa_nil)))))))),?_⟩
  refine ⟨_,rfl,_,rfl,a,_,rfl,hS,fun p hp=>?_⟩
  obtain ⟨ms,em,hm⟩:=cut_ints ns none (some 63)
  refine ⟨p,_,rfl,.inl (SqL.of upd_same),fun c hc=>?_⟩
  refine ⟨by show 5≤sizeLine; decide,fun l hl'=>?_⟩
  have s1 : Same H (L2.upd H p (.lst (cutV (ns.map V.int) none (some 63)))):=same_new hp _
  have s2:=s1.trans (same_new hc (.lst (cutV (ns.map V.int) none (some 63))))
  have s3:=s2.trans (same_new hl' (.lst [.ref c,.int 0,.int 0,.int 1,.int 0]))
  have ncl : c≠l:=ne_of_none (upd_same (H:=L2.upd H p _) (o:=.lst (cutV (ns.map V.int) none (some 63)))) hl'
  refine q l c _ (s2.free hl') (s1.free hc) s3 ⟨ms,0,0,1,0,upd_same,?_,ncl,by decide,by decide,by decide⟩
  rw [upd_ne ncl,upd_same,em]
theorem ok_pick (F : Fun K "_law_pick" "_law_pick" s_pick f fd) (B : Bn mg) : FnOk P w K mg base CX0 1 f fd p_pick spPick:=by
  refine F.ok sc_pick (fun vs H Q E h=>?_) (fun cdv A outer s H vs Q E hr h=>?_)
  · obtain ⟨a,c,m,rfl,_⟩:=h; rfl
  obtain ⟨a,c,m,rfl,⟨ns,i,x,y,z,d1,d2,nca,hi,hy,hy2⟩,hm,hm2,q⟩:=h
  refine ⟨_,(pss_cons (ps_if (PW.pt (pw_and (pt_cmpR op_lt (pe_ix ix_list (pv 0) pe_int (fun _ _=>rfl)) (pv 1) (nomark _)) (pw_and1 (pt_cmpR op_lt (pe_ix ix_list (pv 0) pe_int (fun _ _=>rfl)) (pe_callB call_len_seq rfl B.len PySem.boot_len (pa_c (pe_ix ix_list (pv 0) pe_int (fun _ _=>rfl)) pa_nil)) (nomark _))))) (pss_cons (ps_set (i:=2) sc_pick.nd rfl (Or.inl rfl) (pe_ix ix_list (pe_ix ix_list (pv 0) pe_int (fun _ _=>rfl)) (pe_ix ix_list (pv 0) pe_int (fun _ _=>rfl)) (fun _ _=>rfl)))
      (pss_cons (ps_asg (pe_op op_add (pe_ix ix_list (pv 0) pe_int (fun _ _=>rfl)) pe_int) (pg_sub (pv 0) pe_int set_list))
      (pss_cons (ps_asg pe_int (pg_sub (pv 0) pe_int set_list))
      (pss_one (ps_if (pt_cmpR op_ge (pv 2) (pe_op op_pow pe_int pe_int) (nomark _)) (pss_one (ps_asg (pv 2) (pg_sub (pv 0) pe_int set_list))) (pss_one (ps_asg (pe_op op_mod (pe_op op_add (pe_ix ix_list (pv 0) pe_int (fun _ _=>rfl)) (pv 2)) pe_int) (pg_sub (pv 0) pe_int set_list)))))))) pss_nil)
    (pss_cons (ps_if (pt_cmpR op_ge (pe_ix ix_list (pv 0) pe_int (fun _ _=>rfl)) (pv 1) (nomark _)) (pss_cons (ps_set (i:=3) sc_pick.nd rfl (Or.inl rfl) (pe_op op_mod (pe_ix ix_list (pv 0) pe_int (fun _ _=>rfl)) (pv 1)))
      (pss_cons (ps_asg (pe_op op_fdivL (pe_ix ix_list (pv 0) pe_int (fun _ _=>rfl)) (pv 1)) (pg_sub (pv 0) pe_int set_list))
      (pss_one (ps_ret (pv 3))))) pss_nil)
    (pss_cons (ps_asg (pe_op op_add (pe_ix ix_list (pv 0) pe_int (fun _ _=>rfl)) pe_int) (pg_sub (pv 0) pe_int set_list))
    (pss_cons (ps_asg (pe_op op_mod (pe_op op_add (pe_op op_add (pe_op op_pow (pe_ix ix_list (pv 0) pe_int (fun _ _=>rfl)) pe_int) (pe_op op_mul pe_int (pe_ix ix_list (pv 0) pe_int (fun _ _=>rfl)))) pe_int) pe_int) (pg_sub (pv 0) pe_int set_list))
    (pss_one (ps_ret (pe_op op_mod (pe_op op_fdivL (pe_ix ix_list (pv 0) pe_int (fun _ _=>rfl)) pe_int) (pv 1)))))))),?_⟩
  refine (show ∀ (u : TS),(∀ (cv : Option V) (H1 : Hp) (i x y z : Int),Draw H1 a c ns i x y z→KeepBut a H H1→u { nx:=fun _ H'=>Q .non H',rt:=Q } [some (.ref a),some (.int m),cv,none] H1)→tSeq _ u _ _ _ from fun u hu=>?_) _ ?_
  · -- if draw[2] < many and draw[1] < len(draw[0])
    refine ⟨_,rfl,a,_,_,.int x,rfl,rfl,SqL.of d1,rfl,_,rfl,_,_,rfl,rfl,_,rfl,?_⟩
    by_cases c1 : x < m
    · rw [decide_eq_true c1]
      refine iteT ⟨_,rfl,a,_,_,.int i,rfl,rfl,SqL.of d1,rfl,_,rfl,a,_,_,.ref c,rfl,rfl,SqL.of d1,rfl,c,_,rfl,.inl (SqL.of d2),_,_,rfl,rfl,_,rfl,?_⟩
      rw [List.length_map]
      by_cases c2 : i < (ns.length : Int)
      · rw [decide_eq_true c2]
        have hk : i.toNat < ns.length:=by omega
        have ei : ((i.toNat : Nat) : Int)=i:=by omega
        have eat : atI (ns.map V.int) i=some (.int ns[i.toNat]):=by
          have:=atI_nat (xs:=ns.map V.int) (j:=i.toNat) (v:=.int ns[i.toNat]) (by rw [List.getElem?_map,List.getElem?_eq_getElem hk]; rfl)
          rw [ei] at this; exact this
        refine iteT ⟨_,rfl,a,_,_,.ref c,rfl,rfl,SqL.of d1,rfl,_,rfl,a,_,_,.int i,rfl,rfl,SqL.of d1,rfl,c,_,_,.int ns[i.toNat],rfl,rfl,SqL.of d2,eat,?_⟩
        generalize ns[i.toNat]=v
        refine ⟨_,rfl,a,_,_,.int i,rfl,rfl,SqL.of d1,rfl,_,_,rfl,rfl,_,rfl,a,_,_,1,rfl,rfl,d1,rfl,?_⟩
        refine ⟨_,rfl,a,_,_,2,rfl,rfl,upd_same,rfl,?_⟩
        rw [upd_upd]
        have e2 : L2.upd H a (.lst [.ref c,.int (i + 1),.int 0,.int y,.int z]) c=some (.lst (ns.map V.int)):=by rw [upd_ne nca]; exact d2
        refine ⟨_,rfl,_,_,rfl,rfl,⟨by decide,by decide,by decide⟩,_,_,rfl,rfl,_,rfl,?_⟩
        refine ite2 (fun _=>?_) (fun _=>?_)
        · refine ⟨_,rfl,_,rfl,a,_,_,2,rfl,rfl,upd_same,rfl,?_⟩
          rw [upd_upd]
          exact hu _ _ (i + 1) v y z ⟨upd_same,by rw [upd_ne nca]; exact d2,nca,by omega,hy,hy2⟩ KeepBut.refl.upd
        · refine ⟨_,rfl,a,_,_,.int y,rfl,rfl,SqL.of upd_same,rfl,_,rfl,_,_,rfl,rfl,_,_,rfl,rfl,(by show (0 : Int) < 1000000007; decide),_,rfl,a,_,_,3,rfl,rfl,upd_same,rfl,?_⟩
          rw [upd_upd]
          exact hu _ _ (i + 1) 0 ((y + v) % 1000000007) z ⟨upd_same,by rw [upd_ne nca]; exact d2,nca,by omega,by omega,by omega⟩ KeepBut.refl.upd
      · rw [decide_eq_false c2]
        exact iteF (hu _ H i x y z ⟨d1,d2,nca,hi,hy,hy2⟩ KeepBut.refl)
    · rw [decide_eq_false c1]
      exact iteF (iteF (hu _ H i x y z ⟨d1,d2,nca,hi,hy,hy2⟩ KeepBut.refl))
  · -- the rest
    clear d1 d2 hi hy hy2 i x y z
    rintro cv H1 i x y z ⟨d1,d2,_,hi,hy,hy2⟩ kb
    refine ⟨_,rfl,a,_,_,.int x,rfl,rfl,SqL.of d1,rfl,_,rfl,_,_,rfl,rfl,_,rfl,?_⟩
    by_cases c1 : m≤x
    · rw [decide_eq_true c1]
      refine iteT ⟨_,rfl,a,_,_,.int x,rfl,rfl,SqL.of d1,rfl,_,rfl,_,_,rfl,rfl,hm,?_⟩
      refine ⟨_,rfl,a,_,_,.int x,rfl,rfl,SqL.of d1,rfl,_,rfl,_,_,rfl,rfl,⟨hm,hm2⟩,_,rfl,a,_,_,2,rfl,rfl,d1,rfl,?_⟩
      refine ⟨_,rfl,?_⟩
      exact q _ _ (Int.emod_nonneg _ (by omega)) (Int.emod_lt_of_pos _ hm) ⟨ns,i,x / m,y,z,upd_same,by rw [upd_ne nca]; exact d2,nca,hi,hy,hy2⟩ kb.upd
    · rw [decide_eq_false c1]
      refine iteF ?_
      refine ⟨_,rfl,a,_,_,.int z,rfl,rfl,SqL.of d1,rfl,_,_,rfl,rfl,_,rfl,a,_,_,4,rfl,rfl,d1,rfl,?_⟩
      refine ⟨_,rfl,a,_,_,.int y,rfl,rfl,SqL.of upd_same,rfl,_,_,rfl,rfl,⟨by decide,by decide,by omega⟩,_,rfl,a,_,_,.int (z + 1),rfl,rfl,SqL.of upd_same,rfl,_,_,rfl,rfl,.inl ⟨by decide,by decide⟩,_,_,rfl,rfl,_,_,rfl,rfl,_,_,rfl,rfl,(by show (0 : Int) < 1000000007; decide),_,rfl,a,_,_,3,rfl,rfl,upd_same,rfl,?_⟩
      rw [upd_upd]
      have hy4 : 0≤(y ^ (3 : Int).toNat + 40503 * (z + 1) + 17) % 1000000007∧(y ^ (3 : Int).toNat + 40503 * (z + 1) + 17) % 1000000007 < 1000000007:=⟨Int.emod_nonneg _ (by decide),Int.emod_lt_of_pos _ (by decide)⟩
      refine ⟨_,rfl,a,_,_,.int ((y ^ (3 : Int).toNat + 40503 * (z + 1) + 17) % 1000000007),rfl,rfl,SqL.of upd_same,rfl,_,_,rfl,rfl,⟨by decide,by decide⟩,_,rfl,_,_,rfl,rfl,hm,?_⟩
      exact q _ _ (Int.emod_nonneg _ (by omega)) (Int.emod_lt_of_pos _ hm) ⟨ns,i,x,(y ^ (3 : Int).toNat + 40503 * (z + 1) + 17) % 1000000007,z + 1,upd_same,by rw [upd_ne nca]; exact d2,nca,hi,hy4.1,hy4.2⟩ kb.upd
variable (B : Bn mg) (G_pick : Cal P w K mg base CX0 1 "_law_pick" p_pick spPick)
include B G_pick
end
end K55
namespace L2
open PySem PySem.Spec PyProof.Rows
section
variable {κ : Type} [DecidableEq κ]
def valV (kvs : List (κ×V)) (k : κ) : Option V:=(kvs.find? fun kv=>decide (kv.1=k)).map (·.2)
def putK (kvs : List (κ×V)) (k : κ) (v : V) : List (κ×V):=
  if (kvs.any fun kv=>decide (kv.1=k))=true then kvs.map (fun kv=>if kv.1=k then (kv.1,v) else kv) else kvs ++ [(k,v)]
theorem valV_pos {p : κ×V} {r : List (κ×V)} {k : κ} (e : p.1=k) : valV (p :: r) k=some p.2:=by simp [valV,List.find?_cons,e]
theorem valV_neg {p : κ×V} {r : List (κ×V)} {k : κ} (e : ¬ p.1=k) : valV (p :: r) k=valV r k:=by simp [valV,List.find?_cons,e]
theorem length_putK (kvs : List (κ×V)) (k : κ) (v : V) : (putK kvs k v).length≤kvs.length + 1:=by
  unfold putK
  split
  · rw [List.length_map]; omega
  · rw [List.length_append,List.length_cons,List.length_nil]; omega
theorem RelO.isSome_eq {o : Option V} {u : Option Value} (r : RelO o u) : o.isSome=u.isSome:=by
  cases o with
  | none=>cases u with
    | none=>rfl
    | some _=>exact (show False from r).elim
  | some _=>cases u with
    | none=>exact (show False from r).elim
    | some _=>rfl
theorem RelO.getD {o : Option V} {u : Option Value} {d : V} {d' : Value} (r : RelO o u) (rd : RelV d d') : RelV (o.getD d) (u.getD d'):=by
  cases o with
  | none=>cases u with
    | none=>exact rd
    | some _=>exact (show False from r).elim
  | some _=>cases u with
    | none=>exact (show False from r).elim
    | some _=>exact r
theorem KV.val {kvs : List (κ×V)} {vs : List (κ×Value)} (r : KV kvs vs) (k : κ) : RelO (valV kvs k) (valueAt vs k):=by
  unfold KV at r
  induction r with
  | nil=>exact True.intro
  | @cons p q ps qs h t ih=>
    obtain ⟨h1,h2⟩:=h
    by_cases e : p.1=k
    · have e' : q.1=k:=h1.symm.trans e
      have b : valueAt (q :: qs) k=some q.2:=by simp [valueAt,List.find?_cons,e']
      rw [valV_pos e,b]; exact h2
    · have e' : ¬ q.1=k:=fun z=>e (h1.trans z)
      have b : valueAt (q :: qs) k=valueAt qs k:=by simp [valueAt,List.find?_cons,e']
      rw [valV_neg e,b]; exact ih
theorem KV.any {kvs : List (κ×V)} {vs : List (κ×Value)} (r : KV kvs vs) (k : κ) : (kvs.any fun kv=>decide (kv.1=k))=vs.any fun kv=>decide (kv.1=k):=by
  unfold KV at r
  induction r with
  | nil=>rfl
  | cons h t ih=>rw [List.any_cons,List.any_cons,ih,h.1]
theorem KV.repl {kvs : List (κ×V)} {vs : List (κ×Value)} (r : KV kvs vs) (k : κ) {y : V} {u : Value} (ry : RelV y u) :
    KV (kvs.map fun kv=>if kv.1=k then (kv.1,y) else kv) (vs.map fun kv=>if kv.1=k then (kv.1,u) else kv):=by
  unfold KV at r ⊢
  induction r with
  | nil=>exact .nil
  | @cons p q ps qs h t ih=>
    rw [List.map_cons,List.map_cons]
    refine .cons ?_ ih
    obtain ⟨h1,h2⟩:=h
    by_cases e : p.1=k
    · rw [if_pos e,if_pos (h1.symm.trans e)]; exact ⟨h1,ry⟩
    · rw [if_neg e,if_neg (fun z=>e (h1.trans z))]; exact ⟨h1,h2⟩
theorem KV.put {kvs : List (κ×V)} {vs : List (κ×Value)} (r : KV kvs vs) (k : κ) {y : V} {u : Value} (ry : RelV y u) : KV (putK kvs k y) (stored vs k u):=by
  unfold putK stored
  rw [r.any k]
  by_cases e : (vs.any fun kv=>decide (kv.1=k))=true
  · rw [if_pos e,if_pos e]; exact r.repl k ry
  · rw [if_neg e,if_neg e]; exact Paired.snoc r ⟨rfl,ry⟩
end
theorem kV_is {P : Program} {w : World} {k : Key} {u : Value} (r : RelV (kV k) u) : (mixKind P w).is k u=true:=by
  cases k with
  | inl i=>obtain ⟨t,e⟩:=(show ∃ t,u=Value.int i t from r); subst e; exact mixKind_int P w i t
  | inr x=>obtain ⟨t,e⟩:=(show ∃ t,u=Value.str x t from r); subst e; exact mixKind_str P w x t
theorem items_are {P : Program} {w : World} : ∀ {ks : List Key} {us : List Value},Vals (ks.map kV) us→ItemsAre (mixKind P w) ks us
  | [],_,r=>by rw [List.map_nil] at r; cases r; exact .nil
  | k :: ks,_,r=>by
    rw [List.map_cons] at r
    cases r with
    | cons h t=>exact .cons (kV_is h) (items_are t)
abbrev KT (H : Hp) : List (List Key×V)→List (List Key×Addr×Value)→Prop:=Paired fun p q=>p.1=q.1∧H q.2.1=some (.tup (p.1.map kV))∧RelV p.2 q.2.2
theorem KT.val {H : Hp} {kvs : List (List Key×V)} {xs : List (List Key×Addr×Value)} (r : KT H kvs xs) (k : List Key) : RelO (valV kvs k) ((atKey xs k).map (·.2)):=by
  induction r with
  | nil=>exact True.intro
  | @cons p q ps qs h t ih=>
    obtain ⟨h1,_,h2⟩:=h
    by_cases e : p.1=k
    · have e' : q.1=k:=h1.symm.trans e
      have b : atKey (q :: qs) k=some q.2:=by simp [atKey,List.find?_cons,e']
      rw [valV_pos e,b]; exact h2
    · have e' : ¬ q.1=k:=fun z=>e (h1.trans z)
      have b : atKey (q :: qs) k=atKey qs k:=by simp [atKey,List.find?_cons,e']
      rw [valV_neg e,b]; exact ih
section
variable {P : Program} {w : World} {H : Hp} {h : Heap} {a : Addr}
theorem rd_of {u : HO} (ok : HOk P w H h) (e : Rd H a u) : ObjOk P w H h a u:=e.ok ok
theorem dk_rd {kvs : List (Key×V)} (ok : HOk P w H h) (e : Rd H a (.dK kvs)) : kvs.length≤sizeLine∧(a == sysModules)=false∧∃ vs,KV kvs vs∧h.DictOf (mixKind P w) a vs:=
  show ObjOk P w H h a (.dK kvs) from rd_of ok e
theorem dk_of {kvs : List (Key×V)} (ok : HOk P w H h) (e : H a=some (.dK kvs)) : kvs.length≤sizeLine∧(a == sysModules)=false∧∃ vs,KV kvs vs∧h.DictOf (mixKind P w) a vs:=dk_rd ok (.inl e)
theorem key_of {ks : List Key} (ok : HOk P w H h) (e : H a=some (.tup (ks.map kV))) : (tupleKind (mixKind P w)).is h ks a:=by
  obtain ⟨_,its,r,o,h1,h2,n,h3⟩:=(show ObjOk P w H h a (.tup (ks.map kV)) from ok a _ e)
  exact ⟨o,its.toArray,n,h1,h2,h3,by simpa using items_are r⟩
theorem dt_rd {kvs : List (List Key×V)} (ok : HOk P w H h) (e : Rd H a (.dT kvs)) : kvs.length≤sizeLine∧(a == sysModules)=false∧
    ∃ xs,KT H kvs xs∧h.DictOfH (tupleKind (mixKind P w)) a xs:=by
  obtain ⟨z,y,xs,r,o,es,ep,h1,h2,h3,h4,h5⟩:=(show ObjOk P w H h a (.dT kvs) from rd_of ok e)
  refine ⟨z,y,xs,r,o,es,ep,h1,h2,h3,h4,fun x hx=>?_,h5⟩
  have all : ∀ {l : List (List Key×V)} {m : List (List Key×Addr×Value)},KT H l m→∀ x∈m,(tupleKind (mixKind P w)).is h x.1 x.2.1:=by
    intro l m q
    induction q with
    | nil=>intro x hx; exact nomatch hx
    | @cons p q ps qs hq t ih=>
      intro x hx
      rcases List.mem_cons.mp hx with e | hx
      · subst e
        exact key_of ok (by rw [← hq.1]; exact hq.2.1)
      · exact ih x hx
  exact all r x hx
end
def DGet (H : Hp) (a : Addr) (y : V) (r : Option V) : Prop:=
  (∃ kvs k,Rd H a (.dK kvs)∧y=kV k∧r=valV kvs k)∨∃ kvs k b,Rd H a (.dT kvs)∧y = .ref b∧H b=some (.tup (k.map kV))∧r=valV kvs k
theorem DGet.k {H : Hp} {a : Addr} {kvs : List (Key×V)} {k : Key} (e : H a=some (.dK kvs)) : DGet H a (kV k) (valV kvs k):=.inl ⟨kvs,k,.inl e,rfl,rfl⟩
section
variable {X : Cx} {pins : List (Addr×Obj)} {σ : St} {H : Hp} {s : Shared} {a : Addr} {y v : V} {u r : Value} {o : Option V} {A : Around} {E : Value→Shared→Prop}
theorem Inv.big (I : Inv X pins σ H s) : sysModules < s.heap.objs.size:=by
  have h : mainGlobals < s.heap.objs.size:=(I.mod.glob.keeps I.bk).lt
  exact Nat.lt_trans (by decide) h
theorem d_getItem {Q : Value→Shared→Prop} (hu : A.units + 1 < cLine) (I : Inv X pins σ H s) (g : DGet H a y (some v)) (ry : RelV y u) (h : ∀ w' s',Inv X pins σ H s'→RelV v w'→Q w' s') :
    wpAny (model X.prog X.w) A (getItem (.ref a) u) Q E s:=by
  rcases g with ⟨kvs,k,e,ey,l⟩ | ⟨kvs,k,b,e,ey,eb,l⟩
  · subst ey
    obtain ⟨z,hd,vs,rel,dd⟩:=dk_rd I.hok e
    obtain ⟨w',hw,rw'⟩:=RelO.some_of (v:=v) (o:=valueAt vs k) (by rw [l]; exact rel.val k)
    exact wpAny_getItem_of (kV_is ry) dd.mapOf hw (h w' _ (I.tok _) rw')
  · subst ey
    cases (show u=Value.ref b from ry)
    obtain ⟨z,hd,xs,rel,dd⟩:=dt_rd I.hok e
    obtain ⟨w',hw,rw'⟩:=RelO.some_of (v:=v) (o:=(atKey xs k).map (·.2)) (by rw [l]; exact rel.val k)
    obtain ⟨p,hp,hp2⟩:=Option.map_eq_some_iff.mp hw
    refine wpAny_getItem_heap (tupleKind_room_in1 hu) (key_of I.hok eb) dd hp ?_
    rw [hp2]
    exact h w' _ (I.tok _) rw'
theorem d_notIn {Q : Value→Shared→Prop} (hu : A.units + 1 < cLine) (I : Inv X pins σ H s) (g : DGet H a y o) (ry : RelV y u) (h : ∀ s',Inv X pins σ H s'→Q (.bool (!o.isSome)) s') :
    wpAny (model X.prog X.w) A (compareOp .NotIn u (.ref a)) Q E s:=by
  rcases g with ⟨kvs,k,e,ey,l⟩ | ⟨kvs,k,b,e,ey,eb,l⟩
  · subst ey
    obtain ⟨z,hd,vs,rel,dd⟩:=dk_rd I.hok e
    refine wpAny_notIn_of (kV_is ry) hd dd.mapOf ?_
    rw [← (rel.val k).isSome_eq,← l]
    exact h _ (I.tok _)
  · subst ey
    cases (show u=Value.ref b from ry)
    obtain ⟨z,hd,xs,rel,dd⟩:=dt_rd I.hok e
    refine wpAny_notIn_heap (tupleKind_room_in1 hu) (key_of I.hok eb) hd dd ?_
    have q:=(rel.val k).isSome_eq
    rw [Option.isSome_map] at q
    rw [← q,← l]
    exact h _ (I.tok _)
theorem d_write {h' : Heap} {t' : Nat} {ob : HO} (I : Inv X pins σ H s) (mu : Mut (H a)) (hs : Heap.SameBut a s.heap h') (he : ∃ q,h'.get? a=some q) (new : ObjOk X.prog X.w (upd H a ob) h' a ob) :
    Inv X pins σ (upd H a ob) { s with heap:=h',toks:=t' }:=
  I.write (x:=a) (e:=a) mu (.inl rfl) (fun b q hb z=>(hs.2 b hb).trans z) he new
theorem dk_new {P : Program} {w : World} {H' : Hp} {h' : Heap} {kvs : List (Key×V)} {vs : List (Key×Value)} (z : kvs.length≤sizeLine) (hd : (a == sysModules)=false) (rel : KV kvs vs) (dd : h'.DictOf (mixKind P w) a vs) :
    ObjOk P w H' h' a (.dK kvs):=⟨z,hd,vs,rel,dd⟩
end
section
variable {X : Cx} {pins : List (Addr×Obj)} {σ : St} {H : Hp} {s : Shared} {a : Addr} {kvs : List (Key×V)} {k : Key} {u : Value} {A : Around} {E : Value→Shared→Prop}
end
def NoSl (i : Expr) : Prop:=∀ ov iv,subscripted i false ov iv=operate [ov,iv] (getItem ov iv)
theorem subD_of {prog : Program} {w : World} {A : Around} {E : Value→Shared→Prop} {s : Shared} {env : Env} {value slice : Expr} {pos : Pos} {T id : String} {Q : Value→Shared→Prop}
    (hl : typeLookup (.type T) "__getitem__" = pure (some (.builtin id))) (hs : NoSl slice)
    (h : wpAny (model prog w) A (eval value env) (fun o s₁=>wpAny (model prog w) A (eval slice env) (fun i s₂=>s₂.TypeIs o T∧wpAny (model prog w) A (getItem o i) Q E s₂) E s₁) E s) :
    wpAny (model prog w) A (eval (.Subscript value slice pos) env) Q E s:=by
  refine Subscript_ (wpAny_mono h (fun o s₁ h₁=>wpAny_mono h₁ (fun i s₂ h₂=>?_) fun _ _ x=>x) fun _ _ x=>x)
  obtain ⟨hT,h₂⟩:=h₂
  unfold subscriptTail
  refine wpAny_bind ?_
  rw [getitemInPython_of_ne hT.not_modules]
  refine wpAny_bind (wpAny_specialOf hT hl ?_)
  have fin : wpAny (model prog w) A (subscripted slice false o i) (fun r s₃=>wpAny (model prog w) A (letTemporaryGo value o r >>= fun _=>pure r) Q E s₃) E s₂:=by
    rw [hs o i]
    exact wpAny_operating (wpAny_mono h₂ (fun r s₃ h₃=>wpAny_bind (wpAny_letTemporaryGo (wpAny_pure h₃))) fun _ _ x=>x)
  first
    | exact wpAny_pure (wpAny_bind fin)
    | exact wpAny_bind (wpAny_pure (wpAny_bind fin))
    | exact wpAny_bind fin
theorem dict_typeIs {X : Cx} {pins : List (Addr×Obj)} {σ : St} {H : Hp} {s : Shared} {a : Addr} {y : V} {o : Option V} (I : Inv X pins σ H s) (g : DGet H a y o) : s.TypeIs (.ref a) "dict" := by
  rcases g with ⟨kvs,k,e,_,_⟩ | ⟨kvs,k,b,e,_,_,_⟩
  · obtain ⟨_,_,vs,_,dd⟩:=dk_rd I.hok e
    exact dd.typeIs
  · obtain ⟨_,_,xs,_,dd⟩:=dt_rd I.hok e
    exact dd.typeIs
def tDGet (td ty : TE) : TE:=fun σ H Q=>td σ H fun x H1=>ty σ H1 fun y H2=>∃ a v,x = .ref a∧DGet H2 a y (some v)∧Q v H2
def tDNotIn (ty td : TE) : TE:=fun σ H Q=>ty σ H fun y H1=>td σ H1 fun x H2=>∃ a o,x = .ref a∧DGet H2 a y o∧Q (.bl (!o.isSome)) H2
section
variable {X : Cx} {o i e value : Expr} {pos pos' tpos : Pos} {td ty tv : TE}
theorem pe_dget (hu : X.A.units + 1 < cLine) (ho : PE X o td) (hi : PE X i ty) (hs : NoSl i) : PE X (.Subscript o i pos) (tDGet td ty):=by
  refine ⟨?_⟩
  intro pins s σ H Q I h
  refine subD_of PySem.F.slot_dict_getitem.lookup hs (thn (ho pins s σ H _ I h) fun u s1 ⟨x,H1,I1,rx,q1⟩=>thn (hi pins s1 σ H1 _ I1 q1) fun iv s2 ⟨y,H2,I2,ry,a,v,ex,g,q2⟩=>?_)
  subst ex
  obtain rfl : u=Value.ref a:=rx
  exact ⟨dict_typeIs I2 g,d_getItem hu I2 g ry fun w' s3 I3 rw'=>⟨v,H2,I3,rw',q2⟩⟩
theorem pc_dnotin (hu : X.A.units + 1 < cLine) (hi : PE X i ty) (ho : PE X o td) : PC X .NotIn i o (tDNotIn ty td):=by
  intro pins s σ H Q I h
  refine thn (hi pins s σ H _ I h) fun iv s1 ⟨y,H1,I1,ry,q1⟩=>thn (ho pins s1 σ H1 _ I1 q1) fun u s2 ⟨x,H2,I2,rx,a,ov,ex,g,q2⟩=>?_
  subst ex
  obtain rfl : u=Value.ref a:=rx
  exact d_notIn hu I2 g ry fun s3 I3=>⟨.bl (!ov.isSome),H2,I3,rfl,q2⟩
end
theorem dk_empty {P : Program} {w : World} {H : Hp} (h : Heap) (hb : sysModules < h.objs.size) : ObjOk P w H (h.push { cls:=.type "dict",data:=.dict #[] }) h.objs.size (.dK []) :=
  ⟨Nat.zero_le _,beq_eq_false_iff_ne.mpr (Ne.symm (Nat.ne_of_lt hb)),[],.nil,Heap.DictOf.new h⟩
section
variable {X : Cx} {pos : Pos}
end
def tPairs : List (TE×TE)→St→Hp→(List (V×V)→Hp→Prop)→Prop
  | [],_,H,Q=>Q [] H
  | (tk,tv) :: r,σ,H,Q=>tk σ H fun x H1=>tv σ H1 fun y H2=>tPairs r σ H2 fun ps H3=>Q ((x,y) :: ps) H3
abbrev VV : List (V×V)→List (Value×Value)→Prop:=Paired fun p q=>RelV p.1 q.1∧RelV p.2 q.2
def PPs (X : Cx) (pos : Pos) (keys : List (Option Expr)) (values : List Expr) (trs : List (TE×TE)) : Prop:=
  ∀ (pins : List (Addr×Obj)) (s : Shared) (σ : St) (H : Hp) (Q : List (V×V)→Hp→Prop),Inv X pins σ H s→tPairs trs σ H Q→
    wpAny (model X.prog X.w) X.A (evalPairs (pairTrees keys values X.env pos)) (fun vs s'=>∃ ps H',Inv X pins σ H' s'∧VV ps vs∧Q ps H') X.xe s
theorem pps_nil {X : Cx} {pos : Pos} : PPs X pos [] [] []:=fun pins s σ H Q I h=>pairTrees_nil_walk ⟨[],H,I,.nil,h⟩
theorem pps_cons {X : Cx} {pos : Pos} {k v : Expr} {ks : List (Option Expr)} {vs : List Expr} {tk tv : TE} {trs : List (TE×TE)} (hk : PE X k tk) (hv : PE X v tv) (hr : PPs X pos ks vs trs) :
    PPs X pos (some k :: ks) (v :: vs) ((tk,tv) :: trs):=fun pins s σ H Q I h=>
  pairTrees_cons_walk (thn (hk pins s σ H _ I h) fun u s1 ⟨x,H1,I1,rx,q1⟩=>thn (hv pins s1 σ H1 _ I1 q1) fun w2 s2 ⟨y,H2,I2,ry,q2⟩=>
    thn (hr pins s2 σ H2 _ I2 q2) fun ws s3 ⟨ps,H3,I3,rel,q3⟩=>⟨(x,y) :: ps,H3,I3,.cons ⟨rx,ry⟩ rel,q3⟩)
def mergeK (kvs more : List (Key×V)) : List (Key×V):=more.foldl (fun acc kv=>putK acc kv.1 kv.2) kvs
theorem KV.merge : ∀ {more : List (Key×V)} {rs : List (Key×Value)} {kvs : List (Key×V)} {vs : List (Key×Value)},KV more rs→KV kvs vs→KV (mergeK kvs more) (merged vs rs):=by
  intro more rs kvs vs r
  unfold KV at r
  induction r generalizing kvs vs with
  | nil=>intro q; exact q
  | @cons p q ps qs h t ih=>
    intro r0
    have e : KV (putK kvs p.1 p.2) (stored vs q.1 q.2):=by
      have:=r0.put p.1 h.2
      rw [← h.1]; exact this
    exact ih e
theorem length_mergeK : ∀ (more kvs : List (Key×V)),(mergeK kvs more).length≤kvs.length + more.length
  | [],kvs=>by show kvs.length≤kvs.length + 0; omega
  | p :: r,kvs=>by
    have h1:=length_mergeK r (putK kvs p.1 p.2)
    have h2:=length_putK kvs p.1 p.2
    show (mergeK (putK kvs p.1 p.2) r).length≤_
    rw [List.length_cons]; omega
theorem carries_of {P : Program} {w : World} : ∀ {kvs : List (Key×V)} {ws : List (Value×Value)},VV (kvs.map fun kv=>(kV kv.1,kv.2)) ws→∃ rs,Carries (mixKind P w) ws rs∧KV kvs rs
  | [],_,r=>by rw [List.map_nil] at r; cases r; exact ⟨[],True.intro,.nil⟩
  | p :: kvs,_,r=>by
    rw [List.map_cons] at r
    cases r with
    | @cons a b as bs h t=>
      obtain ⟨rs,c,q⟩:=carries_of (P:=P) (w:=w) t
      obtain ⟨b1,b2⟩:=b
      exact ⟨(p.1,b2) :: rs,⟨kV_is h.1,rfl,c⟩,.cons ⟨rfl,h.2⟩ q⟩
def tDisp (trs : List (TE×TE)) : TE:=fun σ H Q=>∀ p,H p=none→tPairs trs σ (upd H p (.dK [])) fun ps H2=>H2 p=some (.dK [])∧∃ kvs : List (Key×V),ps=kvs.map (fun kv=>(kV kv.1,kv.2))∧kvs.length≤15∧Q (.ref p) (upd H2 p (.dK (mergeK [] kvs)))
theorem pe_disp {X : Cx} {pos : Pos} {keys : List (Option Expr)} {values : List Expr} {trs : List (TE×TE)} (h : PPs X pos keys values trs) (hall : keys.all (·.isSome)=true) (hl : keys.length=values.length) (h0 : keys≠[])
    (h15 : keys.length≤15) : PE X (.Dict keys values pos) (tDisp trs):=by
  refine ⟨?_⟩
  intro pins s σ H Q I q
  have hn:=I.hok.fresh (Nat.le_refl s.heap.objs.size)
  have I1:=I.laid (a:=s.heap.objs.size) (o:=.dK []) (h':=s.heap.push { cls:=.type "dict",data:=.dict #[] }) (t':=s.toks) (fun _ _ q=>Heap.get?_push_of_some _ q) (Nat.le_refl _) (dk_empty s.heap I.big)
  refine wpAny_Dict_walk (knd:=mixKind X.prog X.w) hall hl h0 h15 (thn (h pins _ σ _ _ I1 (q _ hn)) fun ws s2 ⟨ps,H2,I2,rel,e,kvs,ep,lk,q2⟩=>?_)
  subst ep
  obtain ⟨rs,c,rk⟩:=carries_of (P:=X.prog) (w:=X.w) rel
  obtain ⟨z,hd,vs0,r0,dd⟩:=dk_of I2.hok e
  cases r0
  refine ⟨rs,c,dd,fun h' dd' hs=>⟨.ref s.heap.objs.size,_,?_,rfl,q2⟩⟩
  have hz : (mergeK [] kvs).length≤sizeLine:=by
    have h1:=length_mergeK kvs []
    rw [List.length_nil] at h1
    rw [sizeLine_eq]; omega
  have he : ∃ q,h'.get? s.heap.objs.size=some q:=let ⟨q,_,_,hq,_⟩:=dd'; ⟨q,hq⟩
  exact d_write I2 (by rw [e]; exact True.intro) hs he (dk_new hz hd (rk.merge .nil) dd')
structure M1 (X : Cx) (o : Expr) (m : Str) (apos : Pos) (e : Expr) (cpos : Pos) : Prop where
  base : attributeBase o m X.env (eval o X.env)=eval o X.env
  few : ((backTo cpos (starEach [e] X.env)).all (fun x=>!x.1) && (backToKw cpos (keywordEach [] X.env)).all (fun x=>x.1.isSome)
    && decide (([e] : List Expr).length + ([] : List Keyword).length + (if ([] : List Keyword).isEmpty then 0 else 1) < 30))=true
  line : (apos.endLine == cpos.line)=true
  trees : backTo cpos (starEach [e] X.env)=[(false,eval e X.env)]
structure M2 (X : Cx) (o : Expr) (m : Str) (apos : Pos) (e f : Expr) (cpos : Pos) : Prop where
  base : attributeBase o m X.env (eval o X.env)=eval o X.env
  few : ((backTo cpos (starEach [e,f] X.env)).all (fun x=>!x.1) && (backToKw cpos (keywordEach [] X.env)).all (fun x=>x.1.isSome)
    && decide (([e,f] : List Expr).length + ([] : List Keyword).length + (if ([] : List Keyword).isEmpty then 0 else 1) < 30))=true
  line : (apos.endLine == cpos.line)=true
  trees : backTo cpos (starEach [e,f] X.env)=[(false,eval e X.env),(false,eval f X.env)]
def IsD (H : Hp) (a : Addr) : Prop:=(∃ kvs,Rd H a (.dK kvs))∨∃ kvs,Rd H a (.dT kvs)
theorem isD_at {X : Cx} {pins : List (Addr×Obj)} {σ : St} {H : Hp} {s : Shared} {a : Addr} (I : Inv X pins σ H s) (d : IsD H a) :
    s.TypeIs (.ref a) "dict" ∧ (∀ b,Value.ref a = .ref b→∃ ob,s.heap.get? b=some ob∧ob.dict=none)∧(a == sysModules)=false:=by
  rcases d with ⟨kvs,e⟩ | ⟨kvs,e⟩
  · obtain ⟨_,hd,vs,_,dd⟩:=dk_rd I.hok e
    refine ⟨dd.typeIs,fun b q=>?_,hd⟩
    cases q
    obtain ⟨ob,_,_,h1,h2,_⟩:=dd
    exact ⟨ob,h1,h2.2.1⟩
  · obtain ⟨_,hd,xs,_,dd⟩:=dt_rd I.hok e
    refine ⟨dd.typeIs,fun b q=>?_,hd⟩
    cases q
    obtain ⟨ob,_,_,h1,h2,_⟩:=dd
    exact ⟨ob,h1,h2.2.1⟩
section
variable {X : Cx} {pins : List (Addr×Obj)} {σ : St} {H : Hp} {s : Shared} {a : Addr} {y d : V} {u r : Value} {o : Option V} {A : Around} {E : Value→Shared→Prop}
theorem d_get2 {Q : Value→Shared→Prop} (hu : A.units + 1 < cLine) (I : Inv X pins σ H s) (g : DGet H a y o) (ry : RelV y u) (rd : RelV d r) (h : ∀ w' s',Inv X pins σ H s'→RelV (o.getD d) w'→Q w' s') :
    wpAny (model X.prog X.w) A (call (.builtin "dict.get") [.ref a,u,r]) Q E s:=by
  rcases g with ⟨kvs,k,e,ey,l⟩ | ⟨kvs,k,b,e,ey,eb,l⟩
  · subst ey
    obtain ⟨z,hd,vs,rel,dd⟩:=dk_rd I.hok e
    refine call_meetsIn PySem.F.slot_dict_get dd.typeIs PySem.F.entry_dict_get (PySem.F.args_dict_get_3 _ _ _) (meets_dict_get_default (mixKind X.prog X.w) a (kV_is ry) hd r) ⟨_,dd.mapOf,h _ _ (I.tok _) ?_⟩
    rw [l]
    exact (rel.val k).getD rd
  · subst ey
    cases (show u=Value.ref b from ry)
    obtain ⟨z,hd,xs,rel,dd⟩:=dt_rd I.hok e
    refine call_meetsIn PySem.F.slot_dict_get dd.typeIs PySem.F.entry_dict_get (PySem.F.args_dict_get_3 _ _ _) (meetsH_dict_get_default (tupleKind (mixKind X.prog X.w)) a b hd r) ⟨tupleKind_room_in1 hu,k,xs,key_of I.hok eb,dd,h _ _ (I.tok _) ?_⟩
    rw [l]
    exact (rel.val k).getD rd
end
def tDGet2 (td ty tx : TE) : TE:=fun σ H Q=>td σ H fun x H1=>∃ a,x = .ref a∧IsD H1 a∧ty σ H1 fun y H2=>tx σ H2 fun z H3=>∃ o,DGet H3 a y o∧Q (o.getD z) H3
section
variable {X : Cx} {o e f : Expr} {apos cpos : Pos} {td ty tx : TE}
theorem pe_dget2 (hu : X.A.units + 1 < cLine) (ho : PE X o td) (he : PE X e ty) (hf : PE X f tx) (m : M2 X o "get" apos e f cpos) : PE X (.Call (.Attribute o "get" apos) [e,f] [] cpos) (tDGet2 td ty tx):=by
  refine ⟨?_⟩
  intro pins s σ H Q I h
  refine wpAny_Call_method m.base m.few m.line PySem.F.plainAttrs_dict PySem.F.slot_dict_get PySem.F.type_dict_get (thn (ho pins s σ H _ I h) fun u s1 ⟨x,H1,I1,rx,a,ex,d,q1⟩=>?_)
  subst ex
  obtain rfl : u=Value.ref a:=rx
  obtain ⟨t1,t2,_⟩:=isD_at I1 d
  refine ⟨t1,t2,?_⟩
  rw [m.trees]
  refine Calls.callWith_builtin rfl (Calls.evalArgs_plain (Calls.spliced_cons (thn (he pins s1 σ H1 _ I1 q1) fun iv s2 ⟨y,H2,I2,ry,q2⟩=>
    Calls.spliced_cons (thn (hf pins s2 σ H2 _ I2 q2) fun fv s3 ⟨z,H3,I3,rz,ov,g,q3⟩=>Calls.spliced_nil ?_))))
  exact d_get2 hu I3 g ry rz fun w' s4 I4 rw'=>⟨_,H3,I4,rw',q3⟩
end
section
variable {X : Cx} {pins : List (Addr×Obj)} {σ : St} {H : Hp} {s : Shared} {a : Addr} {kvs : List (Key×V)} {A : Around} {E : Value→Shared→Prop}
end
section
variable {X : Cx} {pins : List (Addr×Obj)} {σ : St} {H : Hp} {s : Shared} {a : Addr} {y : V} {u : Value} {A : Around} {E : Value→Shared→Prop}
end
end L2
namespace L2
open PySem PySem.Spec PyProof.Rows PySem.Calls
section
variable {X : Cx}
def rIsDig : V→List V→Hp→VK→Prop:=fun x vs H Q=>∃ z,x = .str z∧vs=[]∧Q (.bl (Txt.isdigit z)) H
theorem mt_isdigit : MtR X "str.isdigit" rIsDig:=by
  intro pins s σ H x vs v us Q I rx rv h
  obtain ⟨z,rfl,rfl,q⟩:=h
  obtain ⟨t,rfl⟩:=rx
  cases rv
  exact SC.isdigit ⟨.bl _,H,I,rfl,q⟩
def rStarts : V→List V→Hp→VK→Prop:=fun x vs H Q=>∃ z y,x = .str z∧vs=[.str y]∧Q (.bl (Txt.startswith z y)) H
theorem mt_startswith : MtR X "str.startswith" rStarts:=by
  intro pins s σ H x vs v us Q I rx rv h
  obtain ⟨z,y,rfl,rfl,q⟩:=h
  obtain ⟨t,rfl⟩:=rx
  obtain ⟨u,rfl,t2,rfl⟩:=rv.one
  exact SC.startswith ⟨.bl _,H,I,rfl,q⟩
theorem vals_strs : ∀ {ys : List Str} {its : List Value},Vals (ys.map V.str) its→∃ l : List (Str×Tok),its=strValues l∧l.map (·.1)=ys
  | [],_,.nil=>⟨[],rfl,rfl⟩
  | y :: ys,_,.cons ⟨t,e⟩ r=>by
    obtain ⟨l,h1,h2⟩:=vals_strs r
    subst e
    exact ⟨(y,t) :: l,by rw [h1]; rfl,by rw [← h2]; rfl⟩
theorem strs_vals : ∀ l : List (Str×Tok),Vals ((l.map (·.1)).map V.str) (strValues l)
  | []=>.nil
  | (y,t) :: l=>.cons ⟨t,rfl⟩ (strs_vals l)
def rJoin (K : PySem.W.Frag) : V→List V→Hp→VK→Prop:=fun x vs H Q=>∃ z p ys,x = .str z∧vs=[.ref p]∧SqL K H p (ys.map V.str)∧JoinOk z ys=true∧Q (.str (Txt.join z ys)) H
theorem mt_join : MtR X "str.join" (rJoin X.K):=by
  intro pins s σ H x vs v us Q I rx rv h
  obtain ⟨z,p,ys,rfl,rfl,hq,hok,q⟩:=h
  obtain ⟨t,rfl⟩:=rx
  obtain ⟨u,rfl,ru⟩:=rv.one
  cases ru
  obtain ⟨its,r,pl,_⟩:=I.list hq
  obtain ⟨l,rfl,e⟩:=vals_strs r
  exact SC.join pl.isList e hok fun t' k=>⟨.str _,H,I.tok _,⟨_,rfl⟩,q⟩
def rSplit : V→List V→Hp→VK→Prop:=fun x vs H Q=>∃ z y,x = .str z∧vs=[.str y]∧(y.length == 0)=false∧z.length≤sizeLine∧(Txt.split z y).length≤sizeLine∧∀ l,H l=none→Q (.ref l) (upd H l (.lst ((Txt.split z y).map V.str)))
theorem mt_split : MtR X "str.split" rSplit:=by
  intro pins s σ H x vs v us Q I rx rv h
  obtain ⟨z,y,rfl,rfl,hy,hsz,hn,q⟩:=h
  obtain ⟨t,rfl⟩:=rx
  obtain ⟨u,rfl,t2,rfl⟩:=rv.one
  have fin : ∀ (l : List (Str×Tok)) (k : Nat),l.map (·.1)=Txt.split z y→∃ (w : V) (H' : Hp),Inv X pins σ H' { s with toks:=k,heap:=s.heap.push { cls:=.type "list",data:=.seq (strValues l).toArray } }∧RelV w (.ref s.heap.objs.size)∧Q w H':=fun l k e=>by
    rw [← e] at q hn
    exact ⟨.ref _,_,I.lnew (t':=k) (strs_vals l) (by rw [List.length_map]; exact hn),rfl,q _ I.fresh⟩
  cases h1 : (decide (z.length < y.length) || decide (Builtin.Str.strKind z < Builtin.Str.strKind y))
  · cases hf : (Builtin.Str.occurrences z y 0 z.length (z.length + 1)).isEmpty
    · have e : Txt.split z y=Builtin.Str.partsBetween z (Builtin.Str.occurrences z y 0 z.length (z.length + 1)) y.length:=(if_neg (ne_true_of_eq_false h1)).trans (if_neg (ne_true_of_eq_false hf))
      rw [e] at hn
      refine call_meets F.slot_str_split (typeIs_str _ _ _) F.entry_str_split (F.args_str_split_2 _ _) (meets_str_split_sep z y t t2 h1 hy hf hsz hn) ?_
      show wants _ _ _ { s with toks:=_,heap:=s.heap.push { cls:=.type "list",data:=.seq (strsFrom s.toks (Builtin.Str.partsBetween z (Builtin.Str.occurrences z y 0 z.length (z.length + 1)) y.length)).toArray } }
      rw [strsFrom_eq]
      exact fin (numbered s.toks _) _ ((numbered_texts _ _).trans e.symm)
    · exact call_meets F.slot_str_split (typeIs_str _ _ _) F.entry_str_split (F.args_str_split_2 _ _) (meets_str_split_not_found z y t t2 h1 hy hf)
        (fin [(z,t)] s.toks ((if_neg (ne_true_of_eq_false h1)).trans (if_pos hf)).symm)
  · exact call_meets F.slot_str_split (typeIs_str _ _ _) F.entry_str_split (F.args_str_split_2 _ _) (meets_str_split_cannot_occur z y t t2 h1)
      (fin [(z,t)] s.toks (if_pos h1).symm)
def strV : V→Option Str
  | .int i=>some (toString i)
  | .str z=>some z
  | _=>none
def rStr : List V→Hp→VK→Prop:=fun xs H Q=>∃ x z,xs=[x]∧strV x=some z∧(∀ i,x = .int i→i.natAbs.log2 < 1920)∧Q (.str z) H
theorem call_str1 : CallR X (.type "str") rStr:=by
  intro pins s σ H xs us Q I r h
  obtain ⟨x,z,rfl,e,hz,q⟩:=h
  obtain ⟨u,rfl,ru⟩:=vals1 r
  cases x with
  | int i=>
    obtain ⟨t,rfl⟩:=ru
    cases e
    exact PySem.P.str_of_int (hz i rfl) ⟨.str _,H,I.tok _,⟨_,rfl⟩,q⟩
  | str z'=>
    obtain ⟨t,rfl⟩:=ru
    cases e
    exact PySem.P.str_of_str ⟨.str _,H,I,⟨_,rfl⟩,q⟩
  | _=>cases e
def rIntT : List V→Hp→VK→Prop:=fun xs H Q=>∃ z n,xs=[.str z]∧PySem.intText? z=some n∧z.length≤640∧Q (.int n) H
theorem call_intT : CallR X (.type "int") rIntT:=by
  intro pins s σ H xs us Q I r h
  obtain ⟨z,n,rfl,e,hz,q⟩:=h
  obtain ⟨u,rfl,t,rfl⟩:=vals1 r
  exact PySem.W.KIN.call_text e hz ⟨.int _,H,I.tok _,⟨_,rfl⟩,q⟩
theorem walks_shift {prog : Program} {w : World} {A : Around} {I : Addr} {fp wr : List Addr} {n : Nat} {P : Nat→Value→Prop} {St : Nat→Heap→Prop} (W : Walks prog w A I fp wr (n + 1) P St) :
    Walks prog w A I fp wr n (fun i=>P (i + 1)) (fun i=>St (i + 1)):=
  ⟨W.sub,fun i=>W.frame (i + 1),fun i s Q E hi=>W.item (i + 1) s Q E (by omega),W.done,fun i=>W.self (i + 1)⟩
theorem star_items {prog : Program} {w : World} {A : Around} {E : Value→Shared→Prop} {s : Shared} {t I : Addr} {h0 : Heap} {fp : List Addr} {its : List Value} {i0 : Value} {T : String} {St : Nat→Heap→Prop} {Q : List Value→Shared→Prop} (hh : A.handled=none)
    (hn : ∀ Q' : Bool→Shared→Prop,Q' false s→wpAny (model prog w) A (notIterableAtAll (.ref t)) Q' E s)
    (hit : ∀ Q' : Value→Shared→Prop,Q' (.ref I) { s with heap:=h0 }→wpAny (model prog w) A (pyIter (.ref t)) Q' E s)
    (hTm : T = "str_ascii_iterator" ∨ T = "str_iterator" ∨ T = "list_iterator" ∨ T = "tuple_iterator")
    (W : ∀ A' : Around,A'.handled=none→Walks prog w A' I fp [I] (its.length + 1) (fun i v=>(i0 :: its)[i]? = some v) St)
    (hT : ∀ i (s : Shared),St i s.heap→s.TypeIs (.ref I) T) (st : St 0 h0) (hfp : ∀ (h' : Heap),St 1 h'→∀ b∈fp,b < h'.objs.size) (hI : I∈fp) (hz : its.length≤sizeLine)
    (hQ : ∀ (h' : Heap) (tk : Nat),(∀ (b : Addr) (o : Obj),b≠I→h0.get? b=some o→h'.get? b=some o)→s.toks≤tk→Q [i0,.ref h'.objs.size] { s with toks:=tk,heap:=h'.push { cls:=.type "list",data:=.seq its.toArray } }) :
    wpAny (model prog w) A (unpackItems (.ref t) 2 (some 1)) Q E s:=by
  unfold unpackItems
  refine wpAny_bind (hn _ ?_)
  simp only [Bool.false_eq_true,if_false]
  refine wpAny_bind (wpAny_holding (hit _ ?_))
  refine wpAny_bind (wpAny_holding ?_)
  show wpAny _ _ (pyNext (.ref I) >>= _) _ E _
  refine wpAny_bind ((W A hh).toS.item 0 _ _ _ (Nat.succ_pos _) st fun v s1 hv st1 hm=>?_)
  cases hv
  refine wpAny_bind (wpAny_holding ?_)
  refine wpAny_pure ?_
  refine wpAny_pure ?_
  rw [if_neg (show ¬ [i0].length < 1 from Nat.lt_irrefl 1)]
  refine wpAny_bind (wpAny_holding ?_)
  refine wpAny_collect_iter hTm (walks_shift (W A.in1 hh)).toS (fun i s' h=>hT (i + 1) s' h) st1 (hfp _ st1) hI (fun s2 acc hm2 hacc=>?_) hz
  rw [if_neg (by omega)]
  have ea : acc.toList=its:=by
    refine List.ext_getElem? fun j=>?_
    have hl : acc.toList.length=its.length:=by rw [Array.length_toList]; exact hacc.1
    by_cases hj : j < its.length
    · cases hv : acc[j]? with
      | none=>rw [Array.getElem?_eq_none_iff] at hv; have:=hacc.1; omega
      | some v=>
        have h2 : its[j]? = some v:=by simpa using hacc.2 j v hv
        rw [h2,Array.getElem?_toList]; exact hv
    · rw [List.getElem?_eq_none (by omega),List.getElem?_eq_none (by omega)]
  rw [ea]
  rw [show its.length - (2 - 1 - 1)=its.length by omega,List.take_length,List.drop_length]
  obtain ⟨g1,g2,g3,g4,g5⟩:=hm
  obtain ⟨k1,k2,k3,k4,k5⟩:=hm2
  obtain ⟨hp1,_,_,tk1,_⟩:=s1
  obtain ⟨hp2,_,_,tk2,_⟩:=s2
  cases g2; cases g3; cases g4; cases k2; cases k3; cases k4
  refine wpAny_bind (wpAny_newObj_type ?_)
  refine wpAny_pure ?_
  exact hQ hp2 tk2 (fun b o hb e=>k1 b o (by simpa using hb) (g1 b o (by simpa using hb) e)) (Nat.le_trans g5 k5)
def gStar (K : PySem.W.Frag) (t : TGs) : TG:=fun v σ H Q=>∃ a x xs,v = .ref a∧(SqL K H a (x :: xs)∨SqT K H a (x :: xs))∧∀ l,H l=none→t [x,.ref l] σ (upd H l (.lst xs)) Q
theorem pgs_star {e : Expr} {pos : Pos} {g : TG} (h1 : PG X e g) (hs : (assignEach [.Starred e pos] X.env).map (·.2)=[assign e X.env]:=by rfl) : PGs X [.Starred e pos] (gCons g gNil):=by
  refine ⟨?_⟩
  intro pins s σ H vs us Q I r h
  obtain ⟨v,vr,e1,h⟩:=h
  subst e1
  cases r with
  | cons r rr=>
    rw [hs]
    refine assignInOrder_cons (thn (h1 pins s σ H _ _ _ I r h) fun _ s1 ⟨σ1,H1,I1,q1⟩=>?_)
    obtain ⟨rfl,q1⟩:=q1
    cases rr
    exact assignInOrder_nil ⟨_,_,I1,q1⟩
theorem pg_star {a b : Expr} {k : Nat} {pos pos' : Pos} {t : TGs} (hc : X.calm=true) (h : PGs X [a,.Starred b pos'] t)
    (hn : (assignEach [a,.Starred b pos'] X.env).length=2:=by rfl) (hst : (assignEach [a,.Starred b pos'] X.env).findIdx? (·.1)=some 1:=by rfl) : PG X (.Tuple [a,.Starred b pos'] k pos) (gStar X.K t):=by
  refine ⟨?_⟩
  intro pins s σ H v u Q I r hw
  obtain ⟨p,x,xs,rfl,hq,hw⟩:=hw
  cases r
  have hh:=I.ok.hd hc
  rw [assign_Tuple]
  refine wpAny_bind (wpAny_standAt ?_)
  unfold unpack
  rw [hn,hst]
  have fin : ∀ (its : List Value) (i0 : Value) (h' : Heap) (tk : Nat),RelV x i0→Vals xs its→xs.length≤sizeLine→(∀ (b : Addr) (o : Obj),s.heap.get? b=some o→h'.get? b=some o)→wpAny (model X.prog X.w) X.A (assignInOrder ((assignEach [a,.Starred b pos'] X.env).map (·.2)) [i0,.ref h'.objs.size]) (fun _ s'=>∃ σ' H',Inv X pins σ' H' s'∧Q σ' H') X.xe { s with toks:=tk,heap:=h'.push { cls:=.type "list",data:=.seq its.toArray } }:=fun its i0 h' tk rx rv hz k=>by
    have I1 : Inv X pins σ H { s with heap:=h',toks:=tk }:=I.kept k
    have I2:=I1.lnew (t':=tk) rv hz
    exact h pins _ σ _ [x,.ref h'.objs.size] _ Q I2 (.cons rx (.cons rfl .nil)) (hw _ I1.fresh)
  rcases hq with hq | hq
  · obtain ⟨its',rv,pl,hz⟩:=I.list hq
    cases rv with
    | cons rx rv=>
      rename_i i0 its
      have il:=pl.isList
      have hlt : p < s.heap.objs.size:=by obtain ⟨o,ho,_⟩:=il; exact Heap.lt_size ho
      rw [List.length_cons] at hz
      have hz' : its.length≤sizeLine:=by have:=rv.length; omega
      refine wpAny_bind (wpAny_holding (star_items (I:=s.heap.objs.size) (fp:=[s.heap.objs.size,p]) (T := "list_iterator") (i0:=i0) (its:=its) (St:=fun i h=>h.IsListIter s.heap.objs.size p i∧h.IsList p (i0 :: its).toArray) hh (fun Q' q=>?_) (fun Q' q=>wpAny_pyIter_list il q) (by decide) (fun A' hA=>?_) (fun i s' st=>st.1.typeIs) ⟨⟨_,Heap.get?_push_size _ rfl,rfl,rfl⟩,il.push _⟩ (fun h' st b hb=>?_) (.head _) hz' fun h' tk k _=>fin its i0 h' tk rx rv (by omega) fun b o e=>k b o (Nat.ne_of_lt (Heap.lt_size e)) (Heap.get?_push_of_some _ e)))
      · unfold notIterableAtAll
        exact wpAny_bind (wpAny_specialOf il.typeIs slot_list_iter.lookup (wpAny_pure q))
      · have W:=Walks.list (prog:=X.prog) (w:=X.w) hA s.heap.objs.size p (Nat.ne_of_lt hlt) (i0 :: its).toArray
        simpa using W
      · obtain ⟨⟨o1,e1,_⟩,o2,e2,_⟩:=st
        rcases List.mem_cons.mp hb with rfl | hb
        · exact Heap.lt_size e1
        · rw [List.mem_singleton.mp hb]; exact Heap.lt_size e2
  · obtain ⟨its',rv,pl,hz⟩:=I.tuple hq
    cases rv with
    | cons rx rv=>
      rename_i i0 its
      have il : s.heap.IsTuple p (i0 :: its).toArray:=by obtain ⟨o,e,c,d⟩:=pl; exact ⟨o,e,c,d⟩
      have hlt : p < s.heap.objs.size:=by obtain ⟨o,ho,_⟩:=il; exact Heap.lt_size ho
      rw [List.length_cons] at hz
      have hz' : its.length≤sizeLine:=by have:=rv.length; omega
      refine wpAny_bind (wpAny_holding (star_items (I:=s.heap.objs.size) (fp:=[s.heap.objs.size,p]) (T := "tuple_iterator") (i0:=i0) (its:=its) (St:=fun i h=>h.IsTupleIter s.heap.objs.size p i∧h.IsTuple p (i0 :: its).toArray) hh (fun Q' q=>?_) (fun Q' q=>wpAny_pyIter_tuple il q) (by decide) (fun A' hA=>?_) (fun i s' st=>st.1.typeIs) ⟨⟨_,Heap.get?_push_size _ rfl,rfl,rfl⟩,il.push _⟩ (fun h' st b hb=>?_) (.head _) hz' fun h' tk k _=>fin its i0 h' tk rx rv (by omega) fun b o e=>k b o (Nat.ne_of_lt (Heap.lt_size e)) (Heap.get?_push_of_some _ e)))
      · unfold notIterableAtAll
        exact wpAny_bind (wpAny_specialOf il.typeIs F.slot_tuple_iter.lookup (wpAny_pure q))
      · have W:=Walks.tuple (prog:=X.prog) (w:=X.w) hA s.heap.objs.size p (Nat.ne_of_lt hlt) (i0 :: its).toArray
        simpa using W
      · obtain ⟨⟨o1,e1,_⟩,o2,e2,_⟩:=st
        rcases List.mem_cons.mp hb with rfl | hb
        · exact Heap.lt_size e1
        · rw [List.mem_singleton.mp hb]; exact Heap.lt_size e2
end
end L2
namespace L2
open PySem PySem.Spec PyProof.Rows
abbrev KdQ:=Str×Int×Tok×Tok
def kdE (w : World) (q : KdQ) : DictEntry:=⟨PyData.keyHash w.params q.1,.str q.1 q.2.2.1,.int q.2.1 q.2.2.2⟩
def kvsOf (l : List (Str×Int)) : List (Key×V):=l.map fun p=>(.inr p.1,.int p.2)
structure KDic (K : PySem.W.Frag) (w : World) (d : Addr) (l : List (Str×Int)) : Prop where
  ob : ∃ (q : List KdQ) (ep : Nat),q.map (fun x=>(x.1,x.2.1))=l∧K.lookup d=some { cls:=.type "dict",dict:=none,data:=.dict (q.map (kdE w)).toArray ep,slots:=#[] }
  nd : (l.map (·.1)).Nodup
  ln : l.length≤1000
  sm : (d == sysModules)=false
section
variable {P : Program} {w : World} {h : Heap} {d : Addr}
theorem kd_pairs : ∀ q : List KdQ,Pairs (mixKind P w) (q.map (kdE w)) (q.map fun x=>((.inr x.1 : Key),Value.int x.2.1 x.2.2.2))
  | []=>.nil
  | x :: q=>.cons (keyIs_str x.1 x.2.2.1) rfl (kd_pairs q)
theorem kd_kv : ∀ q : List KdQ,KV (kvsOf (q.map fun x=>(x.1,x.2.1))) (q.map fun x=>((.inr x.1 : Key),Value.int x.2.1 x.2.2.2))
  | []=>.nil
  | x :: q=>.cons ⟨rfl,_,rfl⟩ (kd_kv q)
theorem KDic.ok {K : PySem.W.Frag} {l : List (Str×Int)} (D : KDic K w d l) (X : K.In h) (H : Hp) : ObjOk P w H h d (.dK (kvsOf l)):=by
  obtain ⟨q,ep,e,lk⟩:=D.ob
  have g:=X _ _ lk
  subst e
  refine ⟨Nat.le_of_lt (small1000 (by unfold kvsOf; rw [List.length_map]; exact D.ln)),D.sm,_,kd_kv q,_,_,_,g,⟨rfl,rfl,rfl⟩,rfl,fun e he=>?_,by rw [List.toList_toArray]; exact kd_pairs q,?_⟩
  · have he : e∈q.map (kdE w):=by simpa using he
    obtain ⟨x,_,rfl⟩:=List.mem_map.mp he
    exact ⟨.inr x.1,keyIs_str x.1 x.2.2.1,rfl⟩
  · have n:=D.nd
    rw [List.map_map] at n ⊢
    exact List.pairwise_map.mpr ((List.pairwise_map.mp n).imp fun hab z=>hab (Sum.inr.inj z))
end
section
variable {X : Cx} {o e f : Expr} {apos cpos : Pos} {td ty : TE}
def tKGet1 (d : Addr) (l : List (Str×Int)) (td ty : TE) : TE:=fun σ H Q=>td σ H fun x H1=>x = .ref d∧ty σ H1 fun y H2=>∃ z,y = .str z∧Q ((valV (kvsOf l) (.inr z)).getD .non) H2
theorem pe_kget1 {d : Addr} {l : List (Str×Int)} (D : KDic X.K X.w d l) (ho : PE X o td) (he : PE X e ty) (m : M1 X o "get" apos e cpos) : PE X (.Call (.Attribute o "get" apos) [e] [] cpos) (tKGet1 d l td ty):=by
  refine ⟨?_⟩
  intro pins s σ H Q I h
  refine wpAny_Call_method m.base m.few m.line PySem.F.plainAttrs_dict PySem.F.slot_dict_get PySem.F.type_dict_get (thn (ho pins s σ H _ I h) fun u s1 ⟨x,H1,I1,rx,ex,q1⟩=>?_)
  subst ex
  obtain rfl : u=Value.ref d:=rx
  obtain ⟨_,sm,vs,rel,dd⟩:=D.ok (P:=X.prog) I1.kIn H1
  refine ⟨dd.typeIs,fun b q=>?_,?_⟩
  · cases q
    obtain ⟨ob,_,_,h1,h2,_⟩:=dd
    exact ⟨ob,h1,h2.2.1⟩
  rw [m.trees]
  refine Calls.callWith_builtin rfl (Calls.evalArgs_plain (Calls.spliced_cons (thn (he pins s1 σ H1 _ I1 q1) fun iv s2 ⟨y,H2,I2,ry,z,ez,q2⟩=>Calls.spliced_nil ?_)))
  subst ez
  obtain ⟨t,rfl⟩:=ry
  obtain ⟨_,sm,vs,rel,dd⟩:=D.ok (P:=X.prog) I2.kIn H2
  refine call_meetsIn PySem.F.slot_dict_get dd.typeIs PySem.F.entry_dict_get (PySem.F.args_dict_get_2 _ _) (meets_dict_get (mixKind X.prog X.w) d (k:=(.inr z : Key)) (keyIs_str z t) sm) ⟨_,dd.mapOf,⟨_,H2,I2.tok _,?_,q2⟩⟩
  exact (rel.val (.inr z)).getD rfl
end
end L2
namespace L2
open PySem
def cp (x : Str) : List Nat:=x.cps.toList
theorem cp_inj {x y : Str} (h : cp x=cp y) : x=y:=PyProof.Rows.ext_toList h
def sp : Str:=⟨#[32]⟩
theorem cp_join (x y : Str) (r : List Str) : cp (Str.join sp (x :: y :: r))=cp x ++ 32 :: cp (Str.join sp (y :: r)):=by
  show (x ++ sp ++ Str.join sp (y :: r)).cps.toList=_
  unfold cp
  rw [PySem.Str.cps_append,PySem.Str.cps_append]
  simp [sp]
theorem split_ne (x : Str) : Txt.split x sp≠[]:=by
  intro e
  by_cases c : x=Str.empty
  · subst c
    revert e
    decide +kernel
  · have:=StrLaws.join_split x sp
    rw [e] at this
    exact c this.symm
def txtN (n : Int) : Str:=Str.ofString (toString n)
theorem cp_num {n : Int} (h0 : 0≤n) : cp (txtN n)=(Nat.toDigits 10 n.toNat).map Char.toNat:=by
  have:=PySem.W.KIN.signs_num n.toNat
  rw [show ((n.toNat : Nat) : Int)=n by omega] at this
  exact this
theorem digit_in {m c : Nat} (h : c∈(Nat.toDigits 10 m).map Char.toNat) : 48≤c∧c≤57:=by
  obtain ⟨d,hd,rfl⟩:=List.mem_map.mp h
  have:=Nat.isDigit_of_mem_toDigits (by decide) (by decide) hd
  unfold Char.isDigit at this
  simp only [ge_iff_le,Bool.and_eq_true,decide_eq_true_eq] at this
  obtain ⟨a,b⟩:=this
  exact ⟨a,b⟩
theorem num_signs {n : Int} (h0 : 0≤n) {c : Nat} (h : c∈cp (txtN n)) : 48≤c∧c≤57:=by
  rw [cp_num h0] at h
  exact digit_in h
theorem toDigits_head : ∀ {m : Nat},0 < m→∃ d r,Nat.toDigits 10 m=d :: r∧d≠'0':=by
  intro m
  induction m using Nat.strongRecOn with
  | _ m ih=>
    intro h
    by_cases c : m < 10
    · rw [Nat.toDigits_of_lt_base c]
      refine ⟨_,[],rfl,?_⟩
      have : m=1∨m=2∨m=3∨m=4∨m=5∨m=6∨m=7∨m=8∨m=9:=by omega
      rcases this with rfl | rfl | rfl | rfl | rfl | rfl | rfl | rfl | rfl <;> decide
    · obtain ⟨d,r,e,hd⟩:=ih (m / 10) (by omega) (by omega)
      rw [Nat.toDigits_of_base_le (by decide) (by omega),e]
      exact ⟨d,_,rfl,hd⟩
def zeroT : Str:=⟨#[48]⟩
theorem num_lead {n : Int} (h0 : 0 < n) : Txt.startswith (txtN n) zeroT=false:=by
  obtain ⟨d,r,e,hd⟩:=toDigits_head (m:=n.toNat) (by omega)
  have ec:=cp_num (n:=n) (by omega)
  rw [e,List.map_cons] at ec
  unfold Txt.startswith
  rw [Bool.and_eq_false_iff]
  refine .inr ?_
  rw [StrLaws.subAt_eq]
  show (((cp (txtN n)).drop 0).take 1 == [48])=false
  rw [ec]
  show ([d.toNat] == [48])=false
  have : d.toNat≠48:=fun z=>hd (Char.ext (UInt32.toNat_inj.mp z))
  simpa using this
theorem num_zero : txtN 0=zeroT:=by decide +kernel
theorem num_len {n : Int} (h0 : 0≤n) (h1 : n < 10000000) : (txtN n).length≤7:=PyProof.Rows.toString_length_le h0 (by decide) (by simpa using h1)
end L2
namespace L2
open PySem PySem.W PyProof.Rows
structure Ordr (lt : Nat→Nat→Bool) : Prop where
  irr : ∀ i,lt i i=false
  tr : ∀ i j k,lt j i=false→lt k j=false→lt k i=false
  asy : ∀ i j,lt i j=true→lt j i=false
section
variable {n : Nat} {lt : Nat→Nat→Bool}
variable (O : Ordr lt)
include O
end
end L2
namespace L2
open PySem PySem.Spec PyProof.Rows
section
variable {X : Cx} {a b e : Expr} {es : List Expr} {pos : Pos}
end
end L2
namespace L2
open PySem PySem.Spec PyProof.Rows
theorem pe_glI {X : Cx} {x : Str} {v : Int} {pos : Pos} (hg : Gl X x) (hm : ∃ t,X.mg x=some (.int v t)) (hd : (x == ("__debug__" : Str))=false:=by decide) : PE X (.Name x pos) (tC (.int v)):=by
  obtain ⟨t,h⟩:=hm
  exact pe_glob hg h ⟨_,rfl⟩ hd
end L2
namespace L2
open PySem PySem.Spec PyProof.Rows
end L2
namespace L2
open PySem PySem.Spec PySem.W PyProof.Rows
theorem ints_of : ∀ {ns : List Int} {us : List Value},Vals (ns.map V.int) us→IntsAre us ns
  | [],_,.nil=>.nil
  | n :: r,_,.cons x t=>by
    obtain ⟨k,rfl⟩:=x
    exact .cons n k (ints_of t)
theorem ints_to : ∀ {ns : List Int} {us : List Value},IntsAre us ns→Vals (ns.map V.int) us
  | _,_,.nil=>.nil
  | _,_,.cons n t r=>.cons ⟨t,rfl⟩ (ints_to r)
section
variable {prog : Program} {w : World} {A : Around} {E : Value→Shared→Prop} {s : Shared}
end
section
variable {X : Cx}
end
end L2
namespace L2
open PySem PySem.Spec PySem.W PyProof.Rows
section
variable {X : Cx}
def rInsert : V→List V→Hp→VK→Prop:=fun x vs H Q=>∃ (l : Addr) (xs : List V) (i : Int) (y : V),x = .ref l∧vs=[.int i,y]∧H l=some (.lst xs)∧0≤i∧i≤xs.length∧xs.length < 1000∧Q .non (upd H l (.lst (xs.take i.toNat ++ y :: xs.drop i.toNat)))
theorem ins_arr (its : List Value) (i : Int) (u : Value) (h0 : 0≤i) (h1 : i≤its.length) :
    (fun xs : Array Value=>have k:=if i < 0 then (i + ((xs.size : Nat) : Int)).toNat else min i.toNat xs.size; (xs.extract 0 k).push u ++ xs.extract k) its.toArray=(its.take i.toNat ++ u :: its.drop i.toNat).toArray:=by
  have ek : (if i < 0 then (i + ((its.toArray.size : Nat) : Int)).toNat else min i.toNat its.toArray.size)=i.toNat:=by
    rw [if_neg (by omega),List.size_toArray]; omega
  show (its.toArray.extract 0 (if i < 0 then (i + ((its.toArray.size : Nat) : Int)).toNat else min i.toNat its.toArray.size)).push u ++ its.toArray.extract (if i < 0 then (i + ((its.toArray.size : Nat) : Int)).toNat else min i.toNat its.toArray.size)=_
  rw [ek]
  apply Array.toList_inj.mp
  simp [Array.toList_extract,List.extract_eq_take_drop]
  exact List.take_of_length_le (by rw [List.length_drop]; exact Nat.le_refl _)
theorem mt_insert : MtM X "list.insert" rInsert:=by
  intro pins s σ H x vs v us Q I rx rv h
  obtain ⟨l,xs,i,y,rfl,rfl,hH,h0,hi,hz,q⟩:=h
  cases rx
  obtain ⟨u1,u2,rfl,ru1,ru2⟩:=rv.two
  obtain ⟨t,rfl⟩:=ru1
  obtain ⟨z,its,n,r,hl,e⟩:=I.lstM hH
  have hfit : ¬(!Builtin.List.listFitsIndex i)=true:=by
    unfold Builtin.List.listFitsIndex
    simp
    omega
  have hsz : its.toArray.size≤sizeLine:=by rw [List.size_toArray,← hl]; exact z
  refine call_meets PySem.F.slot_list_insert ⟨_,e,rfl⟩ PySem.F.entry_list_insert (PySem.F.args_list_insert_3 _ _ _) (PySem.AutoSeq1.list_insert_list_int_val_1 l its.toArray n i t u2 hfit hsz) ⟨e,?_⟩
  refine ⟨.non,_,I.lset (its':=its.take i.toNat ++ u2 :: its.drop i.toNat) hH e (ins_arr its i u2 h0 (by omega)) ((r.take i.toNat).append (.cons ru2 (r.drop i.toNat))) ?_,rfl,q⟩
  rw [List.length_append,List.length_cons,List.length_take,List.length_drop,sizeLine_eq]; omega
end
end L2
namespace L2
open PySem PySem.Spec PySem.W PyProof.Rows
abbrev colAt (rs : List (List Int)) (k : Nat) (i : Int) : Int:=(rs.getD i.toNat []).getD k 0
end L2
namespace L2
open PySem PySem.Spec PySem.W PyProof.Rows
def IntsAt (H : Hp) (b : Addr) (ts : List Int) : Prop:=H b=some (.lst (ts.map V.int))
theorem ints_at {os : List Int} {i : Nat} {x : V} (e : (os.map V.int)[i]? = some x) : ∃ v,x = .int v∧os[i]? = some v:=by
  rw [List.getElem?_map] at e
  cases q : os[i]? with
  | none=>rw [q] at e; cases e
  | some v=>rw [q] at e; exact ⟨v,(Option.some.inj e).symm,rfl⟩
theorem atI_ints {os : List Int} {r : Int} {i : Nat} (hr : r=(i : Int)) (h : i < os.length) : atI (os.map V.int) r=some (.int os[i]):=by
  subst hr
  exact atI_nat (by rw [List.getElem?_map,List.getElem?_eq_getElem h]; rfl)
end L2
namespace L2
open PySem PySem.Spec PySem.W PyProof.Rows
def vbm : List Value:=[.type "ValueError",.type "Exception",.type "BaseException",.type "object"]
structure XcL (K : PySem.W.Frag) (cl : Nat→Addr) (l : List Nat) : Prop where
  x : ∀ i∈l,XCls K (cl i)
  m : ∀ i∈l,PySem.W.exmOne K (.ref (cl i)) (.ref (cl 0))=some true
  d : ∀ i∈l,∀ j∈l,PySem.W.kitOne K (.ref (cl i)) (.ref (cl j))=some (decide (i=j))
  v : ∀ i∈l,PySem.W.kitOne K (.ref (cl i)) (.type "ValueError")=some true
end L2
namespace L2
open PySem PySem.Spec PySem.W PyProof.Rows
section
variable {X : Cx} {a b c d e : Expr} {ta tb tc td te : TE} {pos p2 : Pos}
end
theorem keep_refl {σ₀ : St} : ∀ (k : Nat) v,σ₀[k]? = some (some v)→σ₀[k]? = some (some v):=fun _ _ h=>h
theorem keep_set {σ₀ σ : St} {j : Nat} {x : Option V} (h : ∀ (k : Nat) v,σ₀[k]? = some (some v)→σ[k]? = some (some v)) (hj : σ₀[j]? = some none) : ∀ (k : Nat) v,σ₀[k]? = some (some v)→(σ.set j x)[k]? = some (some v):=fun k v e=>by
  have : j≠k:=fun z=>by rw [z,e] at hj; cases hj
  rw [List.getElem?_set_ne this]
  exact h k v e
theorem comp_by {K : PySem.W.Frag} {a D : Addr} {xs : List V} {g : TG} {ti : TT} {te : TE} {σ₀ : St} {H1 : Hp} {R : Hp→Prop} (P : Nat→List V→Hp→Prop) (hD : H1 D=none) (hx : H1 a=some (.lst xs)) (hn : xs.length≤1000)
    (st : ∀ i zs H H',P i zs H→(∀ b o,b≠D→H b=some o→H' b=some o)→P i zs H') (h0 : P 0 [] H1)
    (step : ∀ i x zs H,xs[i]? = some x→Same H1 H→P i zs H→∀ (K1 : V→Hp→Prop) (K2 : Hp→Prop),(∀ y H4,Same H H4→P (i + 1) (zs ++ [y]) H4→K1 y H4)→(∀ H3,Same H H3→P (i + 1) zs H3→K2 H3)→
      g x σ₀ H fun σ2 H2=>(∀ (k : Nat) v,σ₀[k]? = some (some v)→σ2[k]? = some (some v))∧ti σ2 H2 fun b H3=>if b=true then te σ2 H3 K1 else K2 H3)
    (fin : ∀ zs H,Same H1 H→P xs.length zs H→zs.length≤xs.length→H D=some (.lst zs)→R H) :
    ∃ W : Nat→Nat→Hp→Prop,(∃ m,W 0 m (upd H1 D (.lst [])))∧∀ i m H,W i m H→((Itl K a).stop i H∧R H)∨((Itl K a).go i H∧∀ x H',(Itl K a).yld i H x H'→g x σ₀ H' fun σ2 H2=>(∀ (k : Nat) v,σ₀[k]? = some (some v)→σ2[k]? = some (some v))∧ti σ2 H2 fun b H3=>
      if b=true then te σ2 H3 fun y H4=>∃ zs,H4 D=some (.lst zs)∧zs.length < sizeLine∧∃ m',m' < m∧W (i + 1) m' (upd H4 D (.lst (zs ++ [y]))) else ∃ m',m' < m∧W (i + 1) m' H3):=by
  refine ⟨fun i m H=>i + m=xs.length∧Same H1 H∧∃ zs,H D=some (.lst zs)∧zs.length≤i∧P i zs H,⟨xs.length,by omega,same_new hD _,[],upd_same,Nat.le_refl _,st _ _ _ _ h0 fun b o hb e=>by rw [upd_ne hb]; exact e⟩,?_⟩
  rintro i m H ⟨him,s1,zs,hz,hl,hp⟩
  have ex:=s1 _ _ hx
  by_cases hi : i < xs.length
  · refine .inr ⟨⟨xs,_,SqL.of ex,List.getElem?_eq_getElem hi⟩,?_⟩
    rintro x H' ⟨rfl,hy⟩
    refine step i x zs H' (hy _ (SqL.of ex)) s1 hp _ _ (fun y H4 s4 p4=>⟨zs,s4 _ _ hz,small1000 (by omega),m - 1,by omega,by omega,(s1.trans s4).young hD,zs ++ [y],upd_same,by rw [List.length_append,List.length_singleton]; omega,st _ _ _ _ p4 fun b o hb e=>by rw [upd_ne hb]; exact e⟩) fun H3 s3 p3=>⟨m - 1,by omega,by omega,s1.trans s3,zs,s3 _ _ hz,by omega,p3⟩
  · have e : i=xs.length:=by omega
    subst e
    exact .inl ⟨⟨xs,SqL.of ex,Nat.le_refl _⟩,fin zs H s1 hp hl hz⟩
def Tups (H : Hp) (xs : List V) (rs : List (List Int)) : Prop:=xs.length=rs.length∧∀ (i : Nat) x r,xs[i]? = some x→rs[i]? = some r→∃ p,x = .ref p∧H p=some (.tup (r.map V.int))
theorem Tups.nil {H : Hp} : Tups H [] []:=⟨rfl,fun i x r e=>by cases e⟩
theorem Tups.one {H : Hp} {p : Addr} {r : List Int} (h : H p=some (.tup (r.map V.int))) : Tups H [.ref p] [r]:=⟨rfl,fun i x r' e1 e2=>by
  match i,e1,e2 with
  | 0,e1,e2=>cases e1; cases e2; exact ⟨p,rfl,h⟩
  | i + 1,e1,_=>cases e1⟩
theorem Tups.keep {H H' : Hp} {xs : List V} {rs : List (List Int)} (h : Tups H xs rs) (k : ∀ (p : Addr) (z : List V),H p=some (.tup z)→H' p=some (.tup z)) : Tups H' xs rs:=⟨h.1,fun i x r e1 e2=>by
  obtain ⟨p,e,hp⟩:=h.2 i x r e1 e2
  exact ⟨p,e,k _ _ hp⟩⟩
theorem Tups.same {H H' : Hp} {xs : List V} {rs : List (List Int)} (h : Tups H xs rs) (s : Same H H') : Tups H' xs rs:=h.keep fun _ _ e=>s _ _ e
theorem Tups.but {H H' : Hp} {D : Addr} {ys xs : List V} {rs : List (List Int)} (h : Tups H xs rs) (hD : H D=some (.lst ys)) (k : ∀ b o,b≠D→H b=some o→H' b=some o) : Tups H' xs rs:=h.keep fun p z e=>k _ _ (ne_of e hD (by intro z; cases z)) e
theorem Tups.draw {H H' : Hp} {a c : Addr} {xs : List V} {rs : List (List Int)} (h : Tups H xs rs) (d : DrawAt H a c) (k : KeepBut a H H') : Tups H' xs rs:=h.keep fun p z e=>k _ _ (d.neT e) e
theorem Tups.at {H : Hp} {xs : List V} {rs : List (List Int)} (h : Tups H xs rs) {i : Nat} {x : V} (e : xs[i]? = some x) : ∃ p r,x = .ref p∧rs[i]? = some r∧H p=some (.tup (r.map V.int)):=by
  have hi:=(List.getElem?_eq_some_iff.mp e).1
  have hr : rs[i]? = some (rs[i]'(by rw [← h.1]; exact hi)):=List.getElem?_eq_getElem (by rw [← h.1]; exact hi)
  obtain ⟨p,e',hp⟩:=h.2 i x _ e hr
  exact ⟨p,_,e',hr,hp⟩
theorem getElem_next {α : Type} {rs : List α} {i : Nat} {r : α} (e : rs[i]? = some r) : rs.take (i + 1)=rs.take i ++ [r]:=by
  obtain ⟨hi,e'⟩:=List.getElem?_eq_some_iff.mp e
  rw [List.take_succ_eq_append_getElem hi,e']
end L2
namespace L2
open PySem PySem.Spec PyProof.Rows
def evs {α : Type} : List α→List α
  | a :: _ :: r=>a :: evs r
  | [a]=>[a]
  | []=>[]
theorem evs_get {α : Type} : ∀ (l : List α) (j : Nat),(evs l)[j]? = l[2 * j]?
  | a :: _ :: r,0=>rfl
  | a :: b :: r,j + 1=>by
    show (evs r)[j]? = _
    rw [evs_get r j,show 2 * (j + 1)=2 * j + 1 + 1 by omega,List.getElem?_cons_succ,List.getElem?_cons_succ]
  | [a],0=>rfl
  | [a],j + 1=>by rw [show 2 * (j + 1)=2 * j + 1 + 1 by omega]; rfl
  | [],j=>rfl
theorem evs_map {α β : Type} (f : α→β) : ∀ l : List α,evs (l.map f)=(evs l).map f
  | a :: _ :: r=>by show f a :: evs (r.map f)=f a :: (evs r).map f; rw [evs_map f r]
  | [a]=>rfl
  | []=>rfl
theorem evs_len {α : Type} : ∀ l : List α,(evs l).length≤l.length
  | a :: _ :: r=>by have:=evs_len r; show (evs r).length + 1≤r.length + 1 + 1; omega
  | [a]=>Nat.le_refl _
  | []=>Nat.le_refl _
theorem evs_len2 {α : Type} : ∀ l : List α,(evs l).length=(l.length + 1) / 2
  | a :: _ :: r=>by have:=evs_len2 r; show (evs r).length + 1=(r.length + 1 + 1 + 1) / 2; omega
  | [a]=>by show 1=(1 + 1) / 2; decide
  | []=>by show 0=(0 + 1) / 2; decide
theorem vals_evs : ∀ {xs : List V} {its : List Value},Vals xs its→Vals (evs xs) (evs its)
  | _,_,.nil=>.nil
  | _,_,.cons h .nil=>.cons h .nil
  | _,_,.cons h (.cons _ r)=>.cons h (vals_evs r)
theorem pick2 (items : List Value) (s : Nat) : (((List.range ((items.length - s + 1) / 2)).map fun (k : Nat)=>((s : Int) + 2 * (k : Int)).toNat).filterMap (items.toArray[·]?))=evs (items.drop s):=by
  have e : ∀ n,(((List.range n).map fun (k : Nat)=>((s : Int) + 2 * (k : Int)).toNat).filterMap (items.toArray[·]?))=(List.range n).filterMap fun k=>(evs (items.drop s))[k]?:=fun n=>by
    rw [List.filterMap_map]
    congr 1
    funext k
    show items.toArray[((s : Int) + 2 * (k : Int)).toNat]? = _
    rw [evs_get,List.getElem?_drop,show ((s : Int) + 2 * (k : Int)).toNat=s + 2 * k by omega]
    simp
  rw [e]
  have r:=pick_run (evs (items.drop s)).toArray 0 ((items.length - s + 1) / 2)
  have z : (List.range ((items.length - s + 1) / 2)).filterMap (fun k=>(evs (items.drop s))[k]?)=((List.range ((items.length - s + 1) / 2)).map (0 + ·)).filterMap ((evs (items.drop s)).toArray[·]?):=by
    rw [List.filterMap_map]
    congr 1
    funext k
    show _=(evs (items.drop s)).toArray[0 + k]?
    rw [Nat.zero_add]
    simp
  rw [z,r,List.drop_zero]
  refine List.take_of_length_le ?_
  show (evs (items.drop s)).length≤_
  rw [evs_len2,List.length_drop]
  exact Nat.le_refl _
theorem range2 (s n : Nat) (h : s≤n) : sliceRange (s : Int) (n : Int) 2=(List.range ((n - s + 1) / 2)).map fun (k : Nat)=>((s : Int) + 2 * (k : Int)).toNat:=by
  unfold sliceRange
  have h1 : (2 : Int) > 0:=by decide
  by_cases c : (s : Int) < n
  · simp only [h1,if_true,c]
    rw [show (((n : Int) - s + 2 - 1) / 2).toNat=(n - s + 1) / 2 by omega]
  · simp only [h1,if_true,c,if_false]
    have : n=s:=by omega
    subst this
    rw [show (n - n + 1) / 2=0 by omega]
    rfl
def sOf : Option Int→Nat
  | none=>0
  | some _=>1
theorem sPick (its : List Value) (lo : Option Int) (h : lo=none∨lo=some 1) : slicePick its.toArray lo none (some 2)=(evs (its.drop (sOf lo))).toArray:=by
  unfold slicePick
  rw [List.size_toArray]
  rcases h with rfl | rfl
  · have e : sliceBounds none none (some 2) its.length=(((0 : Nat) : Int),(its.length : Int),2):=rfl
    rw [e]
    show ((sliceRange ((0 : Nat) : Int) (its.length : Int) 2).filterMap (its.toArray[·]?)).toArray=_
    rw [range2 0 its.length (Nat.zero_le _),pick2]
    rfl
  · by_cases c : 1≤its.length
    · have e : sliceBounds (some 1) none (some 2) its.length=(((1 : Nat) : Int),(its.length : Int),2):=by
        unfold sliceBounds
        simp
        omega
      rw [e]
      show ((sliceRange ((1 : Nat) : Int) (its.length : Int) 2).filterMap (its.toArray[·]?)).toArray=_
      rw [range2 1 its.length c,pick2]
      rfl
    · have : its=[]:=List.length_eq_zero_iff.mp (by omega)
      subst this
      rfl
section
variable {X : Cx} {e : Expr} {te : TE} {lo : Option Expr} {tl : TO} {pos p2 : Pos}
def tSl2 (K : PySem.W.Frag) (te : TE) (tl : TO) : TE:=fun σ H Q=>te σ H fun x H1=>tl σ H1 fun l H2=>(l=none∨l=some 1)∧∃ a xs,x = .ref a∧SqL K H2 a xs∧∀ p,H2 p=none→Q (.ref p) (upd H2 p (.lst (evs (xs.drop (sOf l)))))
theorem pe_sl2 {st : Expr} (he : PE X e te) (hl : PO X lo tl) (hs : PE X st (tC (.int 2))) : PE X (.Subscript e (.Slice lo none (some st) p2) pos) (tSl2 X.K te tl):=by
  refine ⟨?_⟩
  intro pins s σ H Q I h
  refine Subscript_ (thn (he pins s σ H _ I h) fun v s1 ⟨x,H1,I1,r1,q1⟩=>?_)
  refine wpAny_Slice (thn (hl pins s1 σ H1 _ I1 q1) fun vl s2 ⟨l,H2,I2,pl,hl2,a,xs,ex,hx,q⟩=>?_)
  subst ex
  cases r1
  rw [evalPart_none]
  refine wpAny_pure ?_
  refine thn (hs pins s2 σ H2 (fun v H3=>v = .int 2∧H3=H2) I2 ⟨rfl,rfl⟩) fun vs s3 ⟨y,H3,I3,r3,e1,e2⟩=>?_
  subst e1 e2
  obtain ⟨t,rfl⟩:=r3
  have I4 : Inv X pins σ H3 { s3 with heap:=s3.heap.push { cls:=.type "slice",data:=.fields #[vl,.none,.int 2 t] } }:=I3.kept (t':=s3.toks) fun b ob q=>Heap.get?_push_of_some _ q
  obtain ⟨its,r,ht,hz⟩:=I4.list hx
  have hlen:=r.length
  have hsl : Heap.IsSliceOf ({ s3 with heap:=s3.heap.push { cls:=.type "slice",data:=.fields #[vl,.none,.int 2 t] } } : Shared).heap s3.heap.objs.size vl .none (.int 2 t):=Heap.IsSliceOf.new ..
  show wpAny (model X.prog X.w) X.A (subscriptTail e (.Slice lo none (some st) p2) (.ref a) (.ref s3.heap.objs.size)) (EP X pins σ Q) X.xe { s3 with heap:=s3.heap.push { cls:=.type "slice",data:=.fields #[vl,.none,.int 2 t] } }
  revert I4 ht hsl
  generalize s3.heap.objs.size=z
  generalize ({ s3 with heap:=s3.heap.push { cls:=.type "slice",data:=.fields #[vl,.none,.int 2 t] } } : Shared)=s4
  intro I4 ht hsl
  refine tail_any (ops:=[.ref a,.ref z]) ht.isList.typeIs slot_list_getitem.lookup (wpAny_getItem_list_slice ht.isList (st:=some 2) hsl pl .none (.int _ _) (by decide) ?_ (by rw [List.size_toArray]; omega)) rfl
  rw [sPick its l hl2]
  refine ⟨.ref s4.heap.objs.size,_,I4.laid (t':=s4.toks) (o:=.lst (evs (xs.drop (sOf l)))) (fun b ob q=>Heap.get?_push_of_some _ q) (Nat.le_refl _) ?_,rfl,q _ (I4.hok.fresh (Nat.le_refl _))⟩
  exact ⟨by have:=evs_len (xs.drop (sOf l)); rw [List.length_drop] at this; omega,evs (its.drop (sOf l)),0,vals_evs (r.drop _),Heap.get?_push_size _ rfl⟩
end
end L2
namespace L2
open PySem
theorem spT : Str.ofString " " = sp:=by decide +kernel
theorem join_ok {zs : List Str} (h : ∀ z∈zs,z.length≤100) (hn : zs.length≤1000) : JoinOk sp zs=true:=by
  unfold JoinOk
  rw [Bool.not_eq_true']
  refine StrLaws.joinFits (B:=100) h ?_
  have : sp.length=1:=by decide
  rw [this]
  omega
inductive Dd where
  | row (x : Str) (ns : List Int)
  | made (ps : List (Int×Int))
def madeT : Str:=Str.ofString "made"
def flat2 (ps : List (Int×Int)) : List Int:=ps.flatMap fun p=>[p.1,p.2]
def Dd.words : Dd→List Str
  | .row x ns=>x :: ns.map txtN
  | .made ps=>madeT :: (flat2 ps).map txtN
def DdAt (H : Hp) (p : Addr) : Dd→Prop
  | .row x ns=>H p=some (.tup (.str x :: ns.map V.int))
  | .made ps=>∃ t zs,H p=some (.tup [.str madeT,.ref t])∧H t=some (.tup zs)∧Tups H zs (ps.map fun q=>[q.1,q.2])
def okN (n : Int) : Prop:=0≤n∧n < 10000000
def nums : List (Str×Int):=[(Str.ofString "raw",0),(Str.ofString "come",4),(Str.ofString "go",3),(Str.ofString "strike_lot",1),(Str.ofString "strike_out",1),(Str.ofString "lay",2),(Str.ofString "call_back",1)]
def Dd.ok : Dd→Prop
  | .row x ns=>(x,(ns.length : Int))∈nums∧∀ n∈ns,okN n
  | .made ps=>ps≠[]∧ps.length≤10∧∀ p∈ps,okN p.1∧okN p.2
theorem DdAt.same {H H' : Hp} {p : Addr} {d : Dd} (h : DdAt H p d) (s : Same H H') : DdAt H' p d:=by
  cases d with
  | row x ns=>exact s _ _ h
  | made ps=>
    obtain ⟨t,zs,h1,h2,h3⟩:=h
    exact ⟨t,zs,s _ _ h1,s _ _ h2,h3.same s⟩
theorem num_log {n : Int} (h : okN n) : n.natAbs.log2 < 1920:=by
  have : n.natAbs < 2 ^ 24:=by have:=h.1; have:=h.2; omega
  by_cases z : n.natAbs=0
  · rw [z]; decide
  · have:=(Nat.log2_lt z).mpr this
    omega
def isNum (z : Str) : Bool:=Txt.isdigit z && decide (z.length≤7) && (decide (z=zeroT) || !Txt.startswith z zeroT)
def numOf (z : Str) : Int:=(PySem.intText? z).getD 0
def pairs2 (ns : List Int) : List (Int×Int):=(evs ns).zip (evs (ns.drop 1))
def sizeOfN (x : Str) : Option Int:=(nums.find? fun p=>decide (p.1=x)).map (·.2)
def readD : List Str→Option Dd
  | []=>none
  | x :: ws=>if ws.all isNum=true then
      (if x=madeT∧ws≠[]∧ws.length % 2=0 then some (.made (pairs2 (ws.map numOf))) else if sizeOfN x=some ((ws.length : Nat) : Int) then some (.row x (ws.map numOf)) else none) else none
theorem readD_cons (x : Str) (ws : List Str) : readD (x :: ws)=if ws.all isNum=true then (if x=madeT∧ws≠[]∧ws.length % 2=0 then some (.made (pairs2 (ws.map numOf))) else if sizeOfN x=some ((ws.length : Nat) : Int) then some (.row x (ws.map numOf)) else none) else none:=rfl
theorem flat_len : ∀ ps : List (Int×Int),(flat2 ps).length=2 * ps.length
  | []=>rfl
  | p :: ps=>by show (flat2 ps).length + 2=2 * (ps.length + 1); rw [flat_len ps]; omega
theorem flat_mem {ps : List (Int×Int)} {n : Int} (h : n∈flat2 ps) : ∃ p∈ps,n=p.1∨n=p.2:=by
  obtain ⟨p,hp,hn⟩:=List.mem_flatMap.mp h
  simp only [List.mem_cons,List.not_mem_nil,or_false] at hn
  exact ⟨p,hp,hn⟩
theorem nums_len {x : Str} {k : Int} (h : (x,k)∈nums) : sizeOfN x=some k∧x≠madeT∧32 ∉ cp x∧x.length≤20∧0≤k∧k≤4:=by
  unfold nums at h
  simp only [List.mem_cons,List.not_mem_nil,or_false,Prod.mk.injEq] at h
  rcases h with ⟨rfl,rfl⟩ | ⟨rfl,rfl⟩ | ⟨rfl,rfl⟩ | ⟨rfl,rfl⟩ | ⟨rfl,rfl⟩ | ⟨rfl,rfl⟩ | ⟨rfl,rfl⟩ <;> refine ⟨by decide +kernel,by decide +kernel,by decide +kernel,by decide +kernel,by decide,by decide⟩
theorem Dd.ok.nums {d : Dd} (h : d.ok) : ∃ (x : Str) (ns : List Int),d.words=x :: ns.map txtN∧(∀ n∈ns,okN n)∧ns.length≤20∧32 ∉ cp x∧x.length≤20:=by
  cases d with
  | row x ns=>
    obtain ⟨h1,h2⟩:=h
    obtain ⟨_,_,f,l,_,k⟩:=nums_len h1
    exact ⟨x,ns,rfl,h2,by omega,f,l⟩
  | made ps=>
    obtain ⟨h1,h2,h3⟩:=h
    refine ⟨madeT,flat2 ps,rfl,fun n hn=>?_,by rw [flat_len]; omega,by decide +kernel,by decide +kernel⟩
    obtain ⟨p,hp,e⟩:=flat_mem hn
    rcases e with rfl | rfl
    · exact (h3 p hp).1
    · exact (h3 p hp).2
def Dd.line (d : Dd) : Str:=Txt.join sp d.words
theorem tIf_ways {t : TT} {A B : TS} {D : Ends} {σ : St} {H : Hp} (b : Bool) (h : ∀ Q : Bool→Hp→Prop,Q b H→t σ H Q) (h1 : b=true→A D σ H) (h2 : b=false→B D σ H) : tIfS t A B D σ H:=
  h _ (by
    cases b with
    | true=>exact iteT (h1 rfl)
    | false=>exact iteF (h2 rfl))
theorem size_val (x : Str) : (valV (kvsOf nums) (.inr x))=(sizeOfN x).map V.int:=by
  unfold valV kvsOf sizeOfN
  rw [List.find?_map]
  have e : ((fun kv : Key×V=>decide (kv.1=(.inr x : Key))) ∘ fun p : Str×Int=>((.inr p.1 : Key),V.int p.2))=fun p : Str×Int=>decide (p.1=x):=by
    funext p
    exact key_rr p.1 x
  rw [e,Option.map_map,Option.map_map]
  rfl
end L2
namespace L2
open PySem PySem.Spec PyProof.Rows
section
variable {X : Cx} {pins : List (Addr×Obj)} {σ : St} {H : Hp} {s : Shared}
end
section
variable {X : Cx} {N' : List Str} {ix : List (Option Nat)} {scope : Scope} {kx vx tg iter : Expr} {ifs : List Expr} {pos : Pos} {wi : TI} {g : TG} {ti : TT} {tk tv : TE}
end
end L2
namespace L2
open PySem PySem.Spec PyProof.Rows
section
variable {prog : Program} {w : World} {A : Around} {E : Value→Shared→Prop} {s : Shared}
end
section
variable {prog : Program} {w : World} {A : Around} {E : Value→Shared→Prop} {s : Shared}
end
section
variable {X : Cx} {es : List Expr} {x1 : Nat} {tp : Pos} {oe : Expr} {td : TE} {apos cpos : Pos}
end
section
variable {X : Cx} {tg : Expr} {oe : Expr} {td : TE} {apos cpos : Pos}
end
end L2
namespace L2
open PySem PySem.Spec PyProof.Rows
section
variable {prog : Program} {w : World} {A : Around} {R : Result→Shared→Prop} {s : Shared}
end
section
variable {X : Cx} {N' : List Str} {ix : List (Option Nat)} {scope : Scope} {elt tg iter : Expr} {ifs : List Expr} {pos : Pos} {wi : TI} {g : TG} {ti : TT} {te : TE}
variable {t1 i1 : Expr} {wi1 : TI} {g1 : TG}
end
end L2
namespace L2
open PySem PySem.Spec PyProof.Rows
end L2
namespace L2
open PySem PySem.Spec PyProof.Rows
section
variable {prog : Program} {w : World} {A : Around} {E : Value→Shared→Prop} {s : Shared}
end
end L2
namespace L2
open PySem PySem.Spec PyProof.Rows
section
variable {prog : Program} {w : World} {A : Around} {R : Result→Shared→Prop} {s : Shared}
end
section
variable {X : Cx} {N' : List Str} {ix : List (Option Nat)} {scope : Scope} {elt tg iter : Expr} {ifs : List Expr} {pos : Pos} {wi : TI} {g : TG} {ti : TT} {te : TE}
end
end L2
namespace L2
open PySem PySem.Spec PyProof.Rows
section
variable {prog : Program} {w : World} {A : Around} {E : Value→Shared→Prop} {s : Shared}
end
section
variable {prog : Program} {w : World} {A : Around} {E : Value→Shared→Prop} {s : Shared}
end
end L2
namespace L2
open PySem PySem.Spec PyProof.Rows
section
variable {prog : Program} {w : World} {A : Around} {E : Value→Shared→Prop} {s : Shared}
end
end L2
namespace L2
open PySem PySem.Spec PySem.W PyProof.Rows
variable {X : Cx}
end L2
namespace L2
open PySem PySem.Spec PySem.W PyProof.Rows
section
variable {prog : Program} {w : World} {A : Around} {E : Value→Shared→Prop} {s : Shared}
end
end L2
namespace L2
open PySem PySem.Spec PySem.W PyProof.Rows
section
variable {X : Cx}
end
end L2
namespace L2
open PySem PySem.Spec PySem.W PyProof.Rows
section
variable {X : Cx}
end
end L2
namespace L2
open PySem PySem.Spec PySem.W PyProof.Rows
def cutH (h : Heap) (n : Nat) : Heap:=⟨h.objs.extract 0 n,h.life⟩
theorem cutH_get {h : Heap} {n b : Nat} (hb : b < n) : (cutH h n).get? b=h.get? b:=by
  have e : (h.objs.extract 0 n)[b]? = h.objs[b]?:=by
    rw [Array.getElem?_extract]
    by_cases c : b < h.objs.size
    · rw [if_pos (by omega),Nat.zero_add]
    · rw [if_neg (by omega),Array.getElem?_eq_none (by omega)]
  show (match (h.objs.extract 0 n)[b]? with | some ⟨_,_,.freed,_⟩=>none | o=>o)=(match h.objs[b]? with | some ⟨_,_,.freed,_⟩=>none | o=>o)
  rw [e]
theorem cutH_size {h : Heap} {n : Nat} (hn : n≤h.objs.size) : (cutH h n).objs.size=n:=by
  show (h.objs.extract 0 n).size=n
  rw [Array.size_extract]; omega
section
variable {X : Cx} {pins : List (Addr×Obj)} {σ : St}
theorem Inv.lays {h' : Heap} {t' : Nat} : ∀ (as : List (Addr×List Int)) {H : Hp} {s : Shared},Inv X pins σ H s→(∀ b u,s.heap.get? b=some u→h'.get? b=some u)→as.Pairwise (fun p q=>p.1 < q.1)→
    (∀ q∈as,s.heap.objs.size≤q.1∧q.2.length≤1000∧∃ its : List Value,IsTup h' q.1 its.toArray∧IntsAre its q.2)→∃ H',Inv X pins σ H' { s with heap:=h',toks:=t' }∧Same H H'∧∀ q∈as,H' q.1=some (.tup (q.2.map V.int))
  | [],H,s,I,k,_,_=>⟨H,I.kept (t':=t') k,Same.refl _,fun q hq=>by cases hq⟩
  | (a,r) :: as,H,s,I,k,hp,hq=>by
    obtain ⟨ha,rl,its,tu,ia⟩:=hq (a,r) (.head _)
    obtain ⟨o,ho,hc,n,hd⟩:=tu
    have ha' : a + 1≤h'.objs.size:=Heap.lt_size ho
    have fr : H a=none:=I.hok.fresh ha
    have I1 : Inv X pins σ (upd H a (.tup (r.map V.int))) { s with heap:=cutH h' (a + 1),toks:=t' }:=I.laid (t':=t') (fun b u e=>by
      rw [cutH_get (Nat.lt_succ_of_le (Nat.le_trans (Nat.le_of_lt (Heap.lt_size e)) ha))]; exact k b u e) ha (show ObjOk X.prog X.w _ _ _ (.tup (r.map V.int)) from ⟨Nat.le_of_lt (small1000 (by rw [List.length_map]; exact rl)),its,ints_to ia,o,by rw [cutH_get (Nat.lt_succ_self _)]; exact ho,hc,n,hd⟩)
    rw [List.pairwise_cons] at hp
    obtain ⟨H',I',s',e'⟩:=Inv.lays as I1 (fun b u e=>by
      have : b < a + 1:=by have:=Heap.lt_size e; rwa [cutH_size ha'] at this
      rwa [cutH_get this] at e) hp.2 fun q hq'=>by
      obtain ⟨_,b2,b3⟩:=hq q (.tail _ hq')
      exact ⟨by show (cutH h' (a + 1)).objs.size≤q.1; rw [cutH_size ha']; exact hp.1 q hq',b2,b3⟩
    refine ⟨H',I',(same_new fr _).trans s',fun q hq'=>?_⟩
    rcases List.mem_cons.mp hq' with rfl | z
    · exact s' _ _ upd_same
    · exact e' q z
end
section
variable {X : Cx} {oe : Expr} {td : TE} {apos cpos : Pos}
end
section
variable {X : Cx}
end
end L2
namespace L2
open PySem PySem.Spec PyProof.Rows PySem.Calls
section
variable {prog : Program} {w : World} {A : Around} {E : Value→Shared→Prop} {s : Shared}
abbrev ZOut (h : Heap) (z TI TO a : Addr) (f : Bool) : Prop:=h.get? z=some { cls:=.type "zip",dict:=none,data:=.fields #[rawInt a,.bool f,.bool false,.ref TI,.ref TO],slots:=#[] }
theorem zo_free {z TI TO a : Addr} {f : Bool} {oa : Obj} {Q : Bool→Shared→Prop} (zz : ZOut s.heap z TI TO a f) (al : s.heap.get? a=some oa)
    (hq : ∀ h',ZOut h' z TI TO a true→Heap.SameBut z s.heap h'→Q false { s with heap:=h' }) : wpAny (model prog w) A (Builtin.SmallTypes.ownedTupleIsFree (.ref z)) Q E s:=by
  unfold Builtin.SmallTypes.ownedTupleIsFree
  refine wpAny_bind (wpAny_field zz rfl (x:=rawInt a) rfl ?_)
  show wpAny _ _ (loadIfAlive ((a : Int).toNat) >>= fun _=>_) _ _ _
  rw [Int.toNat_natCast]
  refine wpAny_bind (PySem.W.kdx_alive al ?_)
  simp only [Option.isNone_some,Bool.false_eq_true,if_false]
  refine wpAny_bind (wpAny_field zz rfl (x:=.bool f) rfl ?_)
  cases f with
  | true=>
    rw [if_neg (show ¬ (Value.bool true != Value.bool true)=true by decide)]
    exact wpAny_pure (hq _ zz (Heap.SameBut.refl _ _))
  | false=>
    rw [if_pos (show (Value.bool false != Value.bool true)=true by decide)]
    exact wpAny_bind (wpAny_setField_rec zz (by simp) fun h3 z3 s3=>wpAny_pure (hq h3 z3 s3))
theorem zo_item {z TI TO a i1 i2 l1 l2 : Addr} {f : Bool} {oa : Obj} {k : Nat} {xs ys : Array Value} {x y : Value} {Q : Option Value→Shared→Prop} (D : ZipApart z TI TO i1 i2 l1 l2)
    (zz : ZOut s.heap z TI TO a f) (al : s.heap.get? a=some oa) (hTI : IsPair s.heap TI (.ref i1) (.ref i2)) (g1 : s.heap.IsListIter i1 l1 k) (g2 : s.heap.IsListIter i2 l2 k) (m1 : s.heap.IsList l1 xs) (m2 : s.heap.IsList l2 ys)
    (ex : xs[k]? = some x) (ey : ys[k]? = some y)
    (hq : ∀ h',ZOut h' z TI TO a true→h'.IsListIter i1 l1 (k + 1)→h'.IsListIter i2 l2 (k + 1)→IsPair h' s.heap.objs.size x y→h'.objs.size=s.heap.objs.size + 1→(∀ c o,c≠z→c≠i1→c≠i2→s.heap.get? c=some o→h'.get? c=some o)→Q (some (.ref s.heap.objs.size)) { s with heap:=h' }) :
    wpAny (model prog w) A (pyNext (.ref z)) Q E s:=by
  have ty : s.TypeIs (.ref z) "zip" := ⟨_,zz,rfl⟩
  unfold pyNext
  refine wpAny_bind (wpAny_attempt (wpAny_callSpecial?_slot (name:=Str.ofString "__next__") ty F.slot_zip_next (wpAny_call_entry F.slot_zip_next ty F.entry_zip_next ?_ (F.args_zip_next_1 _))))
  show wpAny _ _ (field (.ref z) 2 >>= fun _=>_) _ _ _
  refine wpAny_bind (wpAny_field zz rfl (x:=.bool false) rfl ?_)
  show wpAny _ _ (field (.ref z) 3 >>= fun _=>_) _ _ _
  refine wpAny_bind (wpAny_field zz rfl (x:=.ref TI) rfl (wpAny_bind (wpAny_seqItems hTI rfl ?_)))
  show wpAny _ _ (Builtin.SmallTypes.ownedTupleIsFree (.ref z) >>= fun _=>_) _ _ _
  refine wpAny_bind (zo_free zz al fun h1 z1 s1=>?_)
  simp only [Bool.false_eq_true,if_false]
  rw [List.forIn_toArray]
  simp only [List.forIn_cons,List.forIn_nil]
  refine wpAny_bind (wpAny_bind (wpAny_bind (wpAny_holding ?_)))
  show wpAny _ _ (Builtin.SmallTypes.nextOf (.ref i1) >>= fun _=>_) _ _ _
  refine wpAny_bind (wpAny_nextOf_list_item (g1.extBut s1.extBut D.i1z) (m1.extBut s1.extBut D.l1z) ex fun h2 j2 s2=>wpAny_pure ?_)
  refine wpAny_pure ?_
  refine wpAny_bind (wpAny_bind (wpAny_holding ?_))
  show wpAny _ _ (Builtin.SmallTypes.nextOf (.ref i2) >>= fun _=>_) _ _ _
  refine wpAny_bind (wpAny_nextOf_list_item ((g2.extBut s1.extBut D.i2z).extBut s2.extBut D.i12.symm) ((m2.extBut s1.extBut D.l2z).extBut s2.extBut D.l2i1) ey fun h3 j3 s3=>wpAny_pure ?_)
  refine wpAny_pure (wpAny_pure ?_)
  show wpAny _ _ (newTuple [x,y] >>= fun v=>ret v) _ _ _
  refine wpAny_bind (wpAny_newTuple (wpAny_pure ⟨_,rfl,wpAny_pure ?_⟩))
  have sz : h3.objs.size=s.heap.objs.size:=by rw [s3.1,s2.1,s1.1]
  have up : ∀ c o,c≠z→c≠i1→c≠i2→s.heap.get? c=some o→h3.get? c=some o:=fun c o c1 c2 c3 e=>s3.extBut _ _ c3 (s2.extBut _ _ c2 (s1.extBut _ _ c1 e))
  show Q (some (.ref h3.objs.size)) _
  rw [sz]
  exact hq _ (Heap.get?_push_of_some _ (s3.extBut _ _ D.i2z.symm (s2.extBut _ _ D.i1z.symm z1))) ((j2.extBut s3.extBut D.i12).at fun o e=>Heap.get?_push_of_some _ e) (j3.at fun o e=>Heap.get?_push_of_some _ e) (by rw [← sz]; exact Heap.get?_push_size _ rfl) (by rw [Heap.size_push,sz]) fun c o c1 c2 c3 e=>Heap.get?_push_of_some _ (up c o c1 c2 c3 e)
theorem zo_end {z TI TO a i1 i2 l1 l2 : Addr} {f : Bool} {oa : Obj} {k : Nat} {xs ys : Array Value} {Q : Option Value→Shared→Prop} (hh : A.handled=none) (D : ZipApart z TI TO i1 i2 l1 l2)
    (zz : ZOut s.heap z TI TO a f) (al : s.heap.get? a=some oa) (hTI : IsPair s.heap TI (.ref i1) (.ref i2)) (g1 : s.heap.IsListIter i1 l1 k) (g2 : s.heap.IsListIter i2 l2 k) (m1 : s.heap.IsList l1 xs) (m2 : s.heap.IsList l2 ys)
    (hend : xs[k]? = none∨ys[k]? = none) (hq : ∀ h',(∀ c o,c≠z→c≠i1→c≠i2→s.heap.get? c=some o→h'.get? c=some o)→Q none { s with heap:=h' }) :
    wpAny (model prog w) A (pyNext (.ref z)) Q E s:=by
  have ty : s.TypeIs (.ref z) "zip" := ⟨_,zz,rfl⟩
  unfold pyNext
  refine wpAny_bind (wpAny_attempt (wpAny_callSpecial?_slot (name:=Str.ofString "__next__") ty F.slot_zip_next (wpAny_call_entry F.slot_zip_next ty F.entry_zip_next ?_ (F.args_zip_next_1 _))))
  show wpAny _ _ (field (.ref z) 2 >>= fun _=>_) _ _ _
  refine wpAny_bind (wpAny_field zz rfl (x:=.bool false) rfl ?_)
  show wpAny _ _ (field (.ref z) 3 >>= fun _=>_) _ _ _
  refine wpAny_bind (wpAny_field zz rfl (x:=.ref TI) rfl (wpAny_bind (wpAny_seqItems hTI rfl ?_)))
  show wpAny _ _ (Builtin.SmallTypes.ownedTupleIsFree (.ref z) >>= fun _=>_) _ _ _
  refine wpAny_bind (zo_free zz al fun h1 z1 s1=>?_)
  simp only [Bool.false_eq_true,if_false]
  rw [List.forIn_toArray]
  simp only [List.forIn_cons,List.forIn_nil]
  have out : ∀ (h' : Heap) (e : Addr), (∀ c o, c ≠ z → c ≠ i1 → c ≠ i2 → s.heap.get? c = some o → h'.get? c = some o) → (∃ o, h'.get? e = some o ∧ o.cls = .type "StopIteration") → wpAny (model prog w) A (do
          let b ← isInstance (.ref e) (Value.type "StopIteration")
          if b=true then pure none else throw (.ref e)) Q E { s with heap:=h' }:=fun h' e hk ⟨o,ho,hc⟩=>wpAny_bind (wpAny_isInstance (T := "StopIteration") (b:=true) ⟨o,ho,hc⟩ isSubtype_stop (wpAny_pure (hq _ hk)))
  refine wpAny_bind (wpAny_bind (wpAny_bind (wpAny_holding ?_)))
  show wpAny _ _ (Builtin.SmallTypes.nextOf (.ref i1) >>= fun _=>_) _ _ _
  cases ex : xs[k]? with
  | none=>exact wpAny_bind (wpAny_nextOf_list_end hh (g1.extBut s1.extBut D.i1z) (m1.extBut s1.extBut D.l1z) ex fun h2 e s2 he=>out h2 e (fun c o c1 c2 c3 q=>s2 _ _ c2 (s1.extBut _ _ c1 q)) he)
  | some x=>
    have ey : ys[k]? = none:=hend.elim (fun q=>by rw [ex] at q; cases q) id
    refine wpAny_bind (wpAny_nextOf_list_item (g1.extBut s1.extBut D.i1z) (m1.extBut s1.extBut D.l1z) ex fun h2 j2 s2=>wpAny_pure (wpAny_pure ?_))
    refine wpAny_bind (wpAny_bind (wpAny_holding ?_))
    show wpAny _ _ (Builtin.SmallTypes.nextOf (.ref i2) >>= fun _=>_) _ _ _
    exact wpAny_bind (wpAny_nextOf_list_end hh ((g2.extBut s1.extBut D.i2z).extBut s2.extBut D.i12.symm) ((m2.extBut s1.extBut D.l2z).extBut s2.extBut D.l2i1) ey fun h3 e s3 he=>out h3 e (fun c o c1 c2 c3 q=>s3 _ _ c3 (s2.extBut _ _ c2 (s1.extBut _ _ c1 q))) he)
end
structure ZpSt (b0 : Heap) (S z TI TO i1 i2 l1 l2 : Addr) (xs ys : Array Value) (i : Nat) (h : Heap) (as : List Addr) : Prop where
  ti : IsPair h TI (.ref i1) (.ref i2)
  t1 : h.IsListIter i1 l1 i
  t2 : h.IsListIter i2 l2 i
  q1 : h.IsList l1 xs
  q2 : h.IsList l2 ys
  zp : (as=[]∧IsZip h z TI TO .none∧∃ a b,IsPair h TO a b)∨∃ a f oa,ZOut h z TI TO a f∧h.get? a=some oa∧a∈as
  ls : ∃ c,h.get? S=some { cls:=.type "list",dict:=none,data:=.seq (as.map Value.ref).toArray c,slots:=#[] }
  ln : as.length=i
  rise : as.Pairwise (· < ·)
  new : ∀ a∈as,b0.objs.size≤a∧a < h.objs.size∧a≠S∧a≠z∧a≠i1∧a≠i2∧a≠TO
  prs : ∀ (j : Nat) a x y,as[j]? = some a→xs[j]? = some x→ys[j]? = some y→IsPair h a x y
  kp : ∀ b o,b≠S→b≠z→b≠i1→b≠i2→b≠TO→b0.get? b=some o→h.get? b=some o
  lt : z < h.objs.size∧TO < h.objs.size
structure ZpEnd (b0 : Heap) (S z TO i1 i2 : Addr) (xs ys : Array Value) (h : Heap) (as : List Addr) : Prop where
  ls : ∃ c,h.get? S=some { cls:=.type "list",dict:=none,data:=.seq (as.map Value.ref).toArray c,slots:=#[] }
  ln : as.length=xs.size
  rise : as.Pairwise (· < ·)
  new : ∀ a∈as,b0.objs.size≤a∧a≠S
  prs : ∀ (j : Nat) a x y,as[j]? = some a→xs[j]? = some x→ys[j]? = some y→IsPair h a x y
  kp : ∀ b o,b≠S→b≠z→b≠i1→b≠i2→b≠TO→b0.get? b=some o→h.get? b=some o
section
variable {prog : Program} {w : World} {A : Around}
theorem zp_loop {b0 : Heap} {S z TI TO i1 i2 l1 l2 : Addr} {xs ys : Array Value} {R : Result→Shared→Prop} {res : Value} (hh : A.handled=none) (D : ZipApart z TI TO i1 i2 l1 l2) (ap : S≠z∧S≠TI∧S≠TO∧S≠i1∧S≠i2∧S≠l1∧S≠l2) (hn : xs.size≤sizeLine) (he : xs.size=ys.size) :
    ∀ (k i : Nat) (s : Shared) (as : List Addr),xs.size - i=k→i≤xs.size→b0.objs.size≤s.heap.objs.size→ZpSt b0 S z TI TO i1 i2 l1 l2 xs ys i s.heap as→
    (∀ (h' : Heap) (as' : List Addr),ZpEnd b0 S z TO i1 i2 xs ys h' as'→R (.ok (.ret res)) { s with heap:=h' })→
    codeAny (model prog w) A (.builtin "list.extend.loop" ⟨[.ref S,.ref z,res],[]⟩) R s:=by
  obtain ⟨p1,p2,p3,p4,p5,p6,p7⟩:=ap
  intro k
  induction k with
  | zero=>
    intro i s as hk hi hb st hR
    obtain rfl : i=xs.size:=by omega
    refine codeAny_builtin F.entry_extend_loop ?_
    rw [Around.under_plainId F.plain_extend_loop _]
    show wpAny _ A.in1 (pyNext (.ref z) >>= fun _=>_) _ _ s
    have fin : ∀ h' : Heap,(∀ c o,c≠z→c≠TO→c≠i1→c≠i2→s.heap.get? c=some o→h'.get? c=some o)→R (.ok (.ret res)) { s with heap:=h' }:=fun h' kk=>by
      obtain ⟨c,e⟩:=st.ls
      refine hR h' as ⟨⟨c,kk _ _ p1 p3 p4 p5 e⟩,st.ln,st.rise,fun a ha=>⟨(st.new a ha).1,(st.new a ha).2.2.1⟩,fun j a x y e1 e2 e3=>?_,fun b o b1 b2 b3 b4 b5 q=>kk b o b2 b5 b3 b4 (st.kp b o b1 b2 b3 b4 b5 q)⟩
      obtain ⟨n1,n2,n3,n4,n5,n6,n7⟩:=st.new a (List.mem_of_getElem? e1)
      exact kk _ _ n4 n7 n5 n6 (st.prs j a x y e1 e2 e3)
    rcases st.zp with ⟨_,zz,a,b,hTO⟩ | ⟨a,f,oa,zz,al,_⟩
    · exact wpAny_bind (wpAny_pyNext_zip_end hh D zz st.ti hTO st.t1 st.t2 st.q1 st.q2 (.inl (by simp)) fun h' kk=>wpAny_pure (fin h' kk))
    · exact wpAny_bind (zo_end hh D zz al st.ti st.t1 st.t2 st.q1 st.q2 (.inl (by simp)) fun h' kk=>wpAny_pure (fin h' fun c o c1 _ c3 c4 q=>kk c o c1 c3 c4 q))
  | succ k ih=>
    intro i s as hk hi hb st hR
    have hlt : i < xs.size:=by omega
    have ex : xs[i]? = some xs[i]:=by simp [hlt]
    have ey : ys[i]? = some (ys[i]'(by omega)):=by simp [← he,hlt]
    generalize xs[i]=x at ex
    generalize ys[i]'(by omega)=y at ey
    refine codeAny_builtin F.entry_extend_loop ?_
    rw [Around.under_plainId F.plain_extend_loop _]
    show wpAny _ A.in1 (pyNext (.ref z) >>= fun _=>_) _ _ s
    obtain ⟨c,eS⟩:=st.ls
    have sS : S < s.heap.objs.size:=Heap.lt_size eS
    have nx : ∀ h' : Heap,(∃ a f oa,ZOut h' z TI TO a f∧h'.get? a=some oa∧a∈as ++ [s.heap.objs.size])→h'.IsListIter i1 l1 (i + 1)→h'.IsListIter i2 l2 (i + 1)→IsPair h' s.heap.objs.size x y→h'.objs.size=s.heap.objs.size + 1→
        (∀ c o,c≠z→c≠TO→c≠i1→c≠i2→s.heap.get? c=some o→h'.get? c=some o)→
        ZpSt b0 S z TI TO i1 i2 l1 l2 xs ys (i + 1) (h'.update S (Obj.mapSeq (·.push (.ref s.heap.objs.size)))) (as ++ [s.heap.objs.size]):=fun h' ⟨a,f,oa,z1,z2,z3⟩ g1 g2 g3 g4 kk=>by
      have eS':=kk _ _ p1 p3 p4 p5 eS
      have ot : ∀ b o,b≠S→h'.get? b=some o→(h'.update S (Obj.mapSeq (·.push (.ref s.heap.objs.size)))).get? b=some o:=fun b o hb q=>(Heap.get?_update_other _ _ (Ne.symm hb)).trans q
      have new' : ∀ b∈as ++ [s.heap.objs.size],b0.objs.size≤b∧b < s.heap.objs.size + 1∧b≠S∧b≠z∧b≠i1∧b≠i2∧b≠TO:=fun b hb'=>by
        rcases List.mem_append.mp hb' with q | q
        · obtain ⟨n1,n2,n3⟩:=st.new b q
          exact ⟨n1,Nat.lt_succ_of_lt n2,n3⟩
        · rw [List.mem_singleton.mp q]
          have f1 : i1 < s.heap.objs.size:=by obtain ⟨_,e,_⟩:=st.t1; exact Heap.lt_size e
          have f2 : i2 < s.heap.objs.size:=by obtain ⟨_,e,_⟩:=st.t2; exact Heap.lt_size e
          exact ⟨hb,Nat.lt_succ_self _,Nat.ne_of_gt sS,Nat.ne_of_gt st.lt.1,Nat.ne_of_gt f1,Nat.ne_of_gt f2,Nat.ne_of_gt st.lt.2⟩
      have sz : (h'.update S (Obj.mapSeq (·.push (.ref s.heap.objs.size)))).objs.size=s.heap.objs.size + 1:=by rw [← g4]; exact (Heap.SameBut.update ..).1
      refine ⟨ot _ _ p2.symm (kk _ _ D.TIz D.TITO D.TIi1 D.TIi2 st.ti),g1.at fun o q=>ot _ o p4.symm q,g2.at fun o q=>ot _ o p5.symm q,st.q1.at fun o q=>ot _ o p6.symm (kk _ _ D.l1z D.l1TO D.l1i1 D.l1i2 q),st.q2.at fun o q=>ot _ o p7.symm (kk _ _ D.l2z D.l2TO D.l2i1 D.l2i2 q),.inr ⟨a,f,oa,ot _ _ p1.symm z1,ot _ _ (new' a z3).2.2.1 z2,z3⟩,⟨c + 1,(Heap.get?_update_self _ eS' rfl).trans (by simp [Obj.mapSeq])⟩,by rw [List.length_append,st.ln]; rfl,?_,fun b hb'=>by rw [sz]; exact new' b hb',fun j b x' y' e1 e2 e3=>?_,fun b o b1 b2 b3 b4 b5 q=>ot _ _ b1 (kk b o b2 b5 b3 b4 (st.kp b o b1 b2 b3 b4 b5 q)),by rw [sz]; exact ⟨Nat.lt_succ_of_lt st.lt.1,Nat.lt_succ_of_lt st.lt.2⟩⟩
      · rw [List.pairwise_append]
        exact ⟨st.rise,List.pairwise_singleton ..,fun b hb' d hd=>by rw [List.mem_singleton.mp hd]; exact (st.new b hb').2.1⟩
      · by_cases hj : j < as.length
        · rw [List.getElem?_append_left hj] at e1
          obtain ⟨n1,n2,n3,n4,n5,n6,n7⟩:=st.new b (List.mem_of_getElem? e1)
          exact ot _ _ n3 (kk _ _ n4 n7 n5 n6 (st.prs j b x' y' e1 e2 e3))
        · rw [List.getElem?_append_right (by omega)] at e1
          have : j - as.length=0:=by
            cases q : j - as.length with
            | zero=>rfl
            | succ m=>rw [q] at e1; cases e1
          rw [this] at e1
          cases e1
          have : j=i:=by have:=st.ln; omega
          subst this
          rw [ex] at e2; rw [ey] at e3
          cases e2; cases e3
          exact ot _ _ (Nat.ne_of_gt sS) g3
    rcases st.zp with ⟨e0,zz,a,b,hTO⟩ | ⟨a,f,oa,zz,al,ha⟩
    · refine wpAny_bind (wpAny_pyNext_zip_item D zz st.ti hTO st.t1 st.t2 st.q1 st.q2 ex ey fun h' a1 a2 a3 a4 a5 a6 a7=>?_)
      have Z:=nx h' ⟨_,false,_,a1,a5,by simp⟩ a3 a4 a5 a6 a7
      have eS':=a7 _ _ p1 p3 p4 p5 eS
      show wpAny _ A.in1 (updateSeq S (·.push _) >>= fun _=>_) _ _ _
      refine wpAny_bind (wpAny_updateSeq eS' rfl (wpAny_pure ⟨plainId_quiet F.plain_extend_loop _,ih (i + 1) _ _ (by omega) (by omega) ?_ Z fun h'' as' q=>hR h'' as' q⟩) ?_ ?_)
      · rw [show (h'.update S (Obj.mapSeq (·.push (.ref s.heap.objs.size)))).objs.size=s.heap.objs.size + 1 from by rw [← a6]; exact (Heap.SameBut.update ..).1]
        exact Nat.le_succ_of_le hb
      · simp [st.ln]; omega
      · simp [st.ln]; omega
    · refine wpAny_bind (zo_item D zz al st.ti st.t1 st.t2 st.q1 st.q2 ex ey fun h' a1 a3 a4 a5 a6 a7=>?_)
      have a7' : ∀ c o,c≠z→c≠TO→c≠i1→c≠i2→s.heap.get? c=some o→h'.get? c=some o:=fun c o c1 _ c3 c4 q=>a7 c o c1 c3 c4 q
      obtain ⟨n1,n2,n3,n4,n5,n6,n7⟩:=st.new a ha
      have Z:=nx h' ⟨_,true,_,a1,a7 _ _ n4 n5 n6 al,List.mem_append_left _ ha⟩ a3 a4 a5 a6 a7'
      have eS':=a7' _ _ p1 p3 p4 p5 eS
      show wpAny _ A.in1 (updateSeq S (·.push _) >>= fun _=>_) _ _ _
      refine wpAny_bind (wpAny_updateSeq eS' rfl (wpAny_pure ⟨plainId_quiet F.plain_extend_loop _,ih (i + 1) _ _ (by omega) (by omega) ?_ Z fun h'' as' q=>hR h'' as' q⟩) ?_ ?_)
      · rw [show (h'.update S (Obj.mapSeq (·.push (.ref s.heap.objs.size)))).objs.size=s.heap.objs.size + 1 from by rw [← a6]; exact (Heap.SameBut.update ..).1]
        exact Nat.le_succ_of_le hb
      · simp [st.ln]; omega
      · simp [st.ln]; omega
theorem zip_noLen : typeLookup (.type "zip") "__len__" = pure none:=by rw [typeLookup_type,builtinLookup_eq_fast]; kernel_rfl
theorem zip_noHint : typeLookup (.type "zip") "__length_hint__" = pure none:=by rw [typeLookup_type,builtinLookup_eq_fast]; kernel_rfl
theorem zp_collect {E : Value→Shared→Prop} {s : Shared} {z TI TO i1 i2 l1 l2 : Addr} {xs ys : Array Value} {Q : List Value→Shared→Prop} {a b : Value} (hh : A.handled=none) (D : ZipApart z TI TO i1 i2 l1 l2) (zz : IsZip s.heap z TI TO .none) (hTI : IsPair s.heap TI (.ref i1) (.ref i2)) (hTO : IsPair s.heap TO a b)
    (g1 : s.heap.IsListIter i1 l1 0) (g2 : s.heap.IsListIter i2 l2 0) (m1 : s.heap.IsList l1 xs) (m2 : s.heap.IsList l2 ys) (hn : xs.size≤sizeLine) (he : xs.size=ys.size)
    (hq : ∀ (h' : Heap) (as : List Addr),as.length=xs.size→as.Pairwise (· < ·)→(∀ a∈as,s.heap.objs.size≤a)→(∀ (j : Nat) a x y,as[j]? = some a→xs[j]? = some x→ys[j]? = some y→IsPair h' a x y)→
      (∀ b o,b≠z→b≠i1→b≠i2→b≠TO→s.heap.get? b=some o→h'.get? b=some o)→Q (as.map Value.ref) { s with heap:=h' }) : wpAny (model prog w) A (collect (.ref z)) Q E s:=by
  have nS : ∀ {b : Addr} {o : Obj},s.heap.get? b=some o→s.heap.objs.size≠b:=fun e=>Nat.ne_of_gt (Heap.lt_size e)
  obtain ⟨_,u1,_⟩:=id g1
  obtain ⟨_,u2,_⟩:=id g2
  obtain ⟨_,u3,_⟩:=id m1
  obtain ⟨_,u4,_⟩:=id m2
  unfold collect; refine wpAny_bind (wpAny_runValue (codeAny_builtin F.entry_proto_collect ?_))
  rw [Around.under_plainId F.plain_proto_collect _]; show wpAny _ A.in1 (newList [] >>= fun l=>again (.builtin "list.__iadd__" ⟨[l,.ref z],[]⟩)) _ _ s
  refine wpAny_bind (wpAny_newObj_type ?_); refine wpAny_pure ⟨plainId_quiet F.plain_list_iadd _,codeAny_builtin F.entry_list_iadd ?_⟩
  rw [Around.under_plainId F.plain_list_iadd _]; show wpAny _ A.in1 (Builtin.List.listExtendWith (.ref s.heap.objs.size) (.ref z) (.ref s.heap.objs.size)) _ _ _
  have k1 : ∀ {b : Addr} {o : Obj},s.heap.get? b=some o→(s.heap.push { cls:=.type "list",data:=.seq ([] : List Value).toArray }).get? b=some o:=fun e=>Heap.get?_push_of_some _ e
  have tz : Shared.TypeIs { s with heap:=s.heap.push { cls:=.type "list",data:=.seq ([] : List Value).toArray } } (.ref z) "zip" := ⟨_,k1 zz,rfl⟩
  unfold Builtin.List.listExtendWith; refine wpAny_bind (wpAny_typeOf tz ?_)
  have r1 : Builtin.List.listSameRef (.ref s.heap.objs.size) (.ref z)=false:=by simp [Builtin.List.listSameRef,nS zz]
  have r2 : (Value.type "zip" == Value.type "list")=false:=by decide
  have r3 : (Value.type "zip" == Value.type "tuple")=false:=by decide
  simp only [r1,r2,r3,Bool.or_false,Bool.false_eq_true,if_false]
  refine wpAny_bind (wpAny_pyIter_zip (k1 zz) ?_); refine wpAny_bind (wpAny_holding ?_)
  unfold Builtin.List.listLengthHint; refine wpAny_bind (wpAny_specialOf tz zip_noLen ?_)
  show wpAny _ A.in1 (specialOf (Value.ref z) (Str.ofString "__length_hint__") >>= fun _=>_) _ _ _
  refine wpAny_bind (wpAny_specialOf tz zip_noHint ?_); refine wpAny_pure ?_
  show wpAny _ A.in1 (rule "list.extend.makes-room" >>= fun _=>(updateSeq s.heap.objs.size (·.push .none) >>= fun _=>updateSeq s.heap.objs.size (·.pop)) >>= fun _=>again (.builtin "list.extend.loop" ⟨[.ref s.heap.objs.size,.ref z,.ref s.heap.objs.size],[]⟩)) _ _ _
  have e1 : (s.heap.push { cls:=.type "list",data:=.seq ([] : List Value).toArray }).get? s.heap.objs.size=some { cls:=.type "list",data:=.seq ([] : List Value).toArray }:=Heap.get?_push_size _ rfl
  refine wpAny_bind (wpAny_rule (wpAny_bind (wpAny_bind (wpAny_updateSeq e1 rfl ?_))))
  have e2:=Heap.get?_update_self (Obj.mapSeq (·.push Value.none)) e1 rfl
  refine wpAny_updateSeq e2 rfl ?_
  have e3:=Heap.get?_update_self (Obj.mapSeq (·.pop)) e2 rfl
  have k2 : ∀ b o,b≠s.heap.objs.size→s.heap.get? b=some o→(((s.heap.push { cls:=.type "list",data:=.seq ([] : List Value).toArray }).update s.heap.objs.size (Obj.mapSeq (·.push Value.none))).update s.heap.objs.size (Obj.mapSeq (·.pop))).get? b=some o :=
    fun b o hb e=>(Heap.get?_update_other _ _ (Ne.symm hb)).trans ((Heap.get?_update_other _ _ (Ne.symm hb)).trans (k1 e))
  have sz : (((s.heap.push { cls:=.type "list",data:=.seq ([] : List Value).toArray }).update s.heap.objs.size (Obj.mapSeq (·.push Value.none))).update s.heap.objs.size (Obj.mapSeq (·.pop))).objs.size=s.heap.objs.size + 1:=((Heap.SameBut.update ..).1.trans (Heap.SameBut.update ..).1).trans (Heap.size_push ..)
  have kn : ∀ {b : Addr} {o : Obj},s.heap.get? b=some o→(((s.heap.push { cls:=.type "list",data:=.seq ([] : List Value).toArray }).update s.heap.objs.size (Obj.mapSeq (·.push Value.none))).update s.heap.objs.size (Obj.mapSeq (·.pop))).get? b=some o:=fun {b o} e=>k2 b o (nS e).symm e
  generalize (((s.heap.push { cls:=.type "list",data:=.seq ([] : List Value).toArray }).update s.heap.objs.size (Obj.mapSeq (·.push Value.none))).update s.heap.objs.size (Obj.mapSeq (·.pop)))=h2 at *
  refine wpAny_pure ⟨plainId_quiet F.plain_extend_loop _,zp_loop (b0:=s.heap) (xs:=xs) (ys:=ys) hh D ⟨nS zz,nS hTI,nS hTO,nS u1,nS u2,nS u3,nS u4⟩ hn he _ 0 _ [] rfl (Nat.zero_le _) (by show _≤h2.objs.size; rw [sz]; exact Nat.le_succ _) ?_ fun h' as Z=>?_⟩
  · exact ⟨kn hTI,g1.at fun o e=>kn e,g2.at fun o e=>kn e,m1.at fun o e=>kn e,m2.at fun o e=>kn e,.inl ⟨rfl,kn zz,a,b,kn hTO⟩,⟨_,e3⟩,rfl,.nil,fun a ha=>(by cases ha),fun j a x y e=>(by cases e),fun b o b1 _ _ _ _ e=>k2 b o b1 e,by show z < h2.objs.size∧TO < h2.objs.size; rw [sz]; exact ⟨Nat.lt_succ_of_lt (Heap.lt_size zz),Nat.lt_succ_of_lt (Heap.lt_size hTO)⟩⟩
  · obtain ⟨c,el⟩:=Z.ls
    show wpAny _ A (load s.heap.objs.size >>= fun _=>_) _ _ _
    refine wpAny_bind (wpAny_load el ?_)
    exact wpAny_pure (hq h' as Z.ln Z.rise (fun a ha=>(Z.new a ha).1) Z.prs fun b o b1 b2 b3 b4 e=>Z.kp b o (nS e).symm b1 b2 b3 b4 e)
theorem zp_tuple {E : Value→Shared→Prop} {s : Shared} {z TI TO i1 i2 l1 l2 : Addr} {xs ys : Array Value} {Q : Value→Shared→Prop} {a b : Value} (hh : A.handled=none) (D : ZipApart z TI TO i1 i2 l1 l2) (zz : IsZip s.heap z TI TO .none) (hTI : IsPair s.heap TI (.ref i1) (.ref i2)) (hTO : IsPair s.heap TO a b)
    (g1 : s.heap.IsListIter i1 l1 0) (g2 : s.heap.IsListIter i2 l2 0) (m1 : s.heap.IsList l1 xs) (m2 : s.heap.IsList l2 ys) (hn : xs.size≤sizeLine) (he : xs.size=ys.size)
    (hq : ∀ (h' : Heap) (as : List Addr),as.length=xs.size→as.Pairwise (· < ·)→(∀ a∈as,s.heap.objs.size≤a)→(∀ (j : Nat) a x y,as[j]? = some a→xs[j]? = some x→ys[j]? = some y→IsPair h' a x y)→
      (∀ b o,b≠z→b≠i1→b≠i2→b≠TO→s.heap.get? b=some o→h'.get? b=some o)→Q (.ref h'.objs.size) { s with heap:=h'.push { cls:=.type "tuple",data:=.seq (as.map Value.ref).toArray } }) : wpAny (model prog w) A (call (.type "tuple") [.ref z]) Q E s:=by
  refine callType_codes (Q₁:=fun obj s₁=>s₁.TypeIs obj "tuple" ∧ Q obj s₁) F.called_tuple (F.typeCall_tuple_1 _) F.entry_object_init (codeAny_of_tree ?_) fun obj s₁ h₁ =>
    ⟨h₁.1,F.args_object_init_2 obj _,object_init_meets F.called_tuple.init.lookup F.called_tuple.made (by decide) prog w A.in1 _ s₁ ⟨h₁.1,rfl,h₁.2⟩⟩
  show wpAny _ A.in1.in1 (do checkBuiltinCall "tuple.__new__" ⟨[.type "tuple",.ref z],[]⟩; again (.builtin "tuple.__new__" ⟨[.type "tuple",.ref z],[]⟩)) _ _ s
  refine wpAny_bind (wpAny_of_eq (F.newCall_tuple_1 _) (wpAny_pure ⟨plainId_quiet F.plain_tuple_new _,codeAny_builtin F.entry_tuple_new ?_⟩)); rw [Around.under_plainId F.plain_tuple_new _]
  have y1:=sub_tuple_self
  have y2:=init_tuple_lookup
  have y3:=madeHere_tuple
  have y4 : s.TypeIs (.ref z) "zip" := ⟨_,zz,rfl⟩
  wp_walk using wpAny_typeOf y4,zp_collect (A:=A.in1.in1) hh D zz hTI hTO g1 g2 m1 m2 hn he
  intro h' as q1 q2 q3 q4 q5
  show wpAny _ _ (Builtin.Tuple.tupleExact (as.map Value.ref).toArray >>= fun v=>ret v) _ _ _
  unfold Builtin.Tuple.tupleExact
  refine wpAny_bind (wpAny_newObj_type ?_ (by show (as.map Value.ref).toArray.size≤sizeLine; rw [List.size_toArray,List.length_map,q1]; exact hn))
  exact wpAny_pure ⟨⟨_,Heap.get?_push_size _ rfl,rfl⟩,hq h' as q1 q2 q3 q4 q5⟩
end
theorem refs_vals : ∀ as : List Addr,Vals (as.map V.ref) (as.map Value.ref)
  | []=>.nil
  | _ :: as=>.cons rfl (refs_vals as)
section
variable {X : Cx} {a b : Expr} {ta : TA} {p p' pos pos' : Pos}
def tTupZip (K : PySem.W.Frag) (ta : TA) : TE:=fun σ H Q=>ta σ H fun vs H1=>∃ (l1 l2 : Addr) (xs ys : List Int),vs=[.ref l1,.ref l2]∧SqL K H1 l1 (xs.map V.int)∧SqL K H1 l2 (ys.map V.int)∧xs.length=ys.length∧xs.length≤1000∧
  ∀ t zs H',H1 t=none→Same H1 H'→H' t=some (.tup zs)→Tups H' zs ((xs.zip ys).map fun p=>[p.1,p.2])→Q (.ref t) H'
theorem pe_tupZip (hc : X.calm=true) (hg : Gl X "tuple") (hm : X.mg "tuple" = none) (hg' : Gl X "zip") (hm' : X.mg "zip" = none) (ha : PA X [a,b] ta) (hs : starEach [a,b] X.env=[(false,eval a X.env),(false,eval b X.env)]:=by rfl) (hs2 : starEach [b] X.env=[(false,eval b X.env)]:=by rfl)
    (hs3 : starEach [.Call (.Name "zip" p') [a,b] [] pos'] X.env=[(false,eval (.Call (.Name "zip" p') [a,b] [] pos') X.env)]:=by rfl) :
    PE X (.Call (.Name "tuple" p) [.Call (.Name "zip" p') [a,b] [] pos'] [] pos) (tTupZip X.K ta):=by
  refine ⟨?_⟩
  intro pins s σ H Q I h
  refine Call_ (ld_blt I hg hm boot_tuple (PyProof.Rows.callWith_type1 ?_ (by rw [hs3]; rfl) rfl))
  rw [hs3]
  show wpAny _ _ (spliced [(false,eval (.Call (.Name "zip" p') [a,b] [] pos') X.env)]) _ _ s
  refine Calls.spliced_cons (Call_ (ld_blt I hg' hm' boot_zip (PyProof.Rows.callWith_type1 (thn (ha pos' pins s σ H _ I h) fun us s1 ⟨vs,H1,I1,r1,q1⟩=>?_) (by rw [hs,hs2]) (by rw [hs2]; rfl))))
  obtain ⟨l1,l2,xs,ys,rfl,w1,w2,le,ln,q⟩:=q1
  obtain ⟨u,v,rfl,ru,rv⟩:=r1.two
  cases ru; cases rv
  obtain ⟨i1,e1,pl1,z1⟩:=I1.list w1
  obtain ⟨i2,e2,pl2,z2⟩:=I1.list w2
  have n1 : l1 < s1.heap.objs.size:=by obtain ⟨o,e,_⟩:=pl1.isList; exact Heap.lt_size e
  have n2 : l2 < s1.heap.objs.size:=by obtain ⟨o,e,_⟩:=pl2.isList; exact Heap.lt_size e
  refine call_zip_2 pl1.isList pl2.isList fun h' a1 a2 a3 a4 a5 a6 kk=>Calls.spliced_nil ?_
  have E1:=ints_of e1
  have E2:=ints_of e2
  have len1 : i1.length=xs.length:=by have:=e1.length; rw [List.length_map] at this; omega
  have len2 : i2.length=ys.length:=by have:=e2.length; rw [List.length_map] at this; omega
  refine zp_tuple (I.ok.hd hc) (zipApart_new n1 n2) a1 a2 a3 a4 a5 (pl1.isList.at fun o e=>kk _ _ e) (pl2.isList.at fun o e=>kk _ _ e) (by rw [List.size_toArray]; exact Nat.le_of_lt (small1000 (by omega))) (by rw [List.size_toArray,List.size_toArray]; omega) fun h2 as b1 b2 b3 b4 b5=>?_
  rw [List.size_toArray] at b1
  have old : ∀ (b : Addr) (o : Obj),s1.heap.get? b=some o→h2.get? b=some o:=fun b o e=>by
    have lb:=Heap.lt_size e
    exact b5 b o (Nat.ne_of_lt (Nat.lt_of_lt_of_le lb (Nat.le_add_right _ _))) (Nat.ne_of_lt lb) (Nat.ne_of_lt (Nat.lt_of_lt_of_le lb (Nat.le_add_right _ _))) (Nat.ne_of_lt (Nat.lt_of_lt_of_le lb (Nat.le_add_right _ _))) (kk _ _ e)
  obtain ⟨rs,ers⟩ : ∃ rs : List (List Int),rs=(xs.zip ys).map fun p=>[p.1,p.2]:=⟨_,rfl⟩
  have lrs : rs.length=xs.length:=by rw [ers,List.length_map,List.length_zip]; omega
  have pr : ∀ (j : Nat) a r,as[j]? = some a→rs[j]? = some r→∃ its : List Value,IsTup h2 a its.toArray∧IntsAre its r∧r.length=2:=fun j a r ea er=>by
    have jl : j < xs.length:=by have:=(List.getElem?_eq_some_iff.mp er).1; omega
    have gx : (xs.map V.int)[j]? = some (.int xs[j]):=by rw [List.getElem?_map,List.getElem?_eq_getElem jl]; rfl
    have gy : (ys.map V.int)[j]? = some (.int (ys[j]'(by omega))):=by rw [List.getElem?_map,List.getElem?_eq_getElem (by omega)]; rfl
    obtain ⟨u,eu,t,rfl⟩:=e1.get gx
    obtain ⟨v,ev,t',rfl⟩:=e2.get gy
    have:=b4 j a _ _ ea (by simpa using eu) (by simpa using ev)
    have ez : (xs.zip ys)[j]? = some (xs[j],ys[j]'(by omega)):=List.getElem?_zip_eq_some.mpr ⟨List.getElem?_eq_getElem jl,List.getElem?_eq_getElem (by omega)⟩
    rw [ers,List.getElem?_map,ez] at er
    cases er
    exact ⟨[.int xs[j] t,.int (ys[j]'(by omega)) t'],⟨_,this,rfl,_,rfl⟩,.cons _ _ (.cons _ _ .nil),rfl⟩
  obtain ⟨H2,I2,S2,E2⟩:=Inv.lays (h':=h2) (t':=s1.toks) (as.zip rs) I1 old (by
      rw [List.pairwise_iff_getElem]
      intro i j hi hj hij
      rw [List.length_zip] at hi hj
      rw [List.getElem_zip,List.getElem_zip]
      exact List.pairwise_iff_getElem.mp b2 i j (by omega) (by omega) hij) fun q hq=>by
    obtain ⟨j,hj,rfl⟩:=List.getElem_of_mem hq
    rw [List.length_zip] at hj
    rw [List.getElem_zip]
    obtain ⟨its,g1,g2,g3⟩:=pr j _ _ (List.getElem?_eq_getElem (by omega)) (List.getElem?_eq_getElem (by omega))
    refine ⟨?_,by show (rs[j]'(by omega)).length≤1000; omega,its,g1,g2⟩
    have:=b3 _ (List.getElem_mem (l:=as) (n:=j) (by omega))
    show s1.heap.objs.size≤as[j]'(by omega)
    have a6' : h'.objs.size=s1.heap.objs.size + 5:=a6
    have : h'.objs.size≤as[j]'(by omega):=this
    omega
  have I3:=I2.laid (t':=s1.toks) (h':=h2.push { cls:=.type "tuple",data:=.seq (as.map Value.ref).toArray }) (o:=.tup (as.map V.ref)) (fun b o e=>Heap.get?_push_of_some _ e) (Nat.le_refl _) ⟨Nat.le_of_lt (small1000 (by rw [List.length_map]; omega)),as.map Value.ref,refs_vals as,⟨_,Heap.get?_push_size _ rfl,rfl,_,rfl⟩⟩
  have fr : H2 h2.objs.size=none:=I2.hok.fresh (Nat.le_refl _)
  refine ⟨.ref h2.objs.size,_,I3,rfl,q _ (as.map V.ref) _ (S2.free fr) (S2.trans (same_new fr _)) upd_same ⟨?_,fun i x r ex er=>?_⟩⟩
  · rw [List.length_map,← ers,lrs]; omega
  · rw [List.getElem?_map] at ex
    cases ea : as[i]? with
    | none=>rw [ea] at ex; cases ex
    | some a=>
      rw [ea] at ex; cases ex
      rw [← ers] at er
      exact ⟨a,rfl,same_new fr _ _ _ (E2 (a,r) (List.mem_of_getElem? (i:=i) (List.getElem?_zip_eq_some.mpr ⟨ea,er⟩)))⟩
end
end L2
namespace K55
open PySem L2
structure Txt (K : PySem.W.Frag) (mg : Str→Option Value) (cl : Nat→Addr) : Prop where
  MOST_FIGURES : ∃ t,mg "MOST_FIGURES" = some (.int 7 t)
  gCustomsError : mg "CustomsError" = some (.ref (cl 0))
  gBadText : mg "BadText" = some (.ref (cl 24))
  gBadMinutes : mg "BadMinutes" = some (.ref (cl 25))
  eBadText : PySem.W.excIn K (cl 24) vbm "ValueError.__new__" = true
abbrev s_is_number : Stmt:=top 7
abbrev n_is_number : List Str:=["word"]
abbrev p_is_number : List Str:=["word"]
theorem sc_is_number : FnScope n_is_number p_is_number (defScope s_is_number):=⟨rfl,rfl,rfl,by decide +kernel,rfl,by decide +kernel,by decide +kernel⟩
abbrev s_read_numbers : Stmt:=top 8
abbrev n_read_numbers : List Str:=["words"]
abbrev p_read_numbers : List Str:=["words"]
theorem sc_read_numbers : FnScope n_read_numbers p_read_numbers (defScope s_read_numbers):=⟨rfl,rfl,rfl,by decide +kernel,rfl,by decide +kernel,by decide +kernel⟩
abbrev s_read_deed : Stmt:=top 9
abbrev n_read_deed : List Str:=["text","name","words","numbers"]
abbrev p_read_deed : List Str:=["text"]
theorem sc_read_deed : FnScope n_read_deed p_read_deed (defScope s_read_deed):=⟨rfl,rfl,rfl,by decide +kernel,rfl,by decide +kernel,by decide +kernel⟩
def spIsNum : Sp:=fun vs H Q _=>∃ z,vs=[.str z]∧z.length≤100000∧∀ H',Same H H'→Q (.bl (isNum z)) H'
def spReadNums (cl : Nat→Addr) : Sp:=fun vs H Q E=>∃ (l : Addr) (zs : List Str),vs=[.ref l]∧H l=some (.lst (zs.map V.str))∧zs.length≤900∧(∀ z∈zs,z.length≤100000∧(isNum z=true→∃ n,PySem.intText? z=some n))∧
  (zs.all isNum=true→∀ p H',H p=none→Same H H'→IntsAt H' p (zs.map numOf)→Q (.ref p) H')∧(zs.all isNum=false→∀ H',Same H H'→E (.ref (cl 24)) none H')
def spReadDeed (cl : Nat→Addr) : Sp:=fun vs H Q E=>∃ z,vs=[.str z]∧z.length≤100000∧(Txt.split z sp).length≤900∧(∀ x∈Txt.split z sp,x.length≤100000∧(isNum x=true→∃ n,PySem.intText? x=some n))∧
  (∀ d,readD (Txt.split z sp)=some d→∀ p H',H p=none→Same H H'→DdAt H' p d→Q (.ref p) H')∧(readD (Txt.split z sp)=none→∀ H',Same H H'→E (.ref (cl 24)) none H')
theorem isNum_len {z : Str} (h : isNum z=true) : z.length≤7:=by
  unfold isNum at h
  simp only [Bool.and_eq_true,decide_eq_true_eq] at h
  exact h.1.2
section
--! fast
variable {P : Program} {w : World} {K : PySem.W.Frag} {mg : Str→Option Value} {base : Heap} {f : Addr} {fd : FuncData} {cl : Nat→Addr} (T : Txt K mg cl) (B : Bn mg)
include T B
theorem ok_is_number (F : Fun K "is_number" "is_number" s_is_number f fd) : FnOk P w K mg base CX0 1 f fd p_is_number spIsNum:=by
  refine F.ok sc_is_number (fun vs H Q E h=>?_) (fun cdv A outer s H vs Q E hr h=>?_)
  · obtain ⟨z,rfl,_⟩:=h; rfl
  obtain ⟨z,rfl,hl,q⟩:=h
  refine ⟨_,(pss_cons (ps_if (PW.pt (pw_or (pt_not (pt_truth (pe_bm0 PySem.F.plainAttrs_str PySem.F.slot_str_isdigit PySem.F.type_str_isdigit mt_isdigit (pv 0)) (fun _=>rfl))) (pw_or1 (pt_cmpR op_gt (pe_callB call_len_str rfl B.len PySem.boot_len (pa_c (pv 0) pa_nil)) (pe_glI rfl T.MOST_FIGURES) (nomark _))))) (pss_one (ps_ret pe_bl)) pss_nil)
    (pss_one (ps_ret (pe_or (pe_cmpR op_eq (pv 0) pe_str (nomark _)) (pe_one (pe_not (pe_bm PySem.F.plainAttrs_str PySem.F.slot_str_startswith PySem.F.type_str_startswith mt_startswith (pv 0) (pa_c pe_str pa_nil)))))))),?_⟩
  have hz : z.length≤sizeLine:=by rw [sizeLine_eq]; omega
  have e0 : Str.ofString "0" = zeroT:=by decide +kernel
  refine ⟨_,rfl,rfl,z,rfl,rfl,_,rfl,?_⟩
  cases c1 : Txt.isdigit z with
  | false=>
    have n0 : isNum z=false:=by unfold isNum; rw [c1]; rfl
    refine (if_pos (by decide)).mpr (iteT ?_)
    rw [n0] at q
    exact q _ (Same.refl _)
  | true=>
    refine (if_neg (by decide)).mpr ?_
    refine ⟨_,rfl,z,rfl,hz,_,_,rfl,rfl,_,rfl,?_⟩
    by_cases c2 : z.length≤7
    · rw [decide_eq_false (show ¬ (7 : Int) < (z.length : Int) by omega)]
      refine iteF ?_
      refine ⟨_,rfl,rfl,?_⟩
      rw [e0]
      by_cases c3 : z=zeroT
      · have n1 : isNum z=true:=by unfold isNum; rw [c1,decide_eq_true c2,decide_eq_true c3]; rfl
        rw [n1] at q
        exact ⟨_,rfl,(if_pos (decide_eq_true (congrArg V.str c3))).mpr (q _ (Same.refl _))⟩
      · have n1 : isNum z = !Txt.startswith z zeroT:=by unfold isNum; rw [c1,decide_eq_true c2,decide_eq_false c3]; simp
        rw [n1] at q
        refine ⟨_,rfl,(if_neg (by rw [decide_eq_false (fun y=>c3 (V.str.inj y))]; decide)).mpr ?_⟩
        exact ⟨_,rfl,rfl,z,zeroT,rfl,rfl,_,rfl,q _ (Same.refl _)⟩
    · rw [decide_eq_true (show (7 : Int) < (z.length : Int) by omega)]
      have n0 : isNum z=false:=by unfold isNum; rw [c1,decide_eq_false c2]; rfl
      rw [n0] at q
      exact iteT (q _ (Same.refl _))
theorem ok_read_numbers (G_is_number : Cal P w K mg base CX0 1 "is_number" p_is_number spIsNum) (F : Fun K "read_numbers" "read_numbers" s_read_numbers f fd) : FnOk P w K mg base (CXE P w) 2 f fd p_read_numbers (spReadNums cl):=by
  refine F.okE sc_read_numbers (fun vs H Q E h=>?_) (fun cdv A outer s H vs Q E hr h=>?_)
  · obtain ⟨l,zs,rfl,_⟩:=h; rfl
  obtain ⟨l,zs,rfl,hl,hn,hz,q1,q2⟩:=h
  refine ⟨_,(pss_cons (ps_if (pt_not (pt_truth (pe_callB (call_allB rfl) rfl B.all PyProof.Rows.boot_all (pa_c (pe_comp (N':=["word"]) (ix:=[none]) (g:=(gName 0)) (ti:=tIf0) (te:=(tCall spIsNum [] E0 (tCons (tVar 0) tNil))) rfl (comp_scope (N:=n_read_numbers) (D:=defScope s_read_numbers) (by decide +kernel)) (pi_list (pv 0)) (fun C s H fp=>(pg_name (i:=0) (show (["word"] : List Str).Nodup by decide +kernel) rfl (Or.inl rfl))) (fun C s H fp=>pifs_nil) (fun C s H fp=>(pe_cal G_is_number hr rfl pass0 (pa_c (pv 0) pa_nil)))) pa_nil)) (fun _=>rfl))) (pss_one (ps_raise (E:=E) rfl T.gBadText T.eBadText PySem.F.excBase_ValueError rfl makesE (pa_c pe_str pa_nil))) pss_nil)
    (pss_one (ps_ret (pe_comp (N':=["word"]) (ix:=[none]) (g:=(gName 0)) (ti:=tIf0) (te:=(tCB rIntT (tCons (tVar 0) tNil))) rfl (comp_scope (N:=n_read_numbers) (D:=defScope s_read_numbers) (by decide +kernel)) (pi_list (pv 0)) (fun C s H fp=>(pg_name (i:=0) (show (["word"] : List Str).Nodup by decide +kernel) rfl (Or.inl rfl))) (fun C s H fp=>pifs_nil) (fun C s H fp=>(pe_callTy call_intT rfl B.int PyProof.Rows.boot_int (pa_c (pv 0) pa_nil))))))),?_⟩
  have at' : ∀ {i : Nat} {x : V},(zs.map V.str)[i]? = some x→∃ z,x = .str z∧zs[i]? = some z:=fun {i x} e=>by
    rw [List.getElem?_map] at e
    cases ez : zs[i]? with
    | none=>rw [ez] at e; cases e
    | some z=>rw [ez] at e; cases e; exact ⟨z,rfl,rfl⟩
  refine ⟨_,rfl,l,rfl,⟨_,SqL.of hl⟩,fun D hD=>?_⟩
  refine comp_by (fun i us _=>us=((zs.take i).map isNum).map V.bl) hD hl (by rw [List.length_map]; omega) (fun i zs H H' h _=>h) rfl (fun i x us H1 ei s1 eu K1 K2 k1 k2=>?_) fun us H1 s1 eu lz eD=>?_
  · obtain ⟨z,rfl,ez⟩:=at' ei
    refine ⟨keep_set keep_refl rfl,_,rfl,z,rfl,by have:=(hz z (List.mem_of_getElem? ez)).1; omega,fun H4 s4=>k1 _ _ s4 ?_⟩
    rw [eu,getElem_next ez,List.map_append,List.map_append]; rfl
  rw [List.length_map,List.take_length] at eu
  subst eu
  refine ⟨D,zs.map isNum,rfl,SqL.of eD,_,rfl,?_⟩
  rw [List.all_map]
  show if (!zs.all isNum)=true then _ else _
  cases ca : zs.all isNum with
  | false=>exact iteT ⟨by show 1≤sizeLine; decide,q2 ca _ s1⟩
  | true=>
    refine iteF ?_
    have hl1:=s1 _ _ hl
    refine ⟨_,rfl,l,rfl,⟨_,SqL.of hl1⟩,fun D2 hD2=>?_⟩
    refine comp_by (fun i us _=>us=((zs.take i).map numOf).map V.int) hD2 hl1 (by rw [List.length_map]; omega) (fun i zs H H' h _=>h) rfl (fun i x us H2 ei s2 eu K1 K2 k1 k2=>?_) fun us H2 s2 eu lz eD2=>?_
    · obtain ⟨z,rfl,ez⟩:=at' ei
      have mz:=List.mem_of_getElem? ez
      obtain ⟨n,en⟩:=(hz z mz).2 (List.all_eq_true.mp ca z mz)
      have e2 : numOf z=n:=by unfold numOf; rw [en]; rfl
      refine ⟨keep_set keep_refl rfl,_,rfl,z,n,rfl,en,by have:=isNum_len (List.all_eq_true.mp ca z mz); omega,k1 _ _ (Same.refl _) ?_⟩
      rw [eu,getElem_next ez,List.map_append,List.map_append,← e2]; rfl
    · rw [List.length_map,List.take_length] at eu
      subst eu
      exact q1 ca D2 H2 (s1.free hD2) (s1.trans s2) eD2
theorem ok_read_deed {dN : Addr} (gN : mg "NUMBERS" = some (.ref dN)) (D_NUMBERS : KDic K w dN nums) (G_read_numbers : Cal P w K mg base (CXE P w) 2 "read_numbers" p_read_numbers (spReadNums cl)) (F : Fun K "read_deed" "read_deed" s_read_deed f fd) : FnOk P w K mg base (CXE P w) 3 f fd p_read_deed (spReadDeed cl):=by
  refine F.okE sc_read_deed (fun vs H Q E h=>?_) (fun cdv A outer s H vs Q E hr h=>?_)
  · obtain ⟨z,rfl,_⟩:=h; rfl
  obtain ⟨z,rfl,hl,hn,hz,q1,q2⟩:=h
  refine ⟨_,(pss_cons (ps_asg (pe_bm PySem.F.plainAttrs_str PySem.F.slot_str_split PySem.F.type_str_split mt_split (pv 0) (pa_c pe_str pa_nil)) (pg_star rfl (pgs_cons (pg_name (i:=1) sc_read_deed.nd rfl (Or.inl rfl)) (pgs_star (pg_name (i:=2) sc_read_deed.nd rfl (Or.inl rfl))))))
    (pss_cons (ps_set (i:=3) sc_read_deed.nd rfl (Or.inl rfl) (pe_cal (E:=E) G_read_numbers hr rfl (passE fun _ _ z=>z) (pa_c (pv 2) pa_nil)))
    (pss_cons (ps_if (PW.pt (pw_and (pt_cmpR op_eq (pv 1) pe_str (nomark _)) (pw_and (pt_truth (pv 3) (fun _=>rfl)) (pw_and1 (pt_cmpR op_eq (pe_op op_mod (pe_callB call_len_seq rfl B.len PySem.boot_len (pa_c (pv 3) pa_nil)) pe_int) pe_int (nomark _)))))) (pss_one (ps_ret (pe_tup (pa_c (pv 1) (pa_c (pe_tupZip rfl rfl B.tuple rfl B.zip (pa_c (pe_sl2 (pv 3) po_none pe_int) (pa_c (pe_sl2 (pv 3) (po_some pe_int) pe_int) pa_nil))) pa_nil))))) pss_nil)
    (pss_cons (ps_if (pt_cmpR op_ne (pe_kget1 D_NUMBERS (pe_glob rfl gN (v:=.ref dN) rfl) (pv 1) ⟨rfl,rfl,rfl,rfl⟩) (pe_callB call_len_seq rfl B.len PySem.boot_len (pa_c (pv 3) pa_nil)) (nomark _)) (pss_one (ps_raise (E:=E) rfl T.gBadText T.eBadText PySem.F.excBase_ValueError rfl makesE (pa_c pe_str pa_nil))) pss_nil)
    (pss_one (ps_ret (pe_callTy call_tuple_of rfl B.tuple PyProof.Rows.boot_tuple (pa_c (pe_op op_cat (pe_lst (pa_c (pv 1) pa_nil)) (pv 3)) pa_nil)))))))),?_⟩
  obtain ⟨x,ws,ew⟩ : ∃ x ws,Txt.split z sp=x :: ws:=by
    cases e : Txt.split z sp with
    | nil=>exact absurd e (split_ne z)
    | cons x ws=>exact ⟨x,ws,rfl⟩
  refine ⟨_,rfl,rfl,z,Str.ofString " ",rfl,rfl,by decide +kernel,by rw [sizeLine_eq]; omega,by rw [spT]; exact Nat.le_of_lt (small1000 (by omega)),fun l0 hl0=>?_⟩
  rw [spT,ew]
  rw [ew] at hn hz q1 q2
  rw [List.length_cons] at hn
  have s0:=same_new (H:=H) hl0 (.lst ((x :: ws).map V.str))
  refine ⟨l0,.str x,ws.map V.str,rfl,.inl (SqL.of upd_same),fun l1 hl1=>⟨_,_,rfl,_,_,rfl,rfl,?_⟩⟩
  have s1:=s0.trans (same_new hl1 (.lst (ws.map V.str)))
  have e1 : L2.upd (L2.upd H l0 (.lst ((x :: ws).map V.str))) l1 (.lst (ws.map V.str)) l1=some (.lst (ws.map V.str)):=upd_same
  generalize L2.upd (L2.upd H l0 (.lst ((x :: ws).map V.str))) l1 (.lst (ws.map V.str))=H1 at *
  refine ⟨_,rfl,l1,ws,rfl,e1,by omega,fun y hy=>hz y (.tail _ hy),fun ca nl H2 hnl s2 I2=>?_,fun ca H2 s2=>q2 (by rw [readD_cons,if_neg (by rw [ca]; decide)]) _ (s1.trans s2)⟩
  have S2:=s1.trans s2
  rw [readD_cons,if_pos ca] at q1 q2
  have ln : (ws.map numOf).length=ws.length:=List.length_map _
  generalize hns : ws.map numOf=ns at *
  dsimp only
  refine tIf_ways (decide (x=madeT∧ws≠[]∧ws.length % 2=0)) (fun Q' k=>?_) (fun b1=>?_) (fun b1=>?_)
  · refine ⟨_,rfl,rfl,_,rfl,?_⟩
    by_cases c1 : x=madeT
    · refine (if_pos (decide_eq_true (show V.str x=V.str (Str.ofString "made") from congrArg V.str c1))).mpr ?_
      refine ⟨_,rfl,_,.inl ⟨_,SqL.of I2,rfl⟩,?_⟩
      by_cases c2 : ws=[]
      · rw [decide_eq_false (fun y=>y.2.1 c2)] at k
        refine (if_neg ?_).mpr k
        have : ns=[]:=by rw [← hns,c2]; rfl
        rw [this]; decide
      · have n0 : ns≠[]:=fun y=>c2 (List.length_eq_zero_iff.mp (by rw [← ln,y]; rfl))
        refine (if_pos (by cases ns with | nil=>exact absurd rfl n0 | cons a r=>rfl)).mpr ?_
        refine ⟨_,rfl,nl,_,rfl,.inl (SqL.of I2),_,_,rfl,rfl,(by show (0 : Int) < 2; decide),rfl,_,rfl,?_⟩
        rw [List.length_map,ln]
        by_cases c3 : ws.length % 2=0
        · rw [decide_eq_true ⟨c1,c2,c3⟩] at k
          rw [decide_eq_true (show V.int ((ws.length : Int) % 2)=V.int 0 by congr 1; omega)]
          exact k
        · rw [decide_eq_false (fun y=>c3 y.2.2)] at k
          rw [decide_eq_false (show ¬ V.int ((ws.length : Int) % 2)=V.int 0 from fun y=>c3 (by have:=V.int.inj y; omega))]
          exact k
    · rw [decide_eq_false (fun y=>c1 y.1)] at k
      exact (if_neg (by rw [decide_eq_false (show ¬ V.str x=V.str (Str.ofString "made") from fun y=>c1 (V.str.inj y))]; decide)).mpr k
  · have c:=of_decide_eq_true b1
    rw [if_pos c] at q1
    have len2 : (evs ns).length=(evs (ns.drop 1)).length:=by rw [evs_len2,evs_len2,List.length_drop,ln]; omega
    refine ⟨_,rfl,_,rfl,.inl rfl,nl,_,rfl,SqL.of I2,fun p1 hp1=>?_⟩
    have v1:=same_new (H:=H2) hp1 (.lst (evs ((ns.map V.int).drop 0)))
    refine ⟨_,rfl,1,rfl,.inr rfl,nl,_,rfl,SqL.of (v1 _ _ I2),fun p2 hp2=>?_⟩
    have v2:=same_new hp2 (.lst (evs ((ns.map V.int).drop 1)))
    have f1 : evs ((ns.map V.int).drop 0)=(evs ns).map V.int:=by rw [List.drop_zero,evs_map]
    have f2 : evs ((ns.map V.int).drop 1)=(evs (ns.drop 1)).map V.int:=by rw [← List.map_drop,evs_map]
    refine ⟨p1,p2,evs ns,evs (ns.drop 1),rfl,SqL.of (v2 _ _ (upd_same.trans (by rw [← f1]; rfl))),SqL.of (upd_same.trans (by rw [← f2]; rfl)),len2,by have:=evs_len ns; omega,fun t zs H' ht s' et htp=>?_⟩
    refine ⟨by show 2≤sizeLine; decide,fun pp hpp=>?_⟩
    have S':=((S2.trans v1).trans v2).trans s'
    have up:=same_new (H:=H') hpp (.tup [.str x,.ref t])
    refine q1 _ rfl pp _ (S'.free hpp) (S'.trans up) ⟨t,zs,?_,up _ _ et,htp.same up⟩
    rw [upd_same,c.1]
  · have c:=of_decide_eq_false b1
    rw [if_neg c] at q1 q2
    dsimp only [tNext]
    refine ⟨rfl,_,rfl,x,rfl,_,rfl,nl,_,rfl,.inl (SqL.of I2),?_⟩
    rw [size_val,List.length_map,ln]
    by_cases c2 : sizeOfN x=some ((ws.length : Nat) : Int)
    · rw [if_pos c2] at q1
      rw [c2]
      refine ⟨rfl,_,rfl,?_⟩
      rw [decide_eq_true (show (Option.map V.int (some ((ws.length : Nat) : Int))).getD V.non=V.int ((ws.length : Nat) : Int) from rfl)]
      refine iteF ⟨_,rfl,by show 1≤sizeLine; decide,fun m hm=>?_⟩
      have v1:=same_new (H:=H2) hm (.lst [.str x])
      refine ⟨_,rfl,m,nl,_,_,rfl,rfl,upd_same,v1 _ _ I2,Nat.le_of_lt (small1000 (by rw [List.length_map,ln]; show 1 + _≤1000; omega)),fun g hg=>?_⟩
      have v2:=v1.trans (same_new hg (.lst ([.str x] ++ ns.map V.int)))
      refine ⟨g,_,rfl,.inl ⟨SqL.of upd_same,fun pp hpp=>?_⟩⟩
      have v3:=S2.trans (v2.trans (same_new hpp (.tup ([.str x] ++ ns.map V.int))))
      exact q1 _ rfl pp _ ((S2.trans v2).free hpp) v3 upd_same
    · rw [if_neg c2] at q2
      refine ⟨?_,_,rfl,?_⟩
      · cases sizeOfN x <;> rfl
      · rw [decide_eq_false (show ¬ (Option.map V.int (sizeOfN x)).getD V.non=V.int ((ws.length : Nat) : Int) from fun y=>c2 (by cases e : sizeOfN x with | none=>rw [e] at y; cases y | some k=>rw [e] at y; rw [V.int.inj y]))]
        exact iteT ⟨by show 1≤sizeLine; decide,q2 rfl _ S2⟩
end
end K55
namespace K55
open PySem L2
abbrev s_same : Stmt:=top 17
abbrev n_same : List Str:=["_law_found","_law_due"]
abbrev p_same : List Str:=["_law_found","_law_due"]
theorem sc_same : FnScope n_same p_same (defScope s_same):=⟨rfl,rfl,rfl,by decide +kernel,rfl,by decide +kernel,by decide +kernel⟩
def spSame : Nat→Sp
  | 0=>fun _ _ _ _=>False
  | n + 1=>fun vs H Q _=>∃ v u,vs=[v,u]∧EqD H n v u∧∀ H',Same H H'→Q (.bl true) H'
section
variable {P : Program} {w : World} {K : PySem.W.Frag} {mg : Str→Option Value} {base : Heap} {f : Addr} {fd : FuncData}
theorem nd2 : (["_law_one","_law_other"] : List Str).Nodup:=by decide +kernel
abbrev g2 (K : PySem.W.Frag) : TG:=gTup K 2 (gCons (gName 0) (gCons (gName 1) gNil))
theorem same_comp {m : Nat} {H2 : Hp} {a b : Addr} {xs ys : List V} {bb : Bool} {Q : VK} (hl : xs.length=ys.length) (hs : xs.length≤1000) (hx : ∀ (i : Nat) x y,xs[i]? = some x→ys[i]? = some y→EqD H2 m x y) (hb : ∀ H',Same H2 H'→SqB K H' bb a xs∧SqB K H' bb b ys)
    (q : ∀ H',Same H2 H'→Q (.bl true) H') : tComp [none,none] (iZip K (tCons (tVar 0) (tCons (tVar 1) tNil))) (g2 K) tIf0 (tCall (spSame (m + 1)) [] E0 (tCons (tVar 0) (tCons (tVar 1) tNil))) [some (.ref a),some (.ref b)] H2
      (fun x H3=>∃ (p : Addr) (bs : List Bool),[x]=[V.ref p]∧SqL K H3 p (bs.map V.bl)∧Q (.bl (bs.all id)) H3):=by
  obtain ⟨q1,q2⟩:=hb H2 (Same.refl H2)
  refine ⟨_,rfl,_,rfl,bb,bb,a,b,xs,ys,rfl,q1,q2,fun D hD=>⟨fun i m' H4=>i + m' = xs.length∧Same H2 H4∧H4 D=some (.lst (List.replicate i (.bl true))),⟨xs.length,by omega,same_new hD _,upd_same⟩,?_⟩⟩
  rintro i m' H4 ⟨him,sm,hD4⟩
  obtain ⟨r1,r2⟩:=hb H4 sm
  by_cases hi : i < xs.length
  · refine .inr ⟨⟨xs,ys,xs[i],ys[i]'(by omega),r1,r2,List.getElem?_eq_getElem hi,List.getElem?_eq_getElem (by omega)⟩,?_⟩
    rintro x H' ⟨p,x',y',rfl,hp,rfl,hxy⟩
    obtain ⟨e1,e2⟩:=hxy xs ys r1 r2
    refine ⟨p,_,rfl,SqT.of upd_same,rfl,_,_,rfl,_,_,rfl,rfl,?_,?_⟩
    · intro k v e
      match k,e with
      | 0,e=>cases e
      | 1,e=>cases e
      | k + 2,e=>cases e
    · refine ⟨_,rfl,_,rfl,x',y',rfl,(hx i x' y' e1 e2).same (sm.trans (same_new hp _)),fun H5 s5=>?_⟩
      have hD5:=s5 _ _ (show L2.upd H4 p (.tup [x',y']) D=some (.lst (List.replicate i (.bl true))) by rw [upd_ne (ne_of_none hD4 hp)]; exact hD4)
      refine ⟨_,hD5,small1000 (by rw [List.length_replicate]; omega),m' - 1,by omega,by omega,fun c o e=>?_,?_⟩
      · rw [upd_ne (ne_of_none e hD)]
        exact s5 _ _ (same_new hp _ _ _ (sm _ _ e))
      · rw [upd_same,List.replicate_succ']
  · refine .inl ⟨⟨xs,ys,r1,r2,.inl (by omega)⟩,D,List.replicate i true,rfl,SqL.of (by rw [List.map_replicate]; exact hD4),?_⟩
    have e : (List.replicate i true).all id=true:=List.all_eq_true.mpr fun b hb=>by rw [List.eq_of_mem_replicate hb]; rfl
    rw [e]
    exact q H4 sm
theorem ok_same1 {n : Nat} (F : Fun K "_law_same" "_law_same" s_same f fd) (B : Bn mg) (G : FnOk P w K mg base CX0 n f fd n_same (spSame n)) (b1 : Binds K fd n_same []) (k1 : PySem.W.keepIn K (.ref f)=true) (m1 : mg "_law_same" = some (.ref f)) :
    FnOk P w K mg base CX0 (n + 1) f fd n_same (spSame (n + 1)):=by
  refine F.ok sc_same (fun vs H Q E h=>?_) (fun cdv A outer s H vs Q E hr h=>?_)
  · obtain ⟨v,u,rfl,_⟩:=h; rfl
  obtain ⟨v,u,rfl,heq,q⟩:=h
  refine ⟨_,pss_cons (ps_if (pt_cmpR op_isN (pv 1) pe_non (nomark _)) (pss_one (ps_ret (pe_cmpR op_isN (pv 0) pe_non (nomark _)))) pss_nil)
    (pss_cons (ps_if (PW.pt (pw_or (pt_truth (pe_callB call_isi rfl B.isi PyProof.Rows.boot_isinstance (pa_c (pv 1) (pa_c (pe_bltn rfl B.bool PyProof.Rows.boot_bool (v:=.ty "bool") rfl) pa_nil))) (fun _=>rfl)) (pw_or1 (pt_truth (pe_callB call_isi rfl B.isi PyProof.Rows.boot_isinstance (pa_c (pv 0) (pa_c (pe_bltn rfl B.bool PyProof.Rows.boot_bool (v:=.ty "bool") rfl) pa_nil))) (fun _=>rfl)))))
      (pss_one (ps_ret (pe_and (pe_callB call_isi rfl B.isi PyProof.Rows.boot_isinstance (pa_c (pv 1) (pa_c (pe_bltn rfl B.bool PyProof.Rows.boot_bool (v:=.ty "bool") rfl) pa_nil))) (pe_and (pe_callB call_isi rfl B.isi PyProof.Rows.boot_isinstance (pa_c (pv 0) (pa_c (pe_bltn rfl B.bool PyProof.Rows.boot_bool (v:=.ty "bool") rfl) pa_nil))) (pe_one (pe_cmpR op_eq (pv 0) (pv 1) (nomark _))))))) pss_nil)
    (pss_cons (ps_if (pt_truth (pe_callB call_isT rfl B.isi PyProof.Rows.boot_isinstance (pa_c (pv 1) (pa_c (pe_tup (pa_c (pe_bltn rfl B.int PyProof.Rows.boot_int (v:=.ty "int") rfl) (pa_c (pe_bltn rfl B.str PyProof.Rows.boot_str (v:=.ty "str") rfl) pa_nil))) pa_nil))) (fun _=>rfl))
      (pss_one (ps_ret (pe_and (pe_cmpR op_eq (pe_callB call_isi rfl B.isi PyProof.Rows.boot_isinstance (pa_c (pv 0) (pa_c (pe_bltn rfl B.int PyProof.Rows.boot_int (v:=.ty "int") rfl) pa_nil))) (pe_callB call_isi rfl B.isi PyProof.Rows.boot_isinstance (pa_c (pv 1) (pa_c (pe_bltn rfl B.int PyProof.Rows.boot_int (v:=.ty "int") rfl) pa_nil))) (nomark _))
        (pe_and (pe_callB call_isT rfl B.isi PyProof.Rows.boot_isinstance (pa_c (pv 0) (pa_c (pe_tup (pa_c (pe_bltn rfl B.int PyProof.Rows.boot_int (v:=.ty "int") rfl) (pa_c (pe_bltn rfl B.str PyProof.Rows.boot_str (v:=.ty "str") rfl) pa_nil))) pa_nil))) (pe_one (pe_cmpR op_eq (pv 0) (pv 1) (nomark _))))))) pss_nil)
    (pss_cons (ps_if (PW.pt (pw_or (pt_cmpR op_ne (pe_callB call_isi rfl B.isi PyProof.Rows.boot_isinstance (pa_c (pv 0) (pa_c (pe_bltn rfl B.list PyProof.Rows.boot_list (v:=.ty "list") rfl) pa_nil))) (pe_callB call_isi rfl B.isi PyProof.Rows.boot_isinstance (pa_c (pv 1) (pa_c (pe_bltn rfl B.list PyProof.Rows.boot_list (v:=.ty "list") rfl) pa_nil))) (nomark _))
        (pw_or1 (pt_cmpR op_ne (pe_callB call_isi rfl B.isi PyProof.Rows.boot_isinstance (pa_c (pv 0) (pa_c (pe_bltn rfl B.tuple PyProof.Rows.boot_tuple (v:=.ty "tuple") rfl) pa_nil))) (pe_callB call_isi rfl B.isi PyProof.Rows.boot_isinstance (pa_c (pv 1) (pa_c (pe_bltn rfl B.tuple PyProof.Rows.boot_tuple (v:=.ty "tuple") rfl) pa_nil))) (nomark _)))))
      (pss_one (ps_ret pe_bl)) pss_nil)
    (pss_cons (ps_if (pt_cmpR op_ne (pe_callB call_len_seq rfl B.len PySem.boot_len (pa_c (pv 0) pa_nil)) (pe_callB call_len_seq rfl B.len PySem.boot_len (pa_c (pv 1) pa_nil)) (nomark _)) (pss_one (ps_ret pe_bl)) pss_nil)
    (pss_one (ps_ret (pe_callB (call_allB rfl) rfl B.all PyProof.Rows.boot_all (pa_c (pe_comp (N':=["_law_one","_law_other"]) (ix:=[none,none]) (g:=g2 K) (ti:=tIf0) (te:=tCall (spSame n) [] E0 (tCons (tVar 0) (tCons (tVar 1) tNil))) rfl (comp_scope (N:=n_same) (D:=defScope s_same) (by decide +kernel)) (pi_zip rfl B.zip (pa_c (pv 0) (pa_c (pv 1) pa_nil)))
      (fun C s H fp=>pg_tup rfl (pgs_cons (pg_name (i:=0) nd2 rfl (Or.inl rfl)) (pgs_cons (pg_name (i:=1) nd2 rfl (Or.inl rfl)) pgs_nil))) (fun _ _ _ _=>pifs_nil) (fun C s H fp=>pe_call G hr rfl m1 k1 b1 .nil pass0 (pa_c (pv 0) (pa_c (pv 1) pa_nil)))) pa_nil)))))))),?_⟩
  have sN : ∀ {p : Addr} {o : HO},H p=none→Same H (L2.upd H p o):=fun hp=>same_new hp _
  cases heq with
  | flat hf=>
    cases v with
    | non=>
      refine ⟨_,rfl,rfl,_,rfl,?_⟩
      refine iteT ?_
      exact ⟨_,rfl,rfl,q H (Same.refl H)⟩
    | bl b=>
      refine ⟨_,rfl,rfl,_,rfl,?_⟩
      refine iteF ?_
      refine ⟨_,rfl,_,_,_,_,true,rfl,rfl,TyOf.bl b,by kernel_rfl,_,rfl,?_⟩
      refine iteT (iteT ?_)
      refine ⟨_,rfl,_,_,_,_,true,rfl,rfl,TyOf.bl b,by kernel_rfl,_,rfl,?_⟩
      refine iteT ⟨_,rfl,_,_,_,_,true,rfl,rfl,TyOf.bl b,by kernel_rfl,_,rfl,?_⟩
      refine iteT ⟨_,rfl,_,rfl,rfl,?_⟩
      rw [decide_eq_true (rfl : V.bl b=V.bl b)]
      exact q H (Same.refl H)
    | int i=>
      refine ⟨_,rfl,rfl,_,rfl,?_⟩
      refine iteF ?_
      refine ⟨_,rfl,_,_,_,_,false,rfl,rfl,TyOf.int i,by kernel_rfl,_,rfl,?_⟩
      refine iteF ⟨_,rfl,_,_,_,_,false,rfl,rfl,TyOf.int i,by kernel_rfl,_,rfl,?_⟩
      refine iteF ?_
      refine ⟨_,rfl,by show 2≤sizeLine; decide,fun p hp=>⟨_,p,_,_,[.type "int",.type "str"],true,rfl,upd_same,rfl,TyOf.int i,by kernel_rfl,_,rfl,?_⟩⟩
      refine iteT ?_
      refine ⟨_,rfl,_,_,_,_,true,rfl,rfl,TyOf.int i,by kernel_rfl,_,rfl,_,_,_,_,true,rfl,rfl,TyOf.int i,by kernel_rfl,rfl,_,rfl,?_⟩
      refine iteT ⟨_,rfl,by show 2≤sizeLine; decide,fun p2 hp2=>⟨_,p2,_,_,[.type "int",.type "str"],true,rfl,upd_same,rfl,TyOf.int i,by kernel_rfl,_,rfl,?_⟩⟩
      refine iteT ⟨_,rfl,_,rfl,rfl,?_⟩
      rw [decide_eq_true (rfl : V.int i=V.int i)]
      exact q _ ((sN hp).trans (same_new hp2 _))
    | str x=>
      refine ⟨_,rfl,rfl,_,rfl,?_⟩
      refine iteF ?_
      refine ⟨_,rfl,_,_,_,_,false,rfl,rfl,TyOf.str x,by kernel_rfl,_,rfl,?_⟩
      refine iteF ⟨_,rfl,_,_,_,_,false,rfl,rfl,TyOf.str x,by kernel_rfl,_,rfl,?_⟩
      refine iteF ?_
      refine ⟨_,rfl,by show 2≤sizeLine; decide,fun p hp=>⟨_,p,_,_,[.type "int",.type "str"],true,rfl,upd_same,rfl,TyOf.str x,by kernel_rfl,_,rfl,?_⟩⟩
      refine iteT ?_
      refine ⟨_,rfl,_,_,_,_,false,rfl,rfl,TyOf.str x,by kernel_rfl,_,rfl,_,_,_,_,false,rfl,rfl,TyOf.str x,by kernel_rfl,rfl,_,rfl,?_⟩
      refine iteT ⟨_,rfl,by show 2≤sizeLine; decide,fun p2 hp2=>⟨_,p2,_,_,[.type "int",.type "str"],true,rfl,upd_same,rfl,TyOf.str x,by kernel_rfl,_,rfl,?_⟩⟩
      refine iteT ⟨_,rfl,_,rfl,rfl,?_⟩
      rw [decide_eq_true (rfl : V.str x=V.str x)]
      exact q _ ((sN hp).trans (same_new hp2 _))
    | _=>exact absurd (show false=true from hf) Bool.false_ne_true
  | @tup m a b xs ys h1 h2 hl hs hx=>
    refine ⟨_,rfl,rfl,_,rfl,?_⟩
    refine iteF ?_
    refine ⟨_,rfl,_,_,_,_,false,rfl,rfl,TyOf.tup h2,by kernel_rfl,_,rfl,?_⟩
    refine iteF ⟨_,rfl,_,_,_,_,false,rfl,rfl,TyOf.tup h1,by kernel_rfl,_,rfl,?_⟩
    refine iteF ?_
    refine ⟨_,rfl,by show 2≤sizeLine; decide,fun p hp=>?_⟩
    have g1:=sN (o:=.tup [.ty "int",.ty "str"]) hp _ _ h1
    have g2:=sN (o:=.tup [.ty "int",.ty "str"]) hp _ _ h2
    refine ⟨_,p,_,_,[.type "int",.type "str"],false,rfl,upd_same,rfl,TyOf.tup g2,by kernel_rfl,_,rfl,?_⟩
    refine iteF ?_
    refine ⟨_,rfl,_,_,_,_,false,rfl,rfl,TyOf.tup g1,by kernel_rfl,_,rfl,_,_,_,_,false,rfl,rfl,TyOf.tup g2,by kernel_rfl,rfl,_,rfl,?_⟩
    refine iteF ⟨_,rfl,_,_,_,_,true,rfl,rfl,TyOf.tup g1,by kernel_rfl,_,rfl,_,_,_,_,true,rfl,rfl,TyOf.tup g2,by kernel_rfl,rfl,_,rfl,?_⟩
    refine iteF ?_
    refine ⟨_,rfl,a,_,rfl,.inr (SqT.of g1),_,rfl,b,_,rfl,.inr (SqT.of g2),rfl,_,rfl,?_⟩
    refine iteNS (by rw [hl]) ?_
    exact same_comp (bb:=false) hl hs (fun i x y e1 e2=>(hx i x y e1 e2).same (sN hp)) (fun H' sm=>⟨SqT.of (sm _ _ g1),SqT.of (sm _ _ g2)⟩) fun H' sm=>q H' ((sN hp).trans sm)
  | @lst m a b xs ys h1 h2 hl hs hx=>
    refine ⟨_,rfl,rfl,_,rfl,?_⟩
    refine iteF ?_
    refine ⟨_,rfl,_,_,_,_,false,rfl,rfl,TyOf.lst h2,by kernel_rfl,_,rfl,?_⟩
    refine iteF ⟨_,rfl,_,_,_,_,false,rfl,rfl,TyOf.lst h1,by kernel_rfl,_,rfl,?_⟩
    refine iteF ?_
    refine ⟨_,rfl,by show 2≤sizeLine; decide,fun p hp=>?_⟩
    have g1:=sN (o:=.tup [.ty "int",.ty "str"]) hp _ _ h1
    have g2:=sN (o:=.tup [.ty "int",.ty "str"]) hp _ _ h2
    refine ⟨_,p,_,_,[.type "int",.type "str"],false,rfl,upd_same,rfl,TyOf.lst g2,by kernel_rfl,_,rfl,?_⟩
    refine iteF ?_
    refine ⟨_,rfl,_,_,_,_,true,rfl,rfl,TyOf.lst g1,by kernel_rfl,_,rfl,_,_,_,_,true,rfl,rfl,TyOf.lst g2,by kernel_rfl,rfl,_,rfl,?_⟩
    refine iteF ⟨_,rfl,_,_,_,_,false,rfl,rfl,TyOf.lst g1,by kernel_rfl,_,rfl,_,_,_,_,false,rfl,rfl,TyOf.lst g2,by kernel_rfl,rfl,_,rfl,?_⟩
    refine iteF ?_
    refine ⟨_,rfl,a,_,rfl,.inl (SqL.of g1),_,rfl,b,_,rfl,.inl (SqL.of g2),rfl,_,rfl,?_⟩
    refine iteNS (by rw [hl]) ?_
    exact same_comp (bb:=true) hl hs (fun i x y e1 e2=>(hx i x y e1 e2).same (sN hp)) (fun H' sm=>⟨SqL.of (sm _ _ g1),SqL.of (sm _ _ g2)⟩) fun H' sm=>q H' ((sN hp).trans sm)
theorem ok_same (F : Fun K "_law_same" "_law_same" s_same f fd) (B : Bn mg) (b1 : Binds K fd n_same []) (k1 : PySem.W.keepIn K (.ref f)=true) (m1 : mg "_law_same" = some (.ref f)) : ∀ n : Nat,FnOk P w K mg base CX0 n f fd n_same (spSame n)
  | 0=>⟨fun _ _ _ _ h=>False.elim h,fun _ _ _ _ _ _ _ _ _ _ _ _ _ h=>False.elim h⟩
  | n + 1=>ok_same1 F B (ok_same F B b1 k1 m1 n) b1 k1 m1
end
end K55
namespace L2
open PySem PySem.Spec PySem.W PyProof.Rows
section
variable {X : Cx} {pins : List (Addr×Obj)} {σ : St} {H : Hp} {s : Shared}
end
end L2
namespace L2
open PySem PySem.Spec PySem.W PyProof.Rows
section
variable {X : Cx} {pins : List (Addr×Obj)} {σ : St} {H : Hp} {s : Shared} {N' : List Str} {ix : List (Option Nat)} {p q : Str} {scope : Scope}
end
end L2
namespace L2
open PySem PySem.Spec PySem.W PyProof.Rows
section
variable {X : Cx} {pins : List (Addr×Obj)} {σ : St} {H : Hp} {s : Shared}
end
end L2
namespace L2
open PySem PySem.Spec PySem.W PyProof.Rows
end L2
namespace L2
def S : List (Int×Int)→Int→Int→Int
  | [],_,_=>0
  | p :: r,f,l=>(if f≤p.1∧p.1≤l then p.2 else 0) + S r f l
end L2
namespace L2
open PySem PySem.Spec PySem.W PyProof.Rows
section
variable {o : Obj} {kvs : List (List Key×V)} {a D : Addr} {g : TG} {ti : TT} {te tk tv : TE} {σ₀ : St} {H1 : Hp} {R : Hp→Prop}
end
end L2
namespace L2
open PySem PySem.Spec PySem.W PyProof.Rows
end L2
namespace L2
end L2
namespace L2
open PySem PySem.Spec PySem.W PyProof.Rows
def Within (rs : List (List Int)) (cs : List Int) : Prop:=∀ (j : Nat) u,cs[j]? = some u→0≤u∧u≤colAt rs 1 (j : Int)
end L2
namespace L2
open PySem PySem.Spec PySem.W PyProof.Rows
end L2
namespace L2
open PySem PySem.Spec PySem.W PyProof.Rows
end L2
namespace L2
open PySem PySem.Spec PySem.W PyProof.Rows
end L2
namespace L2
abbrev Quad:=Int×Int×Int×Int
def SX (f l : Int) : List Quad→Int
  | []=>0
  | (d,c,x,y) :: Z=>(if f≤d∧d≤l then x else 0) + SX f l Z
def one (d x : Int) (Ts : List (Int×Int)) : Int:=(Ts.map fun T=>if T.1≤d∧d≤T.2 then x else 0).sum
def CX (Ts : List (Int×Int)) (Z : List Quad) : Int:=(Ts.map fun T=>SX T.1 T.2 Z).sum
end L2
namespace L2
end L2
namespace L2
end L2
namespace L2
end L2
namespace L2
end L2
namespace L2
end L2
namespace L2
open PySem PySem.Spec PySem.W PyProof.Rows
end L2
namespace L2
open PySem PySem.Spec PySem.W PyProof.Rows
section
variable {K : PySem.W.Frag} {a c x D : Addr} {g : TG} {te : TE} {σ₀ : St} {H1 : Hp} {R : Hp→Prop}
theorem comp_rngK {lo : Int} {n : Nat} (P : Nat→List V→Hp→Prop) (hD : H1 D=none) (d1 : DrawAt H1 a c) (hn : n≤1000) (st : ∀ i zs H H',P i zs H→(H D=none∨∃ l,H D=some (.lst l))→(∀ b o,b≠D→H b=some o→H' b=some o)→P i zs H') (h0 : P 0 [] H1)
    (step : ∀ i zs H,i < n→H D=some (.lst zs)→KeepBut a H1 H→DrawAt H a c→P i zs H→∀ K1 : V→Hp→Prop,(∀ y H4,KeepBut a H H4→DrawAt H4 a c→P (i + 1) (zs ++ [y]) H4→K1 y H4)→g (.int (lo + i)) σ₀ H fun σ2 H2=>(∀ (k : Nat) v,σ₀[k]? = some (some v)→σ2[k]? = some (some v))∧te σ2 H2 K1)
    (fin : ∀ zs H,KeepBut a H1 H→DrawAt H a c→P n zs H→zs.length=n→H D=some (.lst zs)→R H) :
    ∃ W : Nat→Nat→Hp→Prop,(∃ m,W 0 m (upd H1 D (.lst [])))∧∀ i m H,W i m H→((Itr lo n).stop i H∧R H)∨((Itr lo n).go i H∧∀ x H',(Itr lo n).yld i H x H'→g x σ₀ H' fun σ2 H2=>(∀ (k : Nat) v,σ₀[k]? = some (some v)→σ2[k]? = some (some v))∧tIf0 σ2 H2 fun b H3=>
      if b=true then te σ2 H3 fun y H4=>∃ zs,H4 D=some (.lst zs)∧zs.length < sizeLine∧∃ m',m' < m∧W (i + 1) m' (upd H4 D (.lst (zs ++ [y]))) else ∃ m',m' < m∧W (i + 1) m' H3):=by
  have na:=d1.ne hD
  have nc:=d1.nc hD
  refine ⟨fun i m H=>i + m=n∧KeepBut a H1 H∧DrawAt H a c∧∃ zs,H D=some (.lst zs)∧zs.length=i∧P i zs H,⟨n,by omega,KeepBut.refl.new hD,d1.new hD,[],upd_same,rfl,st _ _ _ _ h0 (.inl hD) fun b o hb e=>by rw [upd_ne hb]; exact e⟩,?_⟩
  rintro i m H ⟨him,k1,d,zs,hz,hl,hp⟩
  by_cases hi : i < n
  · refine .inr ⟨hi,?_⟩
    rintro x H' ⟨rfl,rfl⟩
    refine step i zs _ hi hz k1 d hp _ fun y H4 k4 d4 p4=>⟨zs,k4 _ _ na hz,small1000 (by omega),m - 1,by omega,by omega,(k1.trans k4).young hD,d4.upd na nc,zs ++ [y],upd_same,by rw [List.length_append,List.length_singleton]; omega,st _ _ _ _ p4 (.inr ⟨_,k4 _ _ na hz⟩) fun b o hb e=>by rw [upd_ne hb]; exact e⟩
  · have e : i=n:=by omega
    subst e
    exact .inl ⟨by show i≤i; exact Nat.le_refl _,fin zs H k1 d hp hl hz⟩
end
theorem comp_byD {K : PySem.W.Frag} {a D : Addr} {xs : List V} {g : TG} {te : TE} {σ₀ : St} {H1 : Hp} {R : Hp→Prop} (P : Nat→List V→Hp→Prop) (hD : H1 D=none) (hx : H1 a=some (.lst xs)) (hn : xs.length≤1000)
    (st : ∀ i zs H H',P i zs H→(H D=none∨∃ l,H D=some (.lst l))→(∀ b o,b≠D→H b=some o→H' b=some o)→P i zs H') (h0 : P 0 [] H1)
    (step : ∀ i x zs H,xs[i]? = some x→H D=some (.lst zs)→Same H1 H→P i zs H→∀ K1 : V→Hp→Prop,(∀ y H4,Same H H4→P (i + 1) (zs ++ [y]) H4→K1 y H4)→
      g x σ₀ H fun σ2 H2=>(∀ (k : Nat) v,σ₀[k]? = some (some v)→σ2[k]? = some (some v))∧te σ2 H2 K1)
    (fin : ∀ zs H,Same H1 H→P xs.length zs H→zs.length=xs.length→H D=some (.lst zs)→R H) :
    ∃ W : Nat→Nat→Hp→Prop,(∃ m,W 0 m (upd H1 D (.lst [])))∧∀ i m H,W i m H→((Itl K a).stop i H∧R H)∨((Itl K a).go i H∧∀ x H',(Itl K a).yld i H x H'→g x σ₀ H' fun σ2 H2=>(∀ (k : Nat) v,σ₀[k]? = some (some v)→σ2[k]? = some (some v))∧tIf0 σ2 H2 fun b H3=>
      if b=true then te σ2 H3 fun y H4=>∃ zs,H4 D=some (.lst zs)∧zs.length < sizeLine∧∃ m',m' < m∧W (i + 1) m' (upd H4 D (.lst (zs ++ [y]))) else ∃ m',m' < m∧W (i + 1) m' H3):=by
  refine ⟨fun i m H=>i + m=xs.length∧Same H1 H∧∃ zs,H D=some (.lst zs)∧zs.length=i∧P i zs H,⟨xs.length,by omega,same_new hD _,[],upd_same,rfl,st _ _ _ _ h0 (.inl hD) fun b o hb e=>by rw [upd_ne hb]; exact e⟩,?_⟩
  rintro i m H ⟨him,s1,zs,hz,hl,hp⟩
  have ex:=s1 _ _ hx
  by_cases hi : i < xs.length
  · refine .inr ⟨⟨xs,_,SqL.of ex,List.getElem?_eq_getElem hi⟩,?_⟩
    rintro x H' ⟨rfl,hy⟩
    refine step i x zs H' (hy _ (SqL.of ex)) hz s1 hp _ fun y H4 s4 p4=>⟨zs,s4 _ _ hz,small1000 (by omega),m - 1,by omega,by omega,(s1.trans s4).young hD,zs ++ [y],upd_same,by rw [List.length_append,List.length_singleton]; omega,st _ _ _ _ p4 (.inr ⟨_,s4 _ _ hz⟩) fun b o hb e=>by rw [upd_ne hb]; exact e⟩
  · have e : i=xs.length:=by omega
    subst e
    exact .inl ⟨⟨xs,SqL.of ex,Nat.le_refl _⟩,fin zs H s1 hp hl hz⟩
theorem Tups.cat {H : Hp} {xs ys : List V} {rs qs : List (List Int)} (h : Tups H xs rs) (h' : Tups H ys qs) : Tups H (xs ++ ys) (rs ++ qs):=by
  obtain ⟨h1,h2⟩:=h
  obtain ⟨g1,g2⟩:=h'
  refine ⟨by rw [List.length_append,List.length_append,h1,g1],fun i x r e1 e2=>?_⟩
  by_cases c : i < xs.length
  · rw [List.getElem?_append_left c] at e1
    rw [List.getElem?_append_left (by omega)] at e2
    exact h2 i x r e1 e2
  · rw [List.getElem?_append_right (by omega)] at e1
    rw [List.getElem?_append_right (by omega),← h1] at e2
    exact g2 _ x r e1 e2
end L2
namespace HT
open PySem PySem.Spec PyProof.Rows
variable {prog : Program} {w : World} {A : Around} {E : Value→Shared→Prop} {s : Shared}
end HT
namespace L2
open PySem PySem.Spec PyProof.Rows
end L2
namespace K55
open PySem L2
abbrev s_any_number : Stmt:=top 14
abbrev n_any_number : List Str:=["_law_draw"]
abbrev p_any_number : List Str:=["_law_draw"]
theorem sc_any_number : FnScope n_any_number p_any_number (defScope s_any_number):=⟨rfl,rfl,rfl,by decide +kernel,rfl,by decide +kernel,by decide +kernel⟩
abbrev s_any_deed : Stmt:=top 15
abbrev n_any_deed : List Str:=["_law_draw","_law_names","_law_name","_law_pairs","_law_k","_law_kind","_law_many"]
abbrev p_any_deed : List Str:=["_law_draw"]
theorem sc_any_deed : FnScope n_any_deed p_any_deed (defScope s_any_deed):=⟨rfl,rfl,rfl,by decide +kernel,rfl,by decide +kernel,by decide +kernel⟩
abbrev s_line : Stmt:=top 12
abbrev n_line : List Str:=["_law_deed","_law_words","_law_part","_law_pair"]
abbrev p_line : List Str:=["_law_deed"]
theorem sc_line : FnScope n_line p_line (defScope s_line):=⟨rfl,rfl,rfl,by decide +kernel,rfl,by decide +kernel,by decide +kernel⟩
def spAnyNum : Sp:=fun vs H Q _=>∃ (a c : Addr),vs=[.ref a]∧DrawAt H a c∧∀ n H',okN n→DrawAt H' a c→KeepBut a H H'→Q (.int n) H'
def spAnyDeed : Sp:=fun vs H Q _=>∃ (a c : Addr),vs=[.ref a]∧DrawAt H a c∧∀ p d H',Dd.ok d→DdAt H' p d→DrawAt H' a c→KeepBut a H H'→Q (.ref p) H'
def spLine : Sp:=fun vs H Q _=>∃ (p : Addr) (d : Dd),vs=[.ref p]∧DdAt H p d∧d.ok∧∀ H',Same H H'→Q (.str d.line) H'
section
--! fast
variable {P : Program} {w : World} {K : PySem.W.Frag} {mg : Str→Option Value} {base : Heap} {f : Addr} {fd : FuncData} (B : Bn mg)
include B
theorem ok_any_number (G_pick : Cal P w K mg base CX0 1 "_law_pick" p_pick spPick) (F : Fun K "_law_any_number" "_law_any_number" s_any_number f fd) : FnOk P w K mg base CX0 2 f fd p_any_number spAnyNum:=by
  refine F.ok sc_any_number (fun vs H Q E h=>?_) (fun cdv A outer s H vs Q E hr h=>?_)
  · obtain ⟨a,c,rfl,_⟩:=h; rfl
  obtain ⟨a,c,rfl,d,q⟩:=h
  refine ⟨_,(pss_one (ps_ret (pe_cal G_pick hr rfl pass0 (pa_c (pv 0) (pa_c (pe_ix ix_tup (pe_tup (pa_c pe_int (pa_c pe_int (pa_c pe_int (pa_c (pe_op op_pow pe_int pe_int) pa_nil))))) (pe_cal G_pick hr rfl pass0 (pa_c (pv 0) (pa_c pe_int pa_nil))) (fun _ _=>rfl)) pa_nil))))),?_⟩
  refine ⟨_,rfl,_,_,rfl,rfl,⟨by decide,by decide,by decide⟩,by show 4≤sizeLine; decide,fun p0 hp0=>?_⟩
  refine ⟨_,rfl,a,c,4,rfl,d.new hp0,by decide,by decide,fun r H1 r0 r4 d1 kb1=>?_⟩
  have e0:=kb1 p0 _ (d.ne hp0) upd_same
  obtain ⟨v,ev,v0,v1⟩ : ∃ v,atI [V.int 10,.int 100,.int 1000,.int (10 ^ (7 : Int).toNat)] r=some (.int v)∧1≤v∧v≤10000000:=by
    have : r=0∨r=1∨r=2∨r=3:=by omega
    rcases this with rfl | rfl | rfl | rfl
    · exact ⟨10,rfl,by omega,by omega⟩
    · exact ⟨100,rfl,by omega,by omega⟩
    · exact ⟨1000,rfl,by omega,by omega⟩
    · exact ⟨10000000,rfl,by omega,by omega⟩
  refine ⟨p0,_,_,.int v,rfl,rfl,SqT.of e0,ev,a,c,v,rfl,d1,by omega,by omega,fun n H2 n0 n1 d2 kb2=>q n H2 ⟨n0,by omega⟩ d2 (((KeepBut.refl.new hp0).trans kb1).trans kb2)⟩
theorem ok_line (F : Fun K "_law_line" "_law_line" s_line f fd) : FnOk P w K mg base CX0 1 f fd p_line spLine:=by
  refine F.ok sc_line (fun vs H Q E h=>?_) (fun cdv A outer s H vs Q E hr h=>?_)
  · obtain ⟨p,d,rfl,_⟩:=h; rfl
  obtain ⟨p,d,rfl,hd,ok,q⟩:=h
  refine ⟨_,(pss_cons (ps_set (i:=1) sc_line.nd rfl (Or.inl rfl) (pe_lst (pa_c (pe_ix ix_tup (pv 0) pe_int (fun _ _=>rfl)) pa_nil)))
    (pss_cons (ps_for PassesOwn.never rfl (pi_tup (pe_slice sl_tup (pv 0) (po_some pe_int) po_none)) (pg_name (i:=2) sc_line.nd rfl (Or.inl rfl)) (pss_one (ps_if (pt_truth (pe_callB call_isi rfl B.isi PyProof.Rows.boot_isinstance (pa_c (pv 2) (pa_c (pe_bltn rfl B.tuple PyProof.Rows.boot_tuple (v:=.ty "tuple") rfl) pa_nil))) (fun _=>rfl)) (pss_one (ps_for PassesOwn.never rfl (pi_tup (pv 2)) (pg_name (i:=3) sc_line.nd rfl (Or.inl rfl)) (pss_one (ps_set (i:=1) sc_line.nd rfl (Or.inl rfl) (pe_op op_cat (pv 1) (pe_lst (pa_c (pe_callTy call_str1 rfl B.str PyProof.Rows.boot_str (pa_c (pe_ix ix_tup (pv 3) pe_int (fun _ _=>rfl)) pa_nil)) (pa_c (pe_callTy call_str1 rfl B.str PyProof.Rows.boot_str (pa_c (pe_ix ix_tup (pv 3) pe_int (fun _ _=>rfl)) pa_nil)) pa_nil)))))))) (pss_one (ps_expr (pe_bm PySem.F.plainAttrs_list PySem.F.slot_list_append PySem.F.type_list_append mt_append (pv 1) (pa_c (pe_callTy call_str1 rfl B.str PyProof.Rows.boot_str (pa_c (pv 2) pa_nil)) pa_nil)))))))
    (pss_one (ps_ret (pe_bm PySem.F.plainAttrs_str PySem.F.slot_str_join PySem.F.type_str_join mt_join pe_str (pa_c (pv 1) pa_nil)))))),?_⟩
  have fin : ∀ (wl : Addr) (zs : List Str) (H1 : Hp),Same H H1→H1 wl=some (.lst (zs.map V.str))→zs=d.words→rJoin K (.str (Str.ofString " ")) [.ref wl] H1 Q:=fun wl zs H1 s1 e1 ez=>by
    subst ez
    obtain ⟨x,ns,ew,hn,nl,_,xl⟩:=ok.nums
    refine ⟨_,wl,d.words,rfl,rfl,SqL.of e1,?_,?_⟩
    · rw [spT,ew]
      refine join_ok (fun z hz=>?_) (by rw [List.length_cons,List.length_map]; omega)
      rcases List.mem_cons.mp hz with rfl | hz
      · omega
      · obtain ⟨n,m,rfl⟩:=List.mem_map.mp hz
        have:=num_len (hn n m).1 (hn n m).2
        omega
    · rw [spT]
      exact q _ s1
  cases d with
  | row x ns=>
    obtain ⟨o1,o2'⟩:=ok
    obtain ⟨_,nm,_,xl,_,k4⟩:=nums_len o1
    refine ⟨_,rfl,p,_,_,.str x,rfl,rfl,SqT.of hd,atI_some (by decide) rfl,by show 1≤sizeLine; decide,fun wl hwl=>?_⟩
    have s1:=same_new (H:=H) hwl (.lst [.str x])
    refine ⟨_,rfl,1,rfl,p,_,rfl,SqT.of (s1 _ _ hd),fun z=>?_,fun tp htp=>?_⟩
    · have:=z.1; revert this; show ¬ _; simp [HT.sIx]
    have s2:=same_new htp (.tup (ns.map V.int))
    have ec : cutV (.str x :: ns.map V.int) (some 1) none=ns.map V.int:=by
      unfold cutV; simp [HT.sIx,List.take_of_length_le]
    rw [ec]
    have e0 : L2.upd (L2.upd H wl (.lst [.str x])) tp (.tup (ns.map V.int)) wl=some (.lst ((x :: (ns.take 0).map txtN).map V.str)):=s2 _ _ upd_same
    have et : L2.upd (L2.upd H wl (.lst [.str x])) tp (.tup (ns.map V.int)) tp=some (.tup (ns.map V.int)):=upd_same
    have S:=s1.trans s2
    have ntp : tp≠wl:=(ne_of_none upd_same htp).symm
    generalize L2.upd (L2.upd H wl (.lst [.str x])) tp (.tup (ns.map V.int))=H0 at *
    refine ⟨tp,rfl,⟨_,SqT.of et⟩,?_⟩
    refine for_tup (xs:=ns.map V.int) (fun i σ H'=>∃ o2 o3,σ=[some (.ref p),some (.ref wl),o2,o3]∧(∀ b o,b≠wl→H0 b=some o→H' b=some o)∧H' wl=some (.lst ((x :: (ns.take i).map txtN).map V.str))) ⟨_,_,rfl,fun b o _ e=>e,e0⟩ ?_ ?_ ?_
    · rintro i σ H' _ ⟨_,_,rfl,k,_⟩
      exact SqT.of (k _ _ ntp et)
    · rintro i v σ H1 ei ⟨o2,o3,rfl,k,e1⟩
      obtain ⟨n,rfl,en⟩:=ints_at ei
      have il:=(List.getElem?_eq_some_iff.mp en).1
      have on:=o2' n (List.mem_of_getElem? en)
      refine ⟨_,rfl,_,_,_,_,false,rfl,rfl,TyOf.int _,by kernel_rfl,_,rfl,iteF ?_⟩
      refine ⟨_,rfl,.inl ⟨rfl,_,SqL.of e1⟩,_,rfl,.int n,txtN n,rfl,rfl,fun m z=>by cases z; exact num_log on,wl,_,_,rfl,rfl,e1,small1000 (by simp; omega),?_⟩
      refine ⟨_,_,rfl,fun b o hb e=>by rw [upd_ne hb]; exact k b o hb e,?_⟩
      rw [upd_same,getElem_next en,List.map_append,← List.cons_append,List.map_append]; rfl
    · rintro σ H1 ⟨o2,o3,rfl,k,e1⟩
      rw [List.length_map,List.take_length] at e1
      exact ⟨rfl,_,rfl,fin wl _ H1 (fun b o e=>k b o (ne_of_none e hwl) (S _ _ e)) e1 rfl⟩
  | made ps=>
    obtain ⟨t,zs,h1,h2,h3⟩:=hd
    obtain ⟨o1,o2'',o3'⟩:=ok
    refine ⟨_,rfl,p,_,_,.str madeT,rfl,rfl,SqT.of h1,rfl,by show 1≤sizeLine; decide,fun wl hwl=>?_⟩
    have s1:=same_new (H:=H) hwl (.lst [.str madeT])
    refine ⟨_,rfl,1,rfl,p,_,rfl,SqT.of (s1 _ _ h1),fun z=>?_,fun tp htp=>?_⟩
    · have:=z.1; revert this; show ¬ _; simp [HT.sIx]
    have ec : cutV [.str madeT,.ref t] (some 1) none=[.ref t]:=rfl
    rw [ec]
    have s2:=same_new htp (.tup [.ref t])
    have e0 : L2.upd (L2.upd H wl (.lst [.str madeT])) tp (.tup [.ref t]) wl=some (.lst ((madeT :: (flat2 (ps.take 0)).map txtN).map V.str)):=s2 _ _ upd_same
    have et : L2.upd (L2.upd H wl (.lst [.str madeT])) tp (.tup [.ref t]) tp=some (.tup [.ref t]):=upd_same
    have S:=s1.trans s2
    generalize L2.upd (L2.upd H wl (.lst [.str madeT])) tp (.tup [.ref t])=H0 at *
    refine ⟨tp,rfl,⟨_,SqT.of et⟩,?_⟩
    refine for_tup (xs:=[.ref t]) (fun i σ H'=>∃ wl' o2 o3,σ=[some (.ref p),some (.ref wl'),o2,o3]∧Same H0 H'∧H' wl' = some (.lst ((madeT :: (flat2 (ps.take (i * ps.length))).map txtN).map V.str))) ⟨wl,_,_,rfl,Same.refl _,by rw [Nat.zero_mul]; exact e0⟩ ?_ ?_ ?_
    · rintro i σ H' _ ⟨_,_,_,rfl,k,_⟩
      exact SqT.of (k _ _ et)
    · rintro i v σ H1 ei ⟨wl',o2,o3,rfl,k,e1⟩
      obtain ⟨rfl,rfl⟩ : i=0∧v = .ref t:=by
        match i,ei with
        | 0,ei=>cases ei; exact ⟨rfl,rfl⟩
        | i + 1,ei=>cases ei
      have h2':=k _ _ (S _ _ h2)
      rw [Nat.zero_mul] at e1
      refine ⟨_,rfl,_,_,_,_,true,rfl,rfl,TyOf.tup h2',by kernel_rfl,_,rfl,iteT ?_⟩
      have zl:=h3.1
      rw [List.length_map] at zl
      refine ⟨_,rfl,t,rfl,⟨_,SqT.of h2'⟩,?_⟩
      refine for_tup (xs:=zs) (fun j σ H'=>∃ wl2 o3,σ=[some (.ref p),some (.ref wl2),some (.ref t),o3]∧Same H1 H'∧H' wl2=some (.lst ((madeT :: (flat2 (ps.take j)).map txtN).map V.str))) ⟨wl',_,rfl,Same.refl _,e1⟩ ?_ ?_ ?_
      · rintro j σ H' _ ⟨_,_,rfl,k',_⟩
        exact SqT.of (k' _ _ h2')
      · rintro j x σ H2 ej ⟨wl2,o3,rfl,k2,e2⟩
        obtain ⟨pr,r,rfl,er,hpr⟩:=(h3.same ((S.trans k).trans k2)).at ej
        have jl : j < ps.length:=by have:=(List.getElem?_eq_some_iff.mp ej).1; omega
        rw [List.getElem?_map,List.getElem?_eq_getElem jl] at er
        cases er
        have gi:=List.getElem?_eq_getElem jl
        have oo:=o3' _ (List.getElem_mem jl)
        obtain ⟨a,b,eab⟩ : ∃ a b,ps[j]=(a,b):=⟨_,_,rfl⟩
        rw [eab] at hpr gi oo
        have nx : flat2 (ps.take (j + 1))=flat2 (ps.take j) ++ [a,b]:=by rw [getElem_next gi]; unfold flat2; rw [List.flatMap_append]; rfl
        have fl : (flat2 (ps.take j)).length≤20:=by rw [L2.flat_len,List.length_take]; omega
        refine ⟨_,rfl,_,rfl,pr,_,_,.int a,rfl,rfl,SqT.of hpr,rfl,.int a,txtN a,rfl,rfl,fun m z=>by cases z; exact num_log oo.1,_,rfl,pr,_,_,.int b,rfl,rfl,SqT.of hpr,rfl,.int b,txtN b,rfl,rfl,fun m z=>by cases z; exact num_log oo.2,by show 2≤sizeLine; decide,fun g hg=>?_⟩
        have v1:=same_new (H:=H2) hg (.lst [.str (txtN a),.str (txtN b)])
        refine ⟨wl2,g,_,_,rfl,rfl,v1 _ _ e2,upd_same,Nat.le_of_lt (small1000 (by simp; omega)),fun g2 hg2=>?_⟩
        refine ⟨g2,_,rfl,k2.trans (v1.trans (same_new hg2 _)),?_⟩
        rw [upd_same,nx,List.map_append,← List.cons_append,List.map_append]; rfl
      · rintro σ H2 ⟨wl2,o3,rfl,k2,e2⟩
        rw [zl] at e2
        exact ⟨wl2,_,_,rfl,k.trans k2,by rw [show (0 + 1) * ps.length=ps.length by omega]; exact e2⟩
    · rintro σ H1 ⟨wl',o2,o3,rfl,k,e1⟩
      rw [show [V.ref t].length * ps.length=ps.length by simp,List.take_length] at e1
      exact ⟨rfl,_,rfl,fin wl' _ H1 (S.trans k) e1 rfl⟩
end
end K55
namespace K55
open PySem L2
section
--! fast
variable {P : Program} {w : World} {K : PySem.W.Frag} {mg : Str→Option Value} {base : Heap} {f : Addr} {fd : FuncData} (B : Bn mg)
include B
theorem ok_any_deed (G_pick : Cal P w K mg base CX0 1 "_law_pick" p_pick spPick) (G_any_number : Cal P w K mg base CX0 2 "_law_any_number" p_any_number spAnyNum) (F : Fun K "_law_any_deed" "_law_any_deed" s_any_deed f fd) : FnOk P w K mg base CX0 3 f fd p_any_deed spAnyDeed:=by
  refine F.ok sc_any_deed (fun vs H Q E h=>?_) (fun cdv A outer s H vs Q E hr h=>?_)
  · obtain ⟨a,c,rfl,_⟩:=h; rfl
  obtain ⟨a,c,rfl,d,q⟩:=h
  refine ⟨_,(pss_cons (ps_set (i:=1) sc_any_deed.nd rfl (Or.inl rfl) (pe_lst (pa_c pe_str (pa_c pe_str (pa_c pe_str (pa_c pe_str (pa_c pe_str (pa_c pe_str (pa_c pe_str (pa_c pe_str pa_nil))))))))))
    (pss_cons (ps_set (i:=2) sc_any_deed.nd rfl (Or.inl rfl) (pe_ix ix_list (pv 1) (pe_cal G_pick hr rfl pass0 (pa_c (pv 0) (pa_c pe_int pa_nil))) (fun _ _=>rfl)))
    (pss_cons (ps_if (pt_cmpR op_eq (pv 2) pe_str (nomark _)) (pss_cons (ps_set (i:=3) sc_any_deed.nd rfl (Or.inl rfl) (pe_lst pa_nil))
      (pss_cons (ps_for PassesOwn.never rfl (pi_range1 rfl B.range (pa_c (pe_op op_add pe_int (pe_cal G_pick hr rfl pass0 (pa_c (pv 0) (pa_c pe_int pa_nil)))) pa_nil)) (pg_name (i:=4) sc_any_deed.nd rfl (Or.inl rfl)) (pss_cons (ps_set (i:=5) sc_any_deed.nd rfl (Or.inl rfl) (pe_cal G_any_number hr rfl pass0 (pa_c (pv 0) pa_nil)))
        (pss_one (ps_expr (pe_bm PySem.F.plainAttrs_list PySem.F.slot_list_append PySem.F.type_list_append mt_append (pv 3) (pa_c (pe_tup (pa_c (pv 5) (pa_c (pe_cal G_any_number hr rfl pass0 (pa_c (pv 0) pa_nil)) pa_nil))) pa_nil))))))
      (pss_one (ps_ret (pe_tup (pa_c pe_str (pa_c (pe_callTy call_tuple_of rfl B.tuple PyProof.Rows.boot_tuple (pa_c (pv 3) pa_nil)) pa_nil))))))) pss_nil)
    (pss_cons (ps_set (i:=6) sc_any_deed.nd rfl (Or.inl rfl) (pe_dget2 (hu_of hr) (pe_disp (pps_cons pe_str pe_int (pps_cons pe_str pe_int (pps_cons pe_str pe_int (pps_cons pe_str pe_int pps_nil)))) rfl rfl (fun z=>nomatch z) (by decide)) (pv 2) pe_int ⟨rfl,rfl,rfl,rfl⟩))
    (pss_one (ps_ret (pe_op op_addT (pe_tup (pa_c (pv 2) pa_nil)) (pe_callTy call_tuple_of rfl B.tuple PyProof.Rows.boot_tuple (pa_c (pe_comp (N':=["_law_k","_law_draw"]) (ix:=[none,some 0]) (g:=(gName 0)) (ti:=tIf0) (te:=(tCall spAnyNum [] E0 (tCons (tVar 1) tNil))) rfl (comp_scope (N:=n_any_deed) (D:=defScope s_any_deed) (by decide +kernel)) (pi_range1 rfl B.range (pa_c (pv 6) pa_nil)) (fun C s H fp=>(pg_name (i:=0) (show (["_law_k","_law_draw"] : List Str).Nodup by decide +kernel) rfl (Or.inl rfl))) (fun C s H fp=>pifs_nil) (fun C s H fp=>(pe_cal G_any_number hr rfl pass0 (pa_c (pv 1) pa_nil)))) pa_nil))))))))),?_⟩
  refine ⟨by show 8≤sizeLine; decide,fun nl hnl=>?_⟩
  refine ⟨_,rfl,_,rfl,a,c,8,rfl,d.new hnl,by decide,by decide,fun r H1 r0 r8 d1 kb1=>?_⟩
  have k1:=(KeepBut.refl (a:=a) (H:=H)).new (o:=.lst [.str (Str.ofString "raw"),.str (Str.ofString "made"),.str (Str.ofString "come"),.str (Str.ofString "go"),.str (Str.ofString "strike_lot"),.str (Str.ofString "strike_out"),.str (Str.ofString "lay"),.str (Str.ofString "call_back")]) hnl |>.trans kb1
  have e1:=kb1 nl _ (d.ne hnl) upd_same
  obtain ⟨x,ev,hx⟩ : ∃ x,atI [V.str (Str.ofString "raw"),.str (Str.ofString "made"),.str (Str.ofString "come"),.str (Str.ofString "go"),.str (Str.ofString "strike_lot"),.str (Str.ofString "strike_out"),.str (Str.ofString "lay"),.str (Str.ofString "call_back")] r=some (.str x)∧(x=madeT∨∃ k,(x,k)∈nums):=by
    have : r=0∨r=1∨r=2∨r=3∨r=4∨r=5∨r=6∨r=7:=by omega
    rcases this with rfl | rfl | rfl | rfl | rfl | rfl | rfl | rfl
    · exact ⟨_,rfl,.inr ⟨0,.head _⟩⟩
    · exact ⟨_,rfl,.inl rfl⟩
    · exact ⟨_,rfl,.inr ⟨4,.tail _ (.head _)⟩⟩
    · exact ⟨_,rfl,.inr ⟨3,.tail _ (.tail _ (.head _))⟩⟩
    · exact ⟨_,rfl,.inr ⟨1,.tail _ (.tail _ (.tail _ (.head _)))⟩⟩
    · exact ⟨_,rfl,.inr ⟨1,.tail _ (.tail _ (.tail _ (.tail _ (.head _))))⟩⟩
    · exact ⟨_,rfl,.inr ⟨2,.tail _ (.tail _ (.tail _ (.tail _ (.tail _ (.head _)))))⟩⟩
    · exact ⟨_,rfl,.inr ⟨1,.tail _ (.tail _ (.tail _ (.tail _ (.tail _ (.tail _ (.head _))))))⟩⟩
  refine ⟨nl,_,_,.str x,rfl,rfl,SqL.of e1,ev,?_⟩
  refine ⟨_,rfl,rfl,_,rfl,?_⟩
  by_cases c1 : x=madeT
  · rw [decide_eq_true (show V.str x=V.str (Str.ofString "made") from congrArg V.str c1)]
    refine iteT ⟨by show 0≤sizeLine; decide,fun pl hpl=>?_⟩
    have d2:=d1.new (o:=.lst []) hpl
    have k2:=k1.new (o:=.lst []) hpl
    have e2 : L2.upd H1 pl (.lst []) pl=some (.lst []):=upd_same
    have hpl0 : H pl=none:=k1.none (d1.ne hpl) hpl
    have npa : pl≠a:=d1.ne hpl
    have npc : pl≠c:=d1.nc hpl
    generalize L2.upd H1 pl (.lst [])=H2 at *
    refine ⟨_,rfl,a,c,4,rfl,d2,by decide,by decide,fun r2 H3 r20 r24 d3 kb3=>⟨_,_,rfl,rfl,_,rfl,by omega,by omega,?_⟩⟩
    have e3:=kb3 _ _ npa e2
    refine for_range (n:=(1 + r2).toNat) (fun i σ H'=>∃ o4 o5 zs ps,σ=[some (.ref a),some (.ref nl),some (.str x),some (.ref pl),o4,o5,none]∧DrawAt H' a c∧KeepBut a H H'∧H' pl=some (.lst zs)∧Tups H' zs (ps.map fun q : Int×Int=>[q.1,q.2])∧ps.length=i∧∀ q∈ps,okN q.1∧okN q.2) ⟨_,_,[],[],rfl,d3,k2.trans kb3,e3,Tups.nil,rfl,fun q hq=>(by cases hq)⟩ ?_ ?_
    · rintro i σ H4 hi ⟨o4,o5,zs,ps,rfl,d4,k4,e4,h4,l4,ok4⟩
      refine ⟨_,rfl,a,c,rfl,d4,fun n H5 on d5 kb5=>?_⟩
      have e5:=kb5 _ _ npa e4
      refine ⟨_,rfl,.inl ⟨rfl,_,SqL.of e5⟩,_,rfl,_,rfl,a,c,rfl,d5,fun m H6 om d6 kb6=>⟨by show 2≤sizeLine; decide,fun tp htp=>?_⟩⟩
      have e6:=kb6 _ _ npa e5
      have s7:=same_new (H:=H6) htp (.tup [.int n,.int m])
      have e7:=s7 _ _ e6
      have h6 : Tups H6 zs (ps.map fun q : Int×Int=>[q.1,q.2]):=(h4.draw d4 kb5).draw d5 kb6
      have zl:=h6.1
      rw [List.length_map] at zl
      refine ⟨pl,_,_,rfl,rfl,e7,small1000 (by omega),?_⟩
      refine ⟨_,_,zs ++ [.ref tp],ps ++ [(n,m)],rfl,(d6.same s7).upd npa npc,?_,upd_same,?_,by rw [List.length_append,l4]; rfl,fun q hq=>?_⟩
      · exact (((k4.trans kb5).trans kb6).trans (KeepBut.of_same s7)).young hpl0
      · rw [List.map_append]
        exact ((h6.same s7).cat (Tups.one (r:=[n,m]) upd_same)).but e7 fun b o hb e=>by rw [upd_ne hb]; exact e
      · rcases List.mem_append.mp hq with z | z
        · exact ok4 q z
        · rw [List.mem_singleton.mp z]; exact ⟨on,om⟩
    · rintro σ H4 ⟨o4,o5,zs,ps,rfl,d4,k4,e4,h4,l4,ok4⟩
      refine ⟨_,rfl,pl,zs,rfl,.inl ⟨SqL.of e4,fun t ht=>⟨by show 2≤sizeLine; decide,fun pp hpp=>?_⟩⟩⟩
      have s5:=same_new (H:=H4) ht (.tup zs)
      have s6:=same_new hpp (.tup [.str (Str.ofString "made"),.ref t])
      exact q pp (.made ps) _ ⟨fun z=>by rw [z] at l4; simp at l4; omega,by omega,ok4⟩ ⟨t,zs,upd_same,s6 _ _ upd_same,(h4.same s5).same s6⟩ ((d4.same s5).same s6) (k4.trans (KeepBut.of_same (s5.trans s6)))
  · rw [decide_eq_false (show ¬ V.str x=V.str (Str.ofString "made") from fun z=>c1 (V.str.inj z))]
    obtain ⟨k,hk⟩:=hx.resolve_left c1
    obtain ⟨_,_,_,_,k0,k5⟩:=nums_len hk
    refine iteF fun dp hdp=>⟨upd_same,[(.inr (Str.ofString "raw"),.int 0),(.inr (Str.ofString "come"),.int 4),(.inr (Str.ofString "go"),.int 3),(.inr (Str.ofString "lay"),.int 2)],rfl,by decide,?_⟩
    have gv : (valV (mergeK [] [(.inr (Str.ofString "raw"),.int 0),(.inr (Str.ofString "come"),.int 4),(.inr (Str.ofString "go"),.int 3),(.inr (Str.ofString "lay"),.int 2)]) (.inr x : Key)).getD (.int 1) = .int k:=by
      unfold nums at hk
      simp only [List.mem_cons,List.not_mem_nil,or_false,Prod.mk.injEq] at hk
      rcases hk with ⟨rfl,rfl⟩ | ⟨rfl,rfl⟩ | ⟨rfl,rfl⟩ | ⟨rfl,rfl⟩ | ⟨rfl,rfl⟩ | ⟨rfl,rfl⟩ | ⟨rfl,rfl⟩ <;> decide +kernel
    rw [upd_upd]
    have d2:=d1.new (o:=.dK (mergeK [] [(.inr (Str.ofString "raw"),.int 0),(.inr (Str.ofString "come"),.int 4),(.inr (Str.ofString "go"),.int 3),(.inr (Str.ofString "lay"),.int 2)])) hdp
    have k2:=k1.new (o:=.dK (mergeK [] [(.inr (Str.ofString "raw"),.int 0),(.inr (Str.ofString "come"),.int 4),(.inr (Str.ofString "go"),.int 3),(.inr (Str.ofString "lay"),.int 2)])) hdp
    have e2 : L2.upd H1 dp (.dK (mergeK [] [(.inr (Str.ofString "raw"),.int 0),(.inr (Str.ofString "come"),.int 4),(.inr (Str.ofString "go"),.int 3),(.inr (Str.ofString "lay"),.int 2)])) dp=some (.dK (mergeK [] [(.inr (Str.ofString "raw"),.int 0),(.inr (Str.ofString "come"),.int 4),(.inr (Str.ofString "go"),.int 3),(.inr (Str.ofString "lay"),.int 2)])):=upd_same
    generalize L2.upd H1 dp (.dK (mergeK [] [(.inr (Str.ofString "raw"),.int 0),(.inr (Str.ofString "come"),.int 4),(.inr (Str.ofString "go"),.int 3),(.inr (Str.ofString "lay"),.int 2)]))=H2 at *
    refine ⟨dp,rfl,.inl ⟨_,.inl e2⟩,_,rfl,_,DGet.k (k:=.inr x) e2,?_⟩
    rw [gv]
    refine ⟨_,rfl,by show 1≤sizeLine; decide,fun t1 ht1=>?_⟩
    have d3:=d2.new (o:=.tup [.str x]) ht1
    have k3:=k2.new (o:=.tup [.str x]) ht1
    have e3 : L2.upd H2 t1 (.tup [.str x]) t1=some (.tup [.str x]):=upd_same
    have nt1 : t1≠a:=d2.ne ht1
    generalize L2.upd H2 t1 (.tup [.str x])=H3 at *
    refine ⟨_,rfl,k,rfl,by omega,by omega,fun D hD=>?_⟩
    refine comp_rngK (n:=k.toNat) (fun i zs _=>∃ ns : List Int,zs=ns.map V.int∧ns.length=i∧∀ n∈ns,okN n) hD d3 (by omega) (fun i zs H H' h _ _=>h) ⟨[],rfl,rfl,fun n hn=>(by cases hn)⟩ (fun i zs H4 hi hz k4 d4 h4 K1 q1=>?_) fun zs H4 k4 d4 h4 lz eD=>?_
    · obtain ⟨ns,e,l,o⟩:=h4
      refine ⟨keep_set keep_refl rfl,_,rfl,a,c,rfl,d4,fun n H5 on d5 kb5=>q1 _ _ kb5 d5 ⟨ns ++ [n],by rw [e,List.map_append]; rfl,by rw [List.length_append,l]; rfl,fun m hm=>?_⟩⟩
      rcases List.mem_append.mp hm with z | z
      · exact o m z
      · rw [List.mem_singleton.mp z]; exact on
    · obtain ⟨ns,rfl,l,o⟩:=h4
      refine ⟨D,_,rfl,.inl ⟨SqL.of eD,fun t2 ht2=>?_⟩⟩
      have s5:=same_new (H:=H4) ht2 (.tup (ns.map V.int))
      refine ⟨t1,t2,_,_,rfl,rfl,s5 _ _ (k4 _ _ nt1 e3),upd_same,Nat.le_of_lt (small1000 (by rw [List.length_map]; show 1 + _≤1000; omega)),fun pp H' s' e'=>?_⟩
      exact q pp (.row x ns) H' ⟨by rw [l,show ((k.toNat : Nat) : Int)=k by omega]; exact hk,o⟩ e' ((d4.same s5).same s') ((k3.trans k4).trans (KeepBut.of_same (s5.trans s')))
end
end K55
namespace L2
open PySem PySem.Spec PyProof.Rows
def Its (z : Str) : It:=⟨fun i _=>i < z.length,fun i H x H'=>H' = H∧∃ c,z.cps[i]? = some c∧x = .str ⟨#[c]⟩,fun i _=>z.length≤i⟩
theorem turn_str {P : Program} {w : World} {K : PySem.W.Frag} {tg : Expr} (z : Str) (t : Tok) (it : Addr) : Turn P w K tg (Its z) [it] it (fun i h=>h.IsStrIter it "str_ascii_iterator" z t i) where
  mem:=by simp
  obj:=fun i h st b hb=>by
    obtain rfl : b=it:=by simpa using hb
    obtain ⟨o,e,c,d⟩:=st
    exact ⟨o,e,fun v z=>by rw [d] at z; cases z⟩
  keep:=fun i h h' st k=>let ⟨o,ho,r⟩:=st; ⟨o,k it (by simp) o ho,r⟩
  item:=by
    intro X hP hw hK hc i pins s σ H E I hf st hg
    subst hP hw hK
    have hi : i < z.cps.size:=hg
    obtain ⟨f0,f1,f2,f3,f4,f5⟩:=hf it (by simp)
    refine wpAny_pyNext_ascii_item st (c:=z.cps[i]) (by simp [hi]) fun h' st' sb=>?_
    have I1 : Inv X pins σ H { s with heap:=h',toks:=s.toks + 1 }:=I.turned (t':=s.toks + 1) (fun b o hb e=>sb.extBut b o hb e) f0 f1 f3 f4 f5
    obtain ⟨o,e,c,d⟩:=id st'
    exact ⟨_,rfl,go_of (s:={ s with heap:=h',toks:=s.toks + 1 }) e c d (by decide) ⟨.str ⟨#[z.cps[i]]⟩,H,I1,⟨_,rfl⟩,⟨rfl,_,by simp [hi],rfl⟩,st',fun b hb=>(hf b hb).1⟩⟩
  done:=by
    intro X hP hw hK hc i pins s σ H E I hf st hg
    subst hP hw hK
    have hi : z.cps.size≤i:=hg
    obtain ⟨f0,f1,f2,f3,f4,f5⟩:=hf it (by simp)
    exact wpAny_pyNext_ascii_end (I.ok.hd hc) st (by simp [hi]) fun h' eb=>⟨rfl,I.turned (t':=s.toks) (fun b o hb e=>eb b o hb e) f0 f1 f3 f4 f5⟩
  self:=fun _ _ _ _ _ st h=>wpAny_pyIter_striter_ascii st h
def repS (z : Str) (n : Int) : Str:=if (n == 1 || z.length == 0)=true then z else ⟨(List.replicate n.toNat z.cps).foldl (· ++ ·) #[]⟩
theorem cp_rep_go (a : Array Nat) : ∀ (k : Nat) (acc : Array Nat),((List.replicate k a).foldl (· ++ ·) acc).toList=acc.toList ++ (List.replicate k a.toList).flatten
  | 0,acc=>by simp
  | k + 1,acc=>by
    rw [List.replicate_succ,List.foldl_cons,cp_rep_go a k (acc ++ a),List.replicate_succ,List.flatten_cons,Array.toList_append,List.append_assoc]
theorem cp_rep {z : Str} {n : Int} (h : 1≤n) : ∀ c∈cp (repS z n),c∈cp z:=by
  intro c hc
  unfold repS at hc
  split at hc
  · exact hc
  · unfold cp at hc ⊢
    rw [cp_rep_go] at hc
    simp only [List.mem_append,List.mem_flatten,List.mem_replicate] at hc
    rcases hc with z | ⟨l,⟨_,rfl⟩,m⟩
    · cases z
    · exact m
theorem len_repS {z : Str} {n : Int} (h : 1≤n) : (repS z n).length≤n.toNat * z.length:=by
  unfold repS
  split
  · exact Nat.le_mul_of_pos_left _ (by omega)
  · have e : (cp ⟨(List.replicate n.toNat z.cps).foldl (· ++ ·) #[]⟩).length=(⟨(List.replicate n.toNat z.cps).foldl (· ++ ·) #[]⟩ : Str).length:=Array.length_toList
    rw [← e]
    unfold cp
    rw [cp_rep_go]
    simp
    exact Nat.le_refl _
section
variable {X : Cx} {tg : Expr}
def iStr (tl : TE) : TI:=fun σ H R=>tl σ H fun x H1=>∃ z,x = .str z∧z.cps.all (· < 128)=true∧R (Its z) H1
theorem pi_str {l : Expr} {tl : TE} (hl : PE X l tl) : PI X tg l (iStr tl):=by
  refine ⟨?_⟩
  intro pins s σ H R I h
  refine thn (hl pins s σ H _ I h) fun v s1 ⟨x,H1,I1,r1,q1⟩=>?_
  obtain ⟨z,rfl,ha,q⟩:=q1
  obtain ⟨t,rfl⟩:=r1
  refine wpAny_pyIter_ascii ha ?_
  have I2 : Inv X pins σ H1 { s1 with heap:=s1.heap.push { cls:=.type "str_ascii_iterator",data:=.fields #[.str z t,.int 0 0] } }:=I1.kept (t':=s1.toks) fun b o e=>Heap.get?_push_of_some _ e
  exact ⟨_,[s1.heap.objs.size],_,Its z,H1,rfl,I2,turn_str z t _,⟨_,Heap.get?_push_size _ rfl,rfl,rfl⟩,fun b hb=>by
    obtain rfl : b=s1.heap.objs.size:=by simpa using hb
    exact I1.fpOk (Nat.le_refl _) (I1.hok.fresh (Nat.le_refl _)),q⟩
theorem for_str {z : Str} {g : TG} {tb : TS} {D : Ends} {σ : St} {H : Hp} (Pv : Nat→St→Hp→Prop) (h0 : Pv 0 σ H)
    (hs : ∀ i c σ H,(cp z)[i]? = some c→Pv i σ H→g (.str ⟨#[c]⟩) σ H fun σ2 H2=>tb { D with nx:=Pv (i + 1),ct:=Pv (i + 1),bk:=D.nx } σ2 H2) (hd : ∀ σ H,Pv z.length σ H→D.nx σ H) :
    ∃ W : Nat→Nat→St→Hp→Prop,(∃ m,W 0 m σ H)∧∀ i m σ H,W i m σ H→
      ((Its z).stop i H∧D.nx σ H)∨((Its z).go i H∧∃ N : St→Hp→Prop,(∀ σ' H',N σ' H'→∃ m',m' < m∧W (i + 1) m' σ' H')∧∀ x H',(Its z).yld i H x H'→g x σ H' fun σ2 H2=>tb { D with nx:=N,ct:=N,bk:=D.nx } σ2 H2):=by
  refine ⟨fun i m σ H=>m=z.length - i∧i≤z.length∧Pv i σ H,⟨z.length,by simp,Nat.zero_le _,h0⟩,?_⟩
  rintro i m σ H ⟨rfl,hi,p⟩
  by_cases c : i < z.length
  · refine .inr ⟨c,Pv (i + 1),fun σ' H' p'=>⟨z.length - (i + 1),by omega,rfl,by omega,p'⟩,?_⟩
    rintro x H' ⟨rfl,c',ec,rfl⟩
    exact hs i c' σ H' (by unfold cp; rw [Array.getElem?_toList]; exact ec) p
  · obtain rfl : i=z.length:=by omega
    exact .inl ⟨Nat.le_refl _,hd σ H p⟩
def rSlS : V→Option Int→Option Int→Hp→VK→Prop:=fun x lo hi H Q=>∃ z,x = .str z∧z.length≤sizeLine∧Q (.str (Txt.slice z lo hi)) H
theorem sl_str : SlR X rSlS:=by
  intro pins s σ H x v vl vu lo hi sl Q I rx hs pl pu h
  obtain ⟨z,rfl,hz,q⟩:=h
  obtain ⟨t,rfl⟩:=rx
  refine ⟨"str",_,F.slot_str_getitem.lookup,typeIs_str _ _ _,?_⟩
  have fin : ∀ t' k,EP X pins σ Q (.str (Txt.slice z lo hi) t') { s with toks:=k }:=fun t' k=>⟨.str _,H,I.tok _,⟨_,rfl⟩,q⟩
  cases pl with
  | none=>
    cases pu with
    | none=>exact wpAny_getItem_str_slice (l:=none) (u:=none) (st:=none) hs rfl (post_val_or_str ⟨Nat.le_trans (Txt.slice_le z _ _) hz,fin⟩)
    | int j u=>exact wpAny_getItem_str_slice (l:=none) (u:=some (j,u)) (st:=none) hs rfl (post_val_or_str ⟨Nat.le_trans (Txt.slice_le z _ _) hz,fin⟩)
  | int i t'=>
    cases pu with
    | none=>exact wpAny_getItem_str_slice (l:=some (i,t')) (u:=none) (st:=none) hs rfl (post_val_or_str ⟨Nat.le_trans (Txt.slice_le z _ _) hz,fin⟩)
    | int j u=>exact wpAny_getItem_str_slice (l:=some (i,t')) (u:=some (j,u)) (st:=none) hs rfl (post_val_or_str ⟨Nat.le_trans (Txt.slice_le z _ _) hz,fin⟩)
def rMulS : R2:=fun x y H Q=>∃ z n,x = .str z∧y = .int n∧1≤n∧n≤1000∧z.length≤1000∧Q (.str (repS z n)) H
theorem op_mulS : OpR X (binaryOp .Mult) rMulS:=by
  intro pins s σ H x y v u Q I rx ry h
  obtain ⟨z,n,rfl,rfl,n1,n2,hz,q⟩:=h
  obtain ⟨t,rfl⟩:=rx
  obtain ⟨t',rfl⟩:=ry
  have h0 : ¬ n < 1:=by omega
  have hm : z.length * n.toNat≤1000 * 1000:=Nat.mul_le_mul hz (by omega)
  refine PySem.P.mul_str (by rw [decide_eq_false (show ¬ n < -(2 ^ 63 : Int) by omega),decide_eq_false (show ¬ n ≥ (2 ^ 63 : Int) by omega)]; rfl) (fun _ _=>?_) (fun _ _=>?_) ?_
  · have : (1000 : Int)≤(2 ^ 63 - 1) / n:=by
      refine Int.le_ediv_of_mul_le (by omega) ?_
      have : (1000 : Int) * n≤1000 * 1000:=Int.mul_le_mul_of_nonneg_left n2 (by decide)
      omega
    omega
  · unfold Builtin.Str.tooLong
    refine decide_eq_false ?_
    rw [sizeLine_eq]
    omega
  · rw [if_neg h0]
    unfold repS at q
    by_cases c : (n == 1 || z.length == 0)=true
    · rw [if_pos c] at q ⊢
      exact ⟨.str z,H,I,⟨_,rfl⟩,q⟩
    · rw [if_neg c] at q ⊢
      refine ⟨?_,.str _,H,I.tok _,⟨_,rfl⟩,q⟩
      have:=len_repS (z:=z) n1
      unfold repS at this
      rw [if_neg c] at this
      rw [Nat.mul_comm] at hm
      rw [sizeLine_eq]
      omega
end
end L2
namespace L2
open PySem PySem.NumText
def Asc (z : Str) : Prop:=∀ c∈cp z,c < 128
def digB (c : Nat) : Bool:=decide (48≤c∧c≤57)
theorem uni_dig : ∀ c,c < 128→Unicode.isDigit c=digB c:=by decide +kernel
theorem isdigit_asc {z : Str} (h : Asc z) : Txt.isdigit z=(decide (0 < z.length) && (cp z).all digB):=by
  unfold Txt.isdigit
  congr 1
  have e : z.cps.all Unicode.isDigit=(cp z).all Unicode.isDigit:=by unfold cp; rw [Array.all_toList]
  rw [e]
  have all : ∀ cs : List Nat,(∀ c∈cs,c < 128)→cs.all Unicode.isDigit=cs.all digB:=by
    intro cs
    induction cs with
    | nil=>intro _; rfl
    | cons c cs ih=>intro hc; rw [List.all_cons,List.all_cons,uni_dig c (hc c (.head _)),ih fun d hd=>hc d (.tail _ hd)]
  exact all _ h
theorem cp_len (z : Str) : (cp z).length=z.length:=Array.length_toList
theorem fig_read {z : Str} (hd : (cp z).all digB=true) (hne : 0 < z.length) (hl : z.length≤640) : PySem.intText? z=some ((digitsVal (cp z) : Nat) : Int):=by
  have ad : AllDigits (cp z):=fun c hc=>of_decide_eq_true (List.all_eq_true.mp hd c hc)
  exact intText_digits ad (fun e=>by have:=cp_len z; unfold cp at this; rw [e] at this; simp at this; omega) (by omega)
theorem val_lt : ∀ (n : Nat) (cs : List Nat),cs.length=n→AllDigits cs→digitsVal cs < 10 ^ n
  | 0,cs,e,_=>by rw [List.length_eq_zero_iff.mp e]; decide
  | n + 1,cs,e,h=>by
    obtain ⟨r,c,rfl⟩ : ∃ r c,cs=r ++ [c]:=⟨cs.dropLast,cs.getLast (by intro z; rw [z] at e; cases e),(List.dropLast_concat_getLast _).symm⟩
    rw [List.length_append,List.length_singleton] at e
    have k:=val_lt n r (by omega) fun d hd=>h d (List.mem_append_left _ hd)
    have:=h c (List.mem_append_right _ (.head _))
    rw [digitsVal_snoc,Nat.pow_succ]
    omega
theorem chars_back : ∀ {cs : List Nat},AllDigits cs→(cs.map Char.ofNat).map Char.toNat=cs
  | [],_=>rfl
  | c :: cs,h=>by
    have hc:=h.head
    rw [List.map_cons,List.map_cons,chars_back h.tail]
    congr 1
    have : c=48∨c=49∨c=50∨c=51∨c=52∨c=53∨c=54∨c=55∨c=56∨c=57:=by omega
    rcases this with rfl | rfl | rfl | rfl | rfl | rfl | rfl | rfl | rfl | rfl <;> decide
theorem fig_back {z : Str} (hd : (cp z).all digB=true) (h : z.length=1∨∃ c r,cp z=c :: r∧49≤c) : txtN ((digitsVal (cp z) : Nat) : Int)=z:=by
  have ad : AllDigits (cp z):=fun c hc=>of_decide_eq_true (List.all_eq_true.mp hd c hc)
  refine cp_inj ?_
  rw [cp_num (by omega),show (((digitsVal (cp z) : Nat) : Int)).toNat=digitsVal (cp z) by omega]
  have hl : ∃ n,(cp z).length=n + 1∧(n=0∨∃ c r,cp z=c :: r∧49≤c):=by
    rcases h with h | ⟨c,r,e,hc⟩
    · exact ⟨0,by rw [cp_len,h],.inl rfl⟩
    · exact ⟨r.length,by rw [e]; rfl,.inr ⟨c,r,e,hc⟩⟩
  obtain ⟨n,e,hn⟩:=hl
  rw [toDigits_digitsVal n (cp z) e ad hn,chars_back ad]
theorem lead_iff {z : Str} {c : Nat} {r : List Nat} (e : cp z=c :: r) : Txt.startswith z zeroT=decide (c=48):=by
  have l : z.length=r.length + 1:=by rw [← cp_len,e]; rfl
  unfold Txt.startswith
  rw [StrLaws.subAt_eq]
  show (decide (0 + 1≤z.length) && (((cp z).drop 0).take 1 == [48]))=_
  rw [decide_eq_true (by omega),e,Bool.true_and]
  show ([c] == [48])=_
  by_cases h : c=48
  · subst h; rfl
  · rw [decide_eq_false h]; simpa using h
theorem isNum_asc {z : Str} (h : Asc z) : isNum z=true↔(0 < z.length∧z.length < 8∧(cp z).all digB=true)∧PySem.intText? z=some (numOf z)∧txtN (numOf z)=z:=by
  have ez : zeroT=⟨#[48]⟩:=rfl
  unfold isNum
  rw [isdigit_asc h]
  constructor
  · intro b
    simp only [Bool.and_eq_true,decide_eq_true_eq,Bool.or_eq_true,Bool.not_eq_true'] at b
    obtain ⟨⟨⟨b1,b2⟩,b3⟩,b4⟩:=b
    have rd:=fig_read b2 b1 (by omega)
    have en : numOf z=((digitsVal (cp z) : Nat) : Int):=by unfold numOf; rw [rd]; rfl
    refine ⟨⟨b1,by omega,b2⟩,by rw [en]; exact rd,?_⟩
    rw [en]
    refine fig_back b2 ?_
    rcases b4 with rfl | b4
    · exact .inl rfl
    · cases e : cp z with
      | nil=>have:=cp_len z; rw [e] at this; simp at this; omega
      | cons c r=>
        rw [lead_iff e] at b4
        have:=of_decide_eq_false b4
        have hc : digB c=true:=List.all_eq_true.mp b2 c (by rw [e]; exact .head _)
        have:=of_decide_eq_true hc
        exact .inr ⟨c,r,rfl,by omega⟩
  · rintro ⟨⟨b1,b2,b3⟩,rd,bk⟩
    have rd':=fig_read b3 b1 (by omega)
    have en : numOf z=((digitsVal (cp z) : Nat) : Int):=by unfold numOf; rw [rd']; rfl
    simp only [Bool.and_eq_true,decide_eq_true_eq,Bool.or_eq_true,Bool.not_eq_true']
    refine ⟨⟨⟨b1,b3⟩,by omega⟩,?_⟩
    by_cases z0 : numOf z=0
    · rw [z0,num_zero] at bk
      exact .inl bk.symm
    · refine .inr ?_
      rw [← bk]
      exact num_lead (by omega)
end L2
namespace L2
open PySem PySem.Spec PySem.W PyProof.Rows
end L2
namespace L2
open PySem PyProof.Rows
section
variable {X : Cx} {tg : Expr}
end
end L2
namespace L2
open PySem
end L2
namespace L2
open PySem
end L2
namespace L2
open PySem
theorem comp_rngFD {D : Addr} {lo : Int} {n : Nat} {g : TG} {ti : TT} {te : TE} {σ₀ : St} {H1 : Hp} {R : Hp→Prop} (P : Nat→List V→Hp→Prop) (hD : H1 D=none) (hn : n≤1000)
    (st : ∀ i zs H H',P i zs H→(H D=none∨∃ l,H D=some (.lst l))→(∀ b o,b≠D→H b=some o→H' b=some o)→P i zs H') (h0 : P 0 [] H1)
    (step : ∀ i zs H,i < n→H D=some (.lst zs)→Same H1 H→P i zs H→∀ (K1 : V→Hp→Prop) (K2 : Hp→Prop),(∀ y H4,Same H H4→P (i + 1) (zs ++ [y]) H4→K1 y H4)→(∀ H3,Same H H3→P (i + 1) zs H3→K2 H3)→
      g (.int (lo + i)) σ₀ H fun σ2 H2=>(∀ (k : Nat) v,σ₀[k]? = some (some v)→σ2[k]? = some (some v))∧ti σ2 H2 fun b H3=>if b=true then te σ2 H3 K1 else K2 H3)
    (fin : ∀ zs H,Same H1 H→P n zs H→zs.length≤n→H D=some (.lst zs)→R H) :
    ∃ W : Nat→Nat→Hp→Prop,(∃ m,W 0 m (upd H1 D (.lst [])))∧∀ i m H,W i m H→((Itr lo n).stop i H∧R H)∨((Itr lo n).go i H∧∀ x H',(Itr lo n).yld i H x H'→g x σ₀ H' fun σ2 H2=>(∀ (k : Nat) v,σ₀[k]? = some (some v)→σ2[k]? = some (some v))∧ti σ2 H2 fun b H3=>
      if b=true then te σ2 H3 fun y H4=>∃ zs,H4 D=some (.lst zs)∧zs.length < sizeLine∧∃ m',m' < m∧W (i + 1) m' (upd H4 D (.lst (zs ++ [y]))) else ∃ m',m' < m∧W (i + 1) m' H3):=by
  refine ⟨fun i m H=>i + m=n∧Same H1 H∧∃ zs,H D=some (.lst zs)∧zs.length≤i∧P i zs H,⟨n,by omega,same_new hD _,[],upd_same,Nat.le_refl _,st _ _ _ _ h0 (.inl hD) fun b o hb e=>by rw [upd_ne hb]; exact e⟩,?_⟩
  rintro i m H ⟨him,s1,zs,hz,hl,hp⟩
  by_cases hi : i < n
  · refine .inr ⟨hi,?_⟩
    rintro x H' ⟨rfl,rfl⟩
    exact step i zs _ hi hz s1 hp _ _ (fun y H4 s4 p4=>⟨zs,s4 _ _ hz,small1000 (by omega),m - 1,by omega,by omega,(s1.trans s4).young hD,zs ++ [y],upd_same,by rw [List.length_append,List.length_singleton]; omega,st _ _ _ _ p4 (.inr ⟨_,s4 _ _ hz⟩) fun b o hb e=>by rw [upd_ne hb]; exact e⟩) fun H3 s3 p3=>⟨m - 1,by omega,by omega,s1.trans s3,zs,s3 _ _ hz,by omega,p3⟩
  · have e : i=n:=by omega
    subst e
    exact .inl ⟨by show i≤i; exact Nat.le_refl _,fin zs H s1 hp hl hz⟩
def evP (ns : List Int) (i : Nat) : List (List Int):=((List.range i).filter fun j=>decide (j % 2=0)).map fun j=>[ns.getD j 0,ns.getD (j + 1) 0]
theorem evP_next (ns : List Int) (i : Nat) : evP ns (i + 1)=evP ns i ++ if i % 2=0 then [[ns.getD i 0,ns.getD (i + 1) 0]] else []:=by
  unfold evP
  rw [List.range_succ,List.filter_append,List.map_append]
  congr 1
  by_cases c : i % 2=0
  · rw [if_pos c,List.filter_cons,if_pos (decide_eq_true c)]; rfl
  · rw [if_neg c,List.filter_cons,if_neg (by rw [decide_eq_false c]; decide)]; rfl
theorem evP_two : ∀ (k : Nat) (ns : List Int),ns.length=2 * k→evP ns (2 * k)=(pairs2 ns).map fun p=>[p.1,p.2]
  | 0,ns,e=>by rw [List.length_eq_zero_iff.mp e]; rfl
  | k + 1,ns,e=>by
    obtain ⟨r,a,b,rfl⟩ : ∃ r a b,ns=r ++ [a,b]:=by
      refine ⟨ns.take (2 * k),ns.getD (2 * k) 0,ns.getD (2 * k + 1) 0,?_⟩
      have h1 : 2 * k < ns.length:=by omega
      have h2 : 2 * k + 1 < ns.length:=by omega
      refine List.ext_getElem? fun j=>?_
      by_cases c1 : j < 2 * k
      · rw [List.getElem?_append_left (by rw [List.length_take]; omega),List.getElem?_take_of_lt c1]
      · rw [List.getElem?_append_right (by rw [List.length_take]; omega),List.length_take,Nat.min_eq_left (by omega)]
        by_cases c2 : j=2 * k
        · subst c2; rw [Nat.sub_self,List.getD_eq_getElem?_getD,List.getElem?_eq_getElem h1]; rfl
        · by_cases c3 : j=2 * k + 1
          · subst c3; rw [show 2 * k + 1 - 2 * k=1 by omega]; simp [List.getD_eq_getElem?_getD,List.getElem?_eq_getElem h2]
          · rw [List.getElem?_eq_none (by omega),List.getElem?_eq_none (by simp; omega)]
    have lr : r.length=2 * k:=by rw [List.length_append] at e; simp at e; omega
    have ih:=evP_two k r lr
    have g : ∀ j,j < 2 * k→(r ++ [a,b]).getD j 0=r.getD j 0:=fun j hj=>by rw [List.getD_eq_getElem?_getD,List.getD_eq_getElem?_getD,List.getElem?_append_left (by omega)]
    have e1 : evP (r ++ [a,b]) (2 * k)=evP r (2 * k):=by
      unfold evP
      refine List.map_congr_left fun j hj=>?_
      obtain ⟨m1,m2⟩:=List.mem_filter.mp hj
      have:=List.mem_range.mp m1
      have:=of_decide_eq_true m2
      rw [g j (by omega),g (j + 1) (by omega)]
    have ga : (r ++ [a,b]).getD (2 * k) 0=a:=by rw [List.getD_eq_getElem?_getD,List.getElem?_append_right (by omega),lr,Nat.sub_self]; rfl
    have gb : (r ++ [a,b]).getD (2 * k + 1) 0=b:=by rw [List.getD_eq_getElem?_getD,List.getElem?_append_right (by omega),lr,show 2 * k + 1 - 2 * k=1 by omega]; rfl
    rw [show 2 * (k + 1)=2 * k + 1 + 1 by omega,evP_next,evP_next,if_pos (by omega),if_neg (by omega),e1,ih,ga,gb,List.append_nil]
    have pe : ∀ (m : Nat) (r : List Int),r.length=2 * m→pairs2 (r ++ [a,b])=pairs2 r ++ [(a,b)]:=by
      intro m
      induction m with
      | zero=>intro r hr; rw [List.length_eq_zero_iff.mp hr]; rfl
      | succ m ih=>
        intro r hr
        match r,hr with
        | [x,y],_=>rfl
        | x :: y :: u :: v :: r,hr=>
          have k:=ih (u :: v :: r) (by simp at hr ⊢; omega)
          show (x,y) :: pairs2 ((u :: v :: r) ++ [a,b])=(x,y) :: (pairs2 (u :: v :: r) ++ [(a,b)])
          rw [k]
        | [x,y,u],hr=>simp at hr; omega
        | [x],hr=>simp at hr; omega
        | [],hr=>simp at hr
    rw [pe k r lr,List.map_append]
    rfl
theorem tIf_by {t : TT} {A B : TS} {D : Ends} {σ : St} {H : Hp} (b : Bool) (h : ∀ Q : Bool→Hp→Prop,(∀ H',Same H H'→Q b H')→t σ H Q) (h1 : b=true→∀ H',Same H H'→A D σ H') (h2 : b=false→∀ H',Same H H'→B D σ H') : tIfS t A B D σ H:=
  h _ fun H' s=>by
    cases b with
    | true=>exact iteT (h1 rfl H' s)
    | false=>exact iteF (h2 rfl H' s)
end L2
namespace L2
open PySem
end L2
namespace L2
open PySem
def saidE (ks : List Nat) (H : Hp) (cl : Nat→Addr) (o : Option Nat) : XK:=fun cls _ H1=>Same H H1∧∃ n : Nat,n∈ks∧cls = .ref (cl n)∧o=some n
theorem saidP {ks : List Nat} {K : PySem.W.Frag} {cl : Nat→Addr} {H : Hp} {o : Option Nat} (Y : XcL K cl ks) : ∀ cls H1,saidE ks H cl o cls none H1→(∃ D,cls = .ref D)∧PySem.W.exmOne K cls (.ref (cl 0))=some true:=fun cls H1 h=>by
  obtain ⟨_,n,hn,rfl,_⟩:=h
  exact ⟨⟨_,rfl⟩,Y.m _ hn⟩
end L2
namespace L2
open PySem PySem.Spec PyProof.Rows
variable {X : Cx}
end L2
namespace L2
open PySem
end L2
namespace K55
open PySem L2
abbrev s_figure : Stmt:=top 18
abbrev n_figure : List Str:=["_law_word","_law_sign"]
abbrev p_figure : List Str:=["_law_word"]
theorem sc_figure : FnScope n_figure p_figure (defScope s_figure):=⟨rfl,rfl,rfl,by decide +kernel,rfl,by decide +kernel,by decide +kernel⟩
abbrev s_figures : Stmt:=top 19
abbrev n_figures : List Str:=["_law_words","_law_found"]
abbrev p_figures : List Str:=["_law_words"]
theorem sc_figures : FnScope n_figures p_figures (defScope s_figures):=⟨rfl,rfl,rfl,by decide +kernel,rfl,by decide +kernel,by decide +kernel⟩
abbrev s_read : Stmt:=top 20
abbrev n_read : List Str:=["_law_line_here","_law_words","_law_numbers","_law_sizes"]
abbrev p_read : List Str:=["_law_line_here"]
theorem sc_read : FnScope n_read p_read (defScope s_read):=⟨rfl,rfl,rfl,by decide +kernel,rfl,by decide +kernel,by decide +kernel⟩
abbrev s_told : Stmt:=top 21
abbrev n_told : List Str:=["_law_line_here","_law_found","e"]
abbrev p_told : List Str:=["_law_line_here"]
theorem sc_told : FnScope n_told p_told (defScope s_told):=⟨rfl,rfl,rfl,by decide +kernel,rfl,by decide +kernel,by decide +kernel⟩
def figV (z : Str) : V:=if isNum z=true then .int (numOf z) else .non
def spFigure : Sp:=fun vs H Q _=>∃ z,vs=[.str z]∧Asc z∧z.length≤100000∧∀ H',Same H H'→Q (figV z) H'
def spFigures : Sp:=fun vs H Q _=>∃ (l : Addr) (zs : List Str),vs=[.ref l]∧H l=some (.lst (zs.map V.str))∧zs.length≤900∧(∀ z∈zs,Asc z∧z.length≤100000)∧
  (zs.all isNum=true→∀ p H',H p=none→Same H H'→IntsAt H' p (zs.map numOf)→Q (.ref p) H')∧(zs.all isNum=false→∀ H',Same H H'→Q .non H')
def ansT (z : Str) : Option Nat:=if (readD (Txt.split z sp)).isSome=true then none else some 24
theorem split_asc {z : Str} (h : Asc z) : ∀ y∈Txt.split z sp,Asc y:=by
  intro y hy c hc
  have e:=StrLaws.join_split z sp
  have : ∀ (ws : List Str) (y : Str),y∈ws→∀ c∈cp y,c∈cp (Str.join sp ws):=by
    intro ws
    induction ws with
    | nil=>intro y hy; cases hy
    | cons x ws ih=>
      intro y hy c hc
      cases ws with
      | nil=>rcases List.mem_cons.mp hy with rfl | hy; exact hc; cases hy
      | cons v ws=>
        rw [cp_join]
        rcases List.mem_cons.mp hy with rfl | hy
        · exact List.mem_append_left _ hc
        · exact List.mem_append_right _ (.tail _ (ih y hy c hc))
  have m:=this _ y hy c hc
  rw [e] at m
  exact h c m
theorem sign_in (c : Nat) : (!(!(Builtin.Str.occurrences (Str.ofString "0123456789") ⟨#[c]⟩ 0 (Str.ofString "0123456789").length 1).isEmpty)) = !digB c:=by
  rw [StrLaws.found_one,show (Str.ofString "0123456789").cps.toList=[48,49,50,51,52,53,54,55,56,57] by decide +kernel]
  congr 1
  unfold digB
  refine decide_eq_decide.mpr ?_
  simp only [List.mem_cons,List.not_mem_nil,or_false]
  omega
section
--! fast
variable {P : Program} {w : World} {K : PySem.W.Frag} {mg : Str→Option Value} {base : Heap} {f : Addr} {fd : FuncData} (B : Bn mg)
include B
theorem ok_figure (F : Fun K "_law_figure" "_law_figure" s_figure f fd) : FnOk P w K mg base CX0 1 f fd p_figure spFigure:=by
  refine F.ok sc_figure (fun vs H Q E h=>?_) (fun cdv A outer s H vs Q E hr h=>?_)
  · obtain ⟨z,rfl,_⟩:=h; rfl
  obtain ⟨z,rfl,ha,hl,q⟩:=h
  refine ⟨_,(pss_cons (ps_if (pt_not (pt_chain op_lt op_lt pe_int (pe_callB call_len_str rfl B.len PySem.boot_len (pa_c (pv 0) pa_nil)) pe_int)) (pss_one (ps_ret pe_non)) pss_nil)
    (pss_cons (ps_for PassesOwn.never rfl (pi_str (pv 0)) (pg_name (i:=1) sc_figure.nd rfl (Or.inl rfl)) (pss_one (ps_if (pt_cmpR op_notIn_str (pv 1) pe_str rfl) (pss_one (ps_ret pe_non)) pss_nil)))
    (pss_one (ps_ret (pe_ifExp (pt_cmpR op_eq (pe_callTy call_str1 rfl B.str PyProof.Rows.boot_str (pa_c (pe_callTy call_intT rfl B.int PyProof.Rows.boot_int (pa_c (pv 0) pa_nil)) pa_nil)) (pv 0) (nomark _)) (pe_callTy call_intT rfl B.int PyProof.Rows.boot_int (pa_c (pv 0) pa_nil)) pe_non))))),?_⟩
  have hz : z.length≤sizeLine:=by rw [sizeLine_eq]; omega
  have asc : z.cps.all (· < 128)=true:=by
    rw [← Array.all_toList,List.all_eq_true]
    exact fun c hc=>decide_eq_true (ha c hc)
  refine tIf_ways (decide (¬ (0 < z.length∧z.length < 8))) (fun Q' k=>?_) (fun b1=>?_) (fun b1=>?_)
  · refine ⟨_,rfl,z,rfl,hz,_,_,rfl,rfl,_,rfl,?_⟩
    by_cases c1 : 0 < z.length
    · refine (if_pos (decide_eq_true (show (0 : Int) < (z.length : Int) by omega))).mpr ⟨_,_,rfl,rfl,_,rfl,?_⟩
      by_cases c2 : z.length < 8
      · rw [decide_eq_false (show ¬ ¬ (0 < z.length∧z.length < 8) from fun y=>y ⟨c1,c2⟩)] at k
        rw [decide_eq_true (show (z.length : Int) < 8 by omega)]
        exact k
      · rw [decide_eq_true (show ¬ (0 < z.length∧z.length < 8) from fun y=>c2 y.2)] at k
        rw [decide_eq_false (show ¬ (z.length : Int) < 8 by omega)]
        exact k
    · rw [decide_eq_true (show ¬ (0 < z.length∧z.length < 8) from fun y=>c1 y.1)] at k
      exact (if_neg (by rw [decide_eq_false (show ¬ (0 : Int) < (z.length : Int) by omega)]; decide)).mpr ⟨_,rfl,k⟩
  · have c:=of_decide_eq_true b1
    have n0 : figV z = .non:=if_neg fun y=>c ⟨((isNum_asc ha).mp y).1.1,((isNum_asc ha).mp y).1.2.1⟩
    rw [n0] at q
    exact q _ (Same.refl _)
  · obtain ⟨c1,c2⟩ : 0 < z.length∧z.length < 8:=by have:=of_decide_eq_false b1; exact Classical.not_not.mp this
    dsimp only [tNext]
    refine ⟨_,rfl,z,rfl,asc,for_str (fun i σ H'=>(∃ o1,σ=[some (.str z),o1])∧H' = H∧((cp z).take i).all digB=true) ⟨⟨_,rfl⟩,rfl,rfl⟩ ?_ ?_⟩
    · rintro i c σ H1 ec ⟨⟨o1,rfl⟩,rfl,al⟩
      have il : i < (cp z).length:=(List.getElem?_eq_some_iff.mp ec).1
      refine ⟨_,rfl,_,_,rfl,rfl,_,rfl,?_⟩
      rw [sign_in c]
      cases cd : digB c with
      | true=>
        refine iteF ⟨⟨_,rfl⟩,rfl,?_⟩
        rw [getElem_next ec,List.all_append,al,List.all_cons,cd]; rfl
      | false=>
        have n0 : figV z = .non:=if_neg fun y=>by
          have:=List.all_eq_true.mp ((isNum_asc ha).mp y).1.2.2 c (List.mem_of_getElem? ec)
          rw [cd] at this; cases this
        rw [n0] at q
        exact iteT (q _ (Same.refl _))
    · rintro σ H1 ⟨⟨o1,rfl⟩,rfl,al⟩
      rw [List.take_of_length_le (by rw [cp_len]; exact Nat.le_refl _)] at al
      have rd:=fig_read al c1 (by omega)
      have en : numOf z=((NumText.digitsVal (cp z) : Nat) : Int):=by unfold numOf; rw [rd]; rfl
      have lg : (numOf z).natAbs.log2 < 1920:=by
        have ad : NumText.AllDigits (cp z):=fun c hc=>of_decide_eq_true (List.all_eq_true.mp al c hc)
        have v:=val_lt z.length (cp z) (cp_len z) ad
        have : 10 ^ z.length≤10 ^ 7:=Nat.pow_le_pow_right (by decide) (by omega)
        exact num_log ⟨by omega,by omega⟩
      rw [← en] at rd
      refine ⟨_,rfl,z,_,rfl,rd,by omega,.int (numOf z),txtN (numOf z),rfl,rfl,fun m y=>by cases y; exact lg,_,rfl,rfl,_,rfl,?_⟩
      by_cases cb : txtN (numOf z)=z
      · have n1 : figV z = .int (numOf z):=if_pos ((isNum_asc ha).mpr ⟨⟨c1,c2,al⟩,rd,cb⟩)
        rw [n1] at q
        rw [decide_eq_true (congrArg V.str cb)]
        exact iteT ⟨_,rfl,z,_,rfl,rd,by omega,q _ (Same.refl _)⟩
      · have n1 : figV z = .non:=if_neg fun y=>cb ((isNum_asc ha).mp y).2.2
        rw [n1] at q
        rw [decide_eq_false (fun y=>cb (V.str.inj y))]
        exact iteF (q _ (Same.refl _))
theorem ok_figures (G_figure : Cal P w K mg base CX0 1 "_law_figure" p_figure spFigure) (F : Fun K "_law_figures" "_law_figures" s_figures f fd) : FnOk P w K mg base CX0 2 f fd p_figures spFigures:=by
  refine F.ok sc_figures (fun vs H Q E h=>?_) (fun cdv A outer s H vs Q E hr h=>?_)
  · obtain ⟨l,zs,rfl,_⟩:=h; rfl
  obtain ⟨l,zs,rfl,hl,hn,hz,q1,q2⟩:=h
  refine ⟨_,(pss_cons (ps_setComp (i:=1) sc_figures.nd rfl (Or.inl rfl) (N':=["_law_word"]) (ix:=[none]) (g:=(gName 0)) (ti:=tIf0) (te:=(tCall spFigure [] E0 (tCons (tVar 0) tNil))) rfl (comp_scope (N:=n_figures) (D:=defScope s_figures) (by decide +kernel)) (pi_list (pv 0)) (fun C s H fp=>(pg_name (i:=0) (show (["_law_word"] : List Str).Nodup by decide +kernel) rfl (Or.inl rfl))) (fun C s H fp=>pifs_nil) (fun C s H fp=>(pe_cal G_figure hr rfl pass0 (pa_c (pv 0) pa_nil))))
    (pss_one (ps_ret (pe_ifExp (pt_cmpR op_in_seq pe_non (pv 1) rfl) pe_non (pv 1))))),?_⟩
  have at' : ∀ {i : Nat} {x : V},(zs.map V.str)[i]? = some x→∃ z,x = .str z∧zs[i]? = some z:=fun {i x} e=>by
    rw [List.getElem?_map] at e
    cases ez : zs[i]? with
    | none=>rw [ez] at e; cases e
    | some z=>rw [ez] at e; cases e; exact ⟨z,rfl,rfl⟩
  refine ⟨_,rfl,l,rfl,⟨_,SqL.of hl⟩,fun D hD=>?_⟩
  refine comp_by (fun i us _=>us=(zs.take i).map figV) hD hl (by rw [List.length_map]; omega) (fun i zs H H' h _=>h) rfl (fun i x us H1 ei s1 eu K1 K2 k1 k2=>?_) fun us H1 s1 eu lz eD=>?_
  · obtain ⟨z,rfl,ez⟩:=at' ei
    have hzz:=hz z (List.mem_of_getElem? ez)
    refine ⟨keep_set keep_refl rfl,_,rfl,z,rfl,hzz.1,hzz.2,fun H4 s4=>k1 _ _ s4 ?_⟩
    rw [eu,getElem_next ez,List.map_append]; rfl
  rw [List.length_map,List.take_length] at eu
  subst eu
  refine ⟨_,rfl,D,_,rfl,.inl (SqL.of eD),rfl,?_,_,rfl,?_⟩
  · rw [List.all_map,List.all_eq_true]
    intro z _
    show flatV (figV z)=true
    unfold figV
    split <;> rfl
  have fn : ∀ z,eqV (figV z) .non = !isNum z:=fun z=>by
    unfold figV
    cases isNum z <;> rfl
  have ie : inV .non (zs.map figV) = !zs.all isNum:=by
    unfold inV
    rw [List.any_map]
    clear eD lz hl hn hz q1 q2 at'
    induction zs with
    | nil=>rfl
    | cons z zs ih=>
      rw [List.any_cons,List.all_cons,ih,Bool.not_and]
      congr 1
      exact fn z
  rw [ie]
  cases ca : zs.all isNum with
  | false=>exact iteT (q2 ca _ s1)
  | true=>
    refine iteF ⟨_,rfl,q1 ca D H1 hD s1 ?_⟩
    show H1 D=some (.lst ((zs.map numOf).map V.int))
    rw [eD,List.map_map]
    refine congrArg _ (congrArg _ (List.map_congr_left fun z hz=>?_))
    show figV z = .int (numOf z)
    exact if_pos (List.all_eq_true.mp ca z hz)
def spRead : Sp:=fun vs H Q _=>∃ z,vs=[.str z]∧Asc z∧z.length≤100000∧(Txt.split z sp).length≤900∧
  (∀ d,readD (Txt.split z sp)=some d→∀ p H',Same H H'→DdAt H' p d→Q (.ref p) H')∧(readD (Txt.split z sp)=none→∀ H',Same H H'→Q .non H')
theorem ok_read (G_figures : Cal P w K mg base CX0 2 "_law_figures" p_figures spFigures) (F : Fun K "_law_read" "_law_read" s_read f fd) : FnOk P w K mg base CX0 3 f fd p_read spRead:=by
  refine F.ok sc_read (fun vs H Q E h=>?_) (fun cdv A outer s H vs Q E hr h=>?_)
  · obtain ⟨z,rfl,_⟩:=h; rfl
  obtain ⟨z,rfl,ha,hl,hn,q1,q2⟩:=h
  refine ⟨_,(pss_cons (ps_set (i:=1) sc_read.nd rfl (Or.inl rfl) (pe_bm PySem.F.plainAttrs_str PySem.F.slot_str_split PySem.F.type_str_split mt_split (pv 0) (pa_c pe_str pa_nil)))
    (pss_cons (ps_set (i:=2) sc_read.nd rfl (Or.inr rfl) (pe_cal G_figures hr rfl pass0 (pa_c (pe_slice sl_list (pv 1) (po_some pe_int) po_none) pa_nil)))
    (pss_cons (ps_set (i:=3) sc_read.nd rfl (Or.inl rfl) (pe_disp (pps_cons pe_str pe_int (pps_cons pe_str pe_int (pps_cons pe_str pe_int (pps_cons pe_str pe_int (pps_cons pe_str pe_int (pps_cons pe_str pe_int (pps_cons pe_str pe_int pps_nil))))))) rfl rfl (fun z=>nomatch z) (by decide)))
    (pss_cons (ps_if (pt_cmpR op_isN (pv 2) pe_non (nomark _)) (pss_one (ps_ret pe_non)) pss_nil)
    (pss_cons (ps_if (PW.pt (pw_and (pt_cmpR op_eq (pe_ix ix_list (pv 1) pe_int (fun _ _=>rfl)) pe_str (nomark _)) (pw_and (pt_cmpR (op_neL hr.units) (pv 2) (pe_lst pa_nil) (nomark _)) (pw_and1 (pt_cmpR op_eq (pe_op op_mod (pe_callB call_len_seq rfl B.len PySem.boot_len (pa_c (pv 2) pa_nil)) pe_int) pe_int (nomark _)))))) (pss_one (ps_ret (pe_tup (pa_c pe_str (pa_c (pe_callTy call_tuple_of rfl B.tuple PyProof.Rows.boot_tuple (pa_c (pe_comp (N':=["_law_at","_law_numbers"]) (ix:=[none,some 2]) (g:=(gName 0)) (ti:=(tTest (tOp rEq (tOp (rI (fun _ j=>0 < j) fun i j=>.int (i % j)) (tVar 0) (tC (.int 2))) (tC (.int 0))))) (te:=(tTup (tCons (tOp (rIxL K) (tVar 1) (tVar 0)) (tCons (tOp (rIxL K) (tVar 1) (tOp (rI0 fun i j=>.int (i + j)) (tVar 0) (tC (.int 1)))) tNil)))) rfl (comp_scope (N:=n_read) (D:=defScope s_read) (by decide +kernel)) (pi_range1 rfl B.range (pa_c (pe_callB call_len_seq rfl B.len PySem.boot_len (pa_c (pv 2) pa_nil)) pa_nil)) (fun C s H fp=>(pg_name (i:=0) (show (["_law_at","_law_numbers"] : List Str).Nodup by decide +kernel) rfl (Or.inl rfl))) (fun C s H fp=>(pifs_one (pt_cmpR op_eq (pe_op op_mod (pv 0) pe_int) pe_int (nomark _)))) (fun C s H fp=>(pe_tup (pa_c (pe_ix ix_list (pv 1) (pv 0) (fun _ _=>rfl)) (pa_c (pe_ix ix_list (pv 1) (pe_op op_add (pv 0) pe_int) (fun _ _=>rfl)) pa_nil))))) pa_nil)) pa_nil))))) pss_nil)
    (pss_cons (ps_if (PW.pt (pw_or (pt_cmp (pc_dnotin (hu_of hr) (pe_ix ix_list (pv 1) pe_int (fun _ _=>rfl)) (pv 3))) (pw_or1 (pt_cmpR op_ne (pe_dget (hu_of hr) (pv 3) (pe_ix ix_list (pv 1) pe_int (fun _ _=>rfl)) (fun _ _=>rfl)) (pe_callB call_len_seq rfl B.len PySem.boot_len (pa_c (pv 2) pa_nil)) (nomark _))))) (pss_one (ps_ret pe_non)) pss_nil)
    (pss_one (ps_ret (pe_op op_addT (pe_tup (pa_c (pe_ix ix_list (pv 1) pe_int (fun _ _=>rfl)) pa_nil)) (pe_callTy call_tuple_of rfl B.tuple PyProof.Rows.boot_tuple (pa_c (pv 2) pa_nil))))))))))),?_⟩
  obtain ⟨x,ws,ew⟩ : ∃ x ws,Txt.split z sp=x :: ws:=by
    cases e : Txt.split z sp with
    | nil=>exact absurd e (split_ne z)
    | cons x ws=>exact ⟨x,ws,rfl⟩
  have asw : ∀ y∈Txt.split z sp,Asc y∧y.length≤100000:=fun y hy=>⟨split_asc ha y hy,by have:=PyProof.Rows.part_short hy; omega⟩
  refine ⟨_,rfl,rfl,z,Str.ofString " ",rfl,rfl,by decide +kernel,by rw [sizeLine_eq]; omega,by rw [spT]; exact Nat.le_of_lt (small1000 (by omega)),fun wl hwl=>?_⟩
  rw [spT,ew]
  rw [ew] at hn q1 q2 asw
  rw [List.length_cons] at hn
  have s0:=same_new (H:=H) hwl (.lst ((x :: ws).map V.str))
  have e0 : L2.upd H wl (.lst ((x :: ws).map V.str)) wl=some (.lst (.str x :: ws.map V.str)):=upd_same
  generalize L2.upd H wl (.lst ((x :: ws).map V.str))=H0 at *
  refine ⟨_,rfl,1,rfl,wl,_,rfl,SqL.of e0,fun l1 hl1=>?_⟩
  have ec : cutV (.str x :: ws.map V.str) (some 1) none=ws.map V.str:=by unfold cutV; simp [HT.sIx,List.take_of_length_le]
  rw [ec]
  have s1:=s0.trans (same_new hl1 (.lst (ws.map V.str)))
  have ew1:=same_new hl1 (.lst (ws.map V.str)) _ _ e0
  have e1 : L2.upd H0 l1 (.lst (ws.map V.str)) l1=some (.lst (ws.map V.str)):=upd_same
  generalize L2.upd H0 l1 (.lst (ws.map V.str))=H1 at *
  have wa : atI (V.str x :: ws.map V.str) 0=some (.str x):=atI_some (by decide) rfl
  refine ⟨l1,ws,rfl,e1,by omega,fun y hy=>asw y (.tail _ hy),fun ca nl H2 hnl s2 I2=>?_,fun ca H2 s2=>?_⟩
  · have S2:=s1.trans s2
    rw [readD_cons,if_pos ca] at q1 q2
    have ln : (ws.map numOf).length=ws.length:=List.length_map _
    generalize hns : ws.map numOf=ns at *
    refine fun dp hdp=>⟨upd_same,kvsOf nums,rfl,by decide,?_⟩
    rw [upd_upd]
    have s3:=same_new (H:=H2) hdp (.dK (mergeK [] (kvsOf nums)))
    have e3 : L2.upd H2 dp (.dK (mergeK [] (kvsOf nums))) dp=some (.dK (mergeK [] (kvsOf nums))):=upd_same
    have em : mergeK [] (kvsOf nums)=kvsOf nums:=by decide +kernel
    rw [em] at s3 e3 ⊢
    generalize L2.upd H2 dp (.dK (kvsOf nums))=H3 at *
    have S3:=S2.trans s3
    have I3 : IntsAt H3 nl ns:=s3 _ _ I2
    have ew3:=s3 _ _ (s2 _ _ ew1)
    refine ⟨_,rfl,rfl,_,rfl,?_⟩
    rw [decide_eq_false (show ¬ V.ref nl=V.non from fun y=>nomatch y)]
    refine iteF ?_
    dsimp only [tNext]
    refine tIf_by (decide (x=madeT∧ws≠[]∧ws.length % 2=0)) (fun Q' k=>?_) (fun b1 H4 s4=>?_) (fun b1 H4 s4=>?_)
    · refine ⟨_,rfl,wl,_,_,.str x,rfl,rfl,SqL.of ew3,wa,rfl,_,rfl,?_⟩
      by_cases c1 : x=madeT
      · refine (if_pos (decide_eq_true (show V.str x=V.str (Str.ofString "made") from congrArg V.str c1))).mpr ?_
        refine ⟨_,rfl,by show 0≤sizeLine; decide,fun el hel=>?_⟩
        have s4:=same_new (H:=H3) hel (.lst [])
        refine ⟨nl,el,_,_,rfl,rfl,SqL.of (s4 _ _ I3),SqL.of upd_same,?_⟩
        by_cases c2 : ws=[]
        · rw [decide_eq_false (fun y=>y.2.1 c2)] at k
          have n0 : ns=[]:=by rw [← hns,c2]; rfl
          subst n0
          exact .inr ⟨rfl,0,fun _=>true,by decide,fun j x y e=>(by cases e),_,rfl,(if_neg (by decide)).mpr (k _ s4)⟩
        · have n0 : (ns.map V.int).length≠([] : List V).length:=fun y=>c2 (List.length_eq_zero_iff.mp (by rw [← ln,← List.length_map (f:=V.int)]; exact y))
          refine .inl ⟨n0,_,rfl,(if_pos rfl).mpr ?_⟩
          refine ⟨_,rfl,nl,_,rfl,.inl (SqL.of (s4 _ _ I3)),_,_,rfl,rfl,(by show (0 : Int) < 2; decide),rfl,_,rfl,?_⟩
          rw [List.length_map,ln]
          by_cases c3 : ws.length % 2=0
          · rw [decide_eq_true ⟨c1,c2,c3⟩] at k
            rw [decide_eq_true (show V.int ((ws.length : Int) % 2)=V.int 0 by congr 1; omega)]
            exact k _ s4
          · rw [decide_eq_false (fun y=>c3 y.2.2)] at k
            rw [decide_eq_false (show ¬ V.int ((ws.length : Int) % 2)=V.int 0 from fun y=>c3 (by have:=V.int.inj y; omega))]
            exact k _ s4
      · rw [decide_eq_false (fun y=>c1 y.1)] at k
        exact (if_neg (by rw [decide_eq_false (show ¬ V.str x=V.str (Str.ofString "made") from fun y=>c1 (V.str.inj y))]; decide)).mpr (k _ (Same.refl _))
    · have c:=of_decide_eq_true b1
      rw [if_pos c] at q1
      have I4 : IntsAt H4 nl ns:=s4 _ _ I3
      obtain ⟨m,em2⟩ : ∃ m,ns.length=2 * m:=⟨ws.length / 2,by rw [ln]; omega⟩
      refine ⟨_,rfl,nl,_,rfl,.inl (SqL.of I4),_,rfl,by omega,by rw [List.length_map]; omega,fun D hD=>?_⟩
      refine comp_rngFD (n:=((ns.map V.int).length : Int).toNat) (fun i zs H'=>Tups H' zs (evP ns i)) hD (by rw [List.length_map]; omega) (fun i zs H H' h nl' hk=>h.keep fun p z e=>hk _ _ (fun y=>by subst y; rcases nl' with n | ⟨_,n⟩ <;> rw [n] at e <;> cases e) e) Tups.nil (fun i zs H5 hi hz s5 h5 K1 K2 k1 k2=>?_) fun zs H5 s5 h5 lz eD=>?_
      · rw [List.length_map] at hi
        have hi : i < ns.length:=by omega
        have I5 : IntsAt H5 nl ns:=s5 _ _ I4
        refine ⟨keep_set keep_refl rfl,?_⟩
        refine ⟨_,rfl,_,_,rfl,rfl,(by show (0 : Int) < 2; decide),rfl,_,rfl,?_⟩
        by_cases c2 : i % 2=0
        · rw [decide_eq_true (show V.int ((0 + (i : Int)) % 2)=V.int 0 by congr 1; omega)]
          have hi1 : i + 1 < ns.length:=by omega
          refine iteT ⟨_,rfl,_,rfl,nl,_,_,_,rfl,rfl,SqL.of I5,atI_ints (i:=i) (by omega) hi,_,rfl,_,rfl,_,_,rfl,rfl,nl,_,_,_,rfl,rfl,SqL.of I5,atI_ints (i:=i + 1) (by omega) hi1,by show 2≤sizeLine; decide,fun tp htp=>?_⟩
          have s6:=same_new (H:=H5) htp (.tup [.int ns[i],.int ns[i + 1]])
          refine k1 _ _ s6 ?_
          rw [evP_next,if_pos c2,List.getD_eq_getElem?_getD,List.getElem?_eq_getElem hi,List.getD_eq_getElem?_getD,List.getElem?_eq_getElem hi1]
          exact (h5.same s6).cat (Tups.one (r:=[ns[i],ns[i + 1]]) upd_same)
        · rw [decide_eq_false (show ¬ V.int ((0 + (i : Int)) % 2)=V.int 0 from fun y=>c2 (by have:=V.int.inj y; omega))]
          exact iteF (k2 _ (Same.refl _) (by rw [evP_next,if_neg c2,List.append_nil]; exact h5))
      · rw [show ((ns.map V.int).length : Int).toNat=2 * m by rw [List.length_map,em2]; omega,evP_two m ns em2] at h5
        refine ⟨D,_,rfl,.inl ⟨SqL.of eD,fun t ht=>⟨by show 2≤sizeLine; decide,fun pp hpp=>?_⟩⟩⟩
        have s6:=same_new (H:=H5) ht (.tup zs)
        have s7:=same_new hpp (.tup [.str (Str.ofString "made"),.ref t])
        exact q1 _ rfl pp _ (((S3.trans s4).trans s5).trans (s6.trans s7)) ⟨t,zs,upd_same,s7 _ _ upd_same,(h5.same s6).same s7⟩
    · have c:=of_decide_eq_false b1
      rw [if_neg c] at q1 q2
      have I4 : IntsAt H4 nl ns:=s4 _ _ I3
      have ew4:=s4 _ _ ew3
      have e4:=s4 _ _ e3
      have S4:=S3.trans s4
      dsimp only [tNext]
      refine tIf_ways (decide (¬ sizeOfN x=some ((ws.length : Nat) : Int))) (fun Q' k=>?_) (fun b2=>?_) (fun b2=>?_)
      · have dg:=DGet.k (k:=.inr x) e4
        rw [size_val] at dg
        refine ⟨_,rfl,wl,_,_,.str x,rfl,rfl,SqL.of ew4,wa,_,rfl,dp,_,rfl,dg,_,rfl,?_⟩
        cases es : sizeOfN x with
        | none=>
          rw [es,decide_eq_true (show ¬ (none : Option Int)=some ((ws.length : Nat) : Int) from fun y=>nomatch y)] at k
          exact (if_pos rfl).mpr k
        | some n=>
          rw [es] at dg k
          refine (if_neg (show ¬ (!(Option.map V.int (some n)).isSome)=true from Bool.false_ne_true)).mpr ?_
          refine ⟨_,rfl,_,rfl,wl,_,_,.str x,rfl,rfl,SqL.of ew4,wa,dp,.int n,rfl,dg,_,rfl,nl,_,rfl,.inl (SqL.of I4),rfl,_,rfl,?_⟩
          rw [List.length_map,ln]
          by_cases c3 : n=((ws.length : Nat) : Int)
          · rw [decide_eq_false (show ¬ ¬ some n=some ((ws.length : Nat) : Int) from fun y=>y (congrArg some c3))] at k
            rw [decide_eq_true (congrArg V.int c3)]
            exact k
          · rw [decide_eq_true (show ¬ some n=some ((ws.length : Nat) : Int) from fun y=>c3 (Option.some.inj y))] at k
            rw [decide_eq_false (show ¬ V.int n=V.int ((ws.length : Nat) : Int) from fun y=>c3 (V.int.inj y))]
            exact k
      · have c2:=of_decide_eq_true b2
        rw [if_neg c2] at q2
        exact q2 rfl _ S4
      · have c2 : sizeOfN x=some ((ws.length : Nat) : Int):=Classical.not_not.mp (of_decide_eq_false b2)
        rw [if_pos c2] at q1
        dsimp only [tNext]
        refine ⟨_,rfl,wl,_,_,.str x,rfl,rfl,SqL.of ew4,wa,by show 1≤sizeLine; decide,fun t1 ht1=>?_⟩
        have s5:=same_new (H:=H4) ht1 (.tup [.str x])
        refine ⟨_,rfl,nl,_,rfl,.inl ⟨SqL.of (s5 _ _ I4),fun t2 ht2=>?_⟩⟩
        have s6:=same_new ht2 (.tup (ns.map V.int))
        refine ⟨t1,t2,_,_,rfl,rfl,s6 _ _ upd_same,upd_same,Nat.le_of_lt (small1000 (by rw [List.length_map,ln]; show 1 + _≤1000; omega)),fun pp H' s' e'=>?_⟩
        exact q1 _ rfl pp H' ((S4.trans (s5.trans s6)).trans s') e'
  · refine fun dp hdp=>⟨upd_same,kvsOf nums,rfl,by decide,?_⟩
    rw [upd_upd]
    refine ⟨_,rfl,rfl,_,rfl,?_⟩
    rw [decide_eq_true (show V.non=V.non from rfl)]
    exact iteT (q2 (by rw [readD_cons,if_neg (by rw [ca]; decide)]) _ ((s1.trans s2).trans (same_new hdp _)))
theorem ok_told {cl : Nat→Addr} (T : Txt K mg cl) (Y : XcL K cl [24,25]) (G_read_deed : Cal P w K mg base (CXE P w) 3 "read_deed" p_read_deed (spReadDeed cl)) (F : Fun K "_law_told" "_law_told" s_told f fd) : FnOk P w K mg base CX0 4 f fd p_told spRead:=by
  refine F.ok sc_told (fun vs H Q E h=>?_) (fun cdv A outer s H vs Q E hr h=>?_)
  · obtain ⟨z,rfl,_⟩:=h; rfl
  obtain ⟨z,rfl,ha,hl,hn,q1,q2⟩:=h
  refine ⟨_,(pss_cons (ps_set (i:=1) sc_told.nd rfl (Or.inl rfl) pe_non)
    (pss_cons (ps_tryE (i:=2) (E:=saidE [24,25] H cl (ansT z)) sc_told.nd rfl rfl rfl rfl rfl T.gCustomsError rfl rfl (saidP Y)
    (fun pn xe hps=>(pss_one (ps_set (i:=1) sc_told.nd rfl (Or.inl rfl) (pe_cal G_read_deed hr rfl hps (pa_c (pv 0) pa_nil)))))
    (fun e=>(pss_cons (ps_set (i:=1) sc_told.nd rfl (Or.inl rfl) pe_str)
      (pss_one (ps_if (PW.pt (pw_and (pt_truth (pe_callB call_isX rfl B.isi PyProof.Rows.boot_isinstance (pa_c (pv 2) (pa_c (pe_glob rfl T.gBadText (v:=.ref (cl 24)) rfl) pa_nil))) (fun _=>rfl)) (pw_and (pt_truth (pe_callB call_isX rfl B.isi PyProof.Rows.boot_isinstance (pa_c (pv 2) (pa_c (pe_bltn rfl B.verr boot_VE (v:=.ty "ValueError") rfl) pa_nil))) (fun _=>rfl)) (pw_and1 (pt_not (pt_truth (pe_callB call_isX rfl B.isi PyProof.Rows.boot_isinstance (pa_c (pv 2) (pa_c (pe_glob rfl T.gBadMinutes (v:=.ref (cl 25)) rfl) pa_nil))) (fun _=>rfl))))))) (pss_one (ps_set (i:=1) sc_told.nd rfl (Or.inl rfl) pe_non)) pss_nil)))))
    (pss_one (ps_ret (pv 1))))),?_⟩
  refine ⟨?_,?_⟩
  · refine ⟨_,rfl,z,rfl,by omega,hn,fun x hx=>⟨by have:=PyProof.Rows.part_short hx; omega,fun b=>⟨_,((isNum_asc (split_asc ha x hx)).mp b).2.1⟩⟩,fun d ed p H' hp s' hd=>⟨_,rfl,q1 d ed p H' s' hd⟩,fun e0 H' s'=>⟨s',24,by decide,rfl,by unfold ansT; rw [e0]; rfl⟩⟩
  · rintro C e H1 ⟨sm,n,hn',hC,ha'⟩ he
    cases hC
    obtain ⟨rfl,er⟩ : n=24∧readD (Txt.split z sp)=none:=by
      unfold ansT at ha'
      split at ha'
      · cases ha'
      · rename_i h0
        cases ha'
        refine ⟨rfl,?_⟩
        cases e : readD (Txt.split z sp) with
        | none=>rfl
        | some d=>rw [e] at h0; exact absurd rfl h0
    have s1 : Same H (L2.upd H1 e (.ext (IsX e (.ref (cl 24))))):=sm.trans (same_new he _)
    have e1:=upd_same (H:=H1) (a:=e) (o:=.ext (IsX e (.ref (cl 24))))
    refine ⟨_,rfl,e,_,_,_,_,rfl,rfl,e1,Y.x 24 (by decide),Y.d 24 (by decide) 24 (by decide),_,rfl,?_⟩
    refine (if_pos (by decide)).mpr ⟨_,rfl,e,_,_,_,true,rfl,rfl,e1,Y.x 24 (by decide),Y.v 24 (by decide),_,rfl,?_⟩
    refine (if_pos rfl).mpr ⟨_,rfl,e,_,_,_,_,rfl,rfl,e1,Y.x 24 (by decide),Y.d 24 (by decide) 25 (by decide),_,rfl,?_⟩
    refine iteT ?_
    exact ⟨_,rfl,q2 er _ s1⟩
end
end K55
namespace L2
open PySem
def tot : List Str→Nat
  | []=>0
  | x :: r=>x.length + 1 + tot r
theorem join_tot : ∀ {ws : List Str},ws≠[]→(Str.join sp ws).length + 1=tot ws
  | [],h=>absurd rfl h
  | [x],_=>rfl
  | x :: y :: r,_=>by
    have k:=join_tot (ws:=y :: r) (by simp)
    show (x ++ sp ++ Str.join sp (y :: r)).length + 1=x.length + 1 + tot (y :: r)
    rw [PySem.Str.length_append,PySem.Str.length_append,← k]
    have : sp.length=1:=by decide
    omega
theorem join_le (ws : List Str) : (Txt.join sp ws).length≤tot ws:=by
  show (Builtin.Str.glued sp ws).length≤_
  rw [StrLaws.glued_eq_join]
  cases ws with
  | nil=>exact Nat.zero_le _
  | cons x r=>have:=join_tot (ws:=x :: r) (by simp); omega
theorem split_tot (z : Str) : tot (Txt.split z sp)=z.length + 1:=by
  rw [← join_tot (split_ne z),StrLaws.join_split]
theorem tot_len : ∀ ws : List Str,ws.length≤tot ws
  | []=>Nat.le_refl _
  | x :: r=>by have:=tot_len r; show r.length + 1≤x.length + 1 + tot r; omega
theorem split_cnt (z : Str) : (Txt.split z sp).length≤z.length + 1:=by rw [← split_tot]; exact tot_len _
theorem tot_set : ∀ (ws : List Str) (i : Nat) (y : Str),tot (ws.set i y)≤tot ws + (y.length + 1)
  | [],i,y=>by cases i <;> exact Nat.zero_le _
  | x :: r,0,y=>by show y.length + 1 + tot r≤x.length + 1 + tot r + (y.length + 1); omega
  | x :: r,i + 1,y=>by have:=tot_set r i y; show x.length + 1 + tot (r.set i y)≤x.length + 1 + tot r + (y.length + 1); omega
theorem tot_at : ∀ {ws : List Str} {i : Nat} {y : Str},ws[i]? = some y→y.length + 1≤tot ws
  | [],_,_,e=>by cases e
  | x :: r,0,y,e=>by cases e; show _≤x.length + 1 + tot r; omega
  | x :: r,i + 1,y,e=>by have:=tot_at (ws:=r) (i:=i) e; show _≤x.length + 1 + tot r; omega
theorem tot_app : ∀ a b : List Str,tot (a ++ b)=tot a + tot b
  | [],b=>(Nat.zero_add _).symm
  | x :: a,b=>by have:=tot_app a b; show x.length + 1 + tot (a ++ b)=x.length + 1 + tot a + tot b; omega
theorem tot_erase : ∀ (ws : List Str) (i : Nat),tot (ws.eraseIdx i)≤tot ws
  | [],_=>Nat.le_refl _
  | x :: r,0=>by show tot r≤x.length + 1 + tot r; omega
  | x :: r,i + 1=>by have:=tot_erase r i; show x.length + 1 + tot (r.eraseIdx i)≤x.length + 1 + tot r; omega
theorem asc_app {x y : Str} (h1 : Asc x) (h2 : Asc y) : Asc (x ++ y):=fun c hc=>by
  unfold cp at hc
  rw [PySem.Str.cps_append,Array.toList_append] at hc
  exact (List.mem_append.mp hc).elim (h1 c) (h2 c)
theorem asc_join : ∀ {ws : List Str},(∀ y∈ws,Asc y)→Asc (Str.join sp ws)
  | [],_=>fun c hc=>by cases hc
  | [x],h=>h x (.head _)
  | x :: y :: r,h=>by
    show Asc (x ++ sp ++ Str.join sp (y :: r))
    exact asc_app (asc_app (h x (.head _)) (fun c hc=>by
      have e : c=32:=by simpa [cp,sp] using hc
      rw [e]; decide)) (asc_join fun z hz=>h z (.tail _ hz))
theorem asc_tjoin {ws : List Str} (h : ∀ y∈ws,Asc y) : Asc (Txt.join sp ws):=by
  show Asc (Builtin.Str.glued sp ws)
  rw [StrLaws.glued_eq_join]
  exact asc_join h
theorem asc_rep {z : Str} {n : Int} (h : Asc z) (h1 : 1≤n) : Asc (repS z n):=fun c hc=>h c (cp_rep h1 c hc)
theorem len_app (x y : Str) : (x ++ y).length=x.length + y.length:=PySem.Str.length_append x y
theorem Dd.ok.len2 {d : Dd} (h : d.ok) : d.line.length≤200:=by
  obtain ⟨x,ns,e,hn,hl,_,hx⟩:=h.nums
  have t : ∀ ns : List Int,(∀ n∈ns,okN n)→tot (ns.map txtN)≤8 * ns.length:=by
    intro ns
    induction ns with
    | nil=>intro _; exact Nat.le_refl _
    | cons n ns ih=>
      intro hn
      have k:=ih fun m hm=>hn m (.tail _ hm)
      have l:=num_len (hn n (.head _)).1 (hn n (.head _)).2
      show (txtN n).length + 1 + tot (ns.map txtN)≤8 * (ns.length + 1)
      omega
  have k:=t ns hn
  have j:=join_le d.words
  rw [e] at j
  have : tot (x :: ns.map txtN)=x.length + 1 + tot (ns.map txtN):=rfl
  show (Txt.join sp d.words).length≤200
  rw [e]
  omega
theorem Dd.ok.asc {d : Dd} (h : d.ok) : Asc d.line:=by
  obtain ⟨x,ns,e,hn,hl,_,hx⟩:=h.nums
  unfold Dd.line
  refine asc_tjoin fun y hy=>?_
  rw [e] at hy
  rcases List.mem_cons.mp hy with rfl | hy
  · cases d with
    | row x' ns'=>
      obtain ⟨rfl,_⟩:=List.cons.inj e
      obtain ⟨o1,_⟩:=h
      unfold L2.nums at o1
      simp only [List.mem_cons,List.not_mem_nil,or_false,Prod.mk.injEq] at o1
      unfold Asc
      rcases o1 with ⟨rfl,_⟩ | ⟨rfl,_⟩ | ⟨rfl,_⟩ | ⟨rfl,_⟩ | ⟨rfl,_⟩ | ⟨rfl,_⟩ | ⟨rfl,_⟩ <;> decide +kernel
    | made ps=>
      obtain ⟨rfl,_⟩:=List.cons.inj e
      unfold Asc
      decide +kernel
  · obtain ⟨n,m,rfl⟩:=List.mem_map.mp hy
    exact fun c hc=>by have:=num_signs (hn n m).1 hc; omega
theorem asc_slice {z : Str} (h : Asc z) (lo hi : Option Int) : Asc (Txt.slice z lo hi):=by
  unfold Txt.slice
  split
  · exact h
  · intro c hc
    unfold cp at hc
    simp only [List.mem_filterMap] at hc
    obtain ⟨i,_,e⟩:=hc
    exact h c (by unfold cp; rw [← Array.getElem?_toList] at e; exact List.mem_of_getElem? e)
end L2
namespace K55
open PySem L2
abbrev s_bent_line : Stmt:=top 16
abbrev n_bent_line : List Str:=["_law_draw","_law_line_here","_law_signs","_law_words","_law_at","_law_way","_law_odd"]
abbrev p_bent_line : List Str:=["_law_draw","_law_line_here"]
theorem sc_bent_line : FnScope n_bent_line p_bent_line (defScope s_bent_line):=⟨rfl,rfl,rfl,by decide +kernel,rfl,by decide +kernel,by decide +kernel⟩
def spBent : Sp:=fun vs H Q _=>∃ (a c : Addr) (z : Str),vs=[.ref a,.str z]∧DrawAt H a c∧Asc z∧z.length≤500∧∀ z' H',Asc z'→z'.length≤2 * (z.length + 1) + 10→DrawAt H' a c→KeepBut a H H'→Q (.str z') H'
def JB (a c wl : Addr) (z sg : Str) (at' way : Int) (ws0 : List Str) (H : Hp) (k : Int) : St→Hp→Prop:=fun σ H'=>∃ (ws : List Str) (o6 : Option V),σ=[some (.ref a),some (.str z),some (.str sg),some (.ref wl),some (.int at'),some (.int way),o6]∧DrawAt H' a c∧KeepBut a H H'∧H' wl=some (.lst (ws.map V.str))∧(∀ y∈ws,Asc y)∧tot ws≤2 * (z.length + 1) + 10∧(k≤way→ws=ws0)
theorem erase_map {α β : Type} (f : α→β) : ∀ (l : List α) (i : Nat),(l.map f).eraseIdx i=(l.eraseIdx i).map f
  | [],_=>rfl
  | _ :: _,0=>rfl
  | x :: l,i + 1=>by show f x :: (l.map f).eraseIdx i=f x :: (l.eraseIdx i).map f; rw [erase_map f l i]
theorem asc_set {ws : List Str} {i : Nat} {y : Str} (h : ∀ x∈ws,Asc x) (hy : Asc y) : ∀ x∈ws.set i y,Asc x:=fun x hx=>(List.mem_or_eq_of_mem_set hx).elim (h x) fun e=>e ▸ hy
def odds : List Str:=["","-1","0","9999999","10000000","raw","made","lay","1/2","+1","1_0","1.0","0x1"].map Str.ofString
theorem odds_asc : ∀ y∈odds,Asc y∧y.length≤8:=by unfold Asc; decide +kernel
theorem tot_mem {ws : List Str} {y : Str} (h : y∈ws) : y.length≤tot ws:=by
  obtain ⟨i,e⟩:=List.getElem?_of_mem h
  have:=tot_at e
  omega
theorem join_ok2 {zs : List Str} {n : Nat} (h : tot zs≤n) (hn : n≤2000) : JoinOk sp zs=true:=by
  unfold JoinOk
  rw [Bool.not_eq_true']
  refine StrLaws.joinFits (B:=2000) (fun y hy=>Nat.le_trans (tot_mem hy) (by omega)) ?_
  have : sp.length=1:=by decide
  have:=tot_len zs
  rw [‹sp.length=1›]
  omega
def JB2 (a c wl : Addr) (sg : Str) (way : Int) (z : Str) (H : Hp) : St→Hp→Prop:=fun σ H'=>∃ (y : Str) (at' : Int) (o6 : Option V),σ=[some (.ref a),some (.str y),some (.str sg),some (.ref wl),some (.int at'),some (.int way),o6]∧DrawAt H' a c∧KeepBut a H H'∧Asc y∧y.length≤2 * (z.length + 1) + 10
section
--! fast
variable {P : Program} {w : World} {K : PySem.W.Frag} {mg : Str→Option Value} {base : Heap} {f : Addr} {fd : FuncData} (B : Bn mg)
include B
theorem ok_bent_line (G_pick : Cal P w K mg base CX0 1 "_law_pick" p_pick spPick) (F : Fun K "_law_bent_line" "_law_bent_line" s_bent_line f fd) : FnOk P w K mg base CX0 2 f fd p_bent_line spBent:=by
  refine F.ok sc_bent_line (fun vs H Q E h=>?_) (fun cdv A outer s H vs Q E hr h=>?_)
  · obtain ⟨a,c,z,rfl,_⟩:=h; rfl
  obtain ⟨a,c,z,rfl,d,ha,hl,q⟩:=h
  refine ⟨_,(pss_cons (ps_set (i:=2) sc_bent_line.nd rfl (Or.inl rfl) pe_str)
    (pss_cons (ps_set (i:=3) sc_bent_line.nd rfl (Or.inl rfl) (pe_bm PySem.F.plainAttrs_str PySem.F.slot_str_split PySem.F.type_str_split mt_split (pv 1) (pa_c pe_str pa_nil)))
    (pss_cons (ps_set (i:=4) sc_bent_line.nd rfl (Or.inl rfl) (pe_cal G_pick hr rfl pass0 (pa_c (pv 0) (pa_c (pe_callB call_len_seq rfl B.len PySem.boot_len (pa_c (pv 3) pa_nil)) pa_nil))))
    (pss_cons (ps_set (i:=5) sc_bent_line.nd rfl (Or.inl rfl) (pe_cal G_pick hr rfl pass0 (pa_c (pv 0) (pa_c pe_int pa_nil))))
    (pss_cons (ps_if (pt_cmpR op_eq (pv 5) pe_int (nomark _)) (pss_one (ps_expr (pe_bm PySem.F.plainAttrs_list PySem.F.slot_list_insert PySem.F.type_list_insert mt_insert (pv 3) (pa_c (pv 4) (pa_c (pe_ix ix_list (pv 3) (pv 4) (fun _ _=>rfl)) pa_nil))))) pss_nil)
    (pss_cons (ps_if (pt_cmpR op_eq (pv 5) pe_int (nomark _)) (pss_one (ps_expr (pe_bm PySem.F.plainAttrs_list PySem.F.slot_list_pop PySem.F.type_list_pop mt_popAt (pv 3) (pa_c (pv 4) pa_nil)))) pss_nil)
    (pss_cons (ps_if (pt_cmpR op_eq (pv 5) pe_int (nomark _)) (pss_one (ps_asg (pe_op op_add_str pe_str (pe_ix ix_list (pv 3) (pv 4) (fun _ _=>rfl))) (pg_sub (pv 3) (pv 4) set_list))) pss_nil)
    (pss_cons (ps_if (pt_cmpR op_eq (pv 5) pe_int (nomark _)) (pss_one (ps_asg (pe_op op_add_str (pe_ix ix_list (pv 3) (pv 4) (fun _ _=>rfl)) (pe_op op_mulS (pe_ix ix_str pe_str (pe_cal G_pick hr rfl pass0 (pa_c (pv 0) (pa_c pe_int pa_nil))) (fun _ _=>rfl)) (pe_op op_add pe_int (pe_cal G_pick hr rfl pass0 (pa_c (pv 0) (pa_c pe_int pa_nil)))))) (pg_sub (pv 3) (pv 4) set_list))) pss_nil)
    (pss_cons (ps_if (pt_cmpR op_eq (pv 5) pe_int (nomark _)) (pss_cons (ps_set (i:=6) sc_bent_line.nd rfl (Or.inl rfl) (pe_lst (pa_c pe_str (pa_c pe_str (pa_c pe_str (pa_c pe_str (pa_c pe_str (pa_c pe_str (pa_c pe_str (pa_c pe_str (pa_c pe_str (pa_c pe_str (pa_c pe_str (pa_c pe_str (pa_c pe_str pa_nil)))))))))))))))
      (pss_one (ps_asg (pe_ix ix_list (pv 6) (pe_cal G_pick hr rfl pass0 (pa_c (pv 0) (pa_c pe_int pa_nil))) (fun _ _=>rfl)) (pg_sub (pv 3) (pv 4) set_list)))) pss_nil)
    (pss_cons (ps_set (i:=1) sc_bent_line.nd rfl (Or.inl rfl) (pe_bm PySem.F.plainAttrs_str PySem.F.slot_str_join PySem.F.type_str_join mt_join pe_str (pa_c (pv 3) pa_nil)))
    (pss_cons (ps_if (pt_cmpR op_gt (pv 5) pe_int (nomark _)) (pss_cons (ps_set (i:=4) sc_bent_line.nd rfl (Or.inl rfl) (pe_cal G_pick hr rfl pass0 (pa_c (pv 0) (pa_c (pe_op op_add (pe_callB call_len_str rfl B.len PySem.boot_len (pa_c (pv 1) pa_nil)) pe_int) pa_nil))))
      (pss_one (ps_set (i:=1) sc_bent_line.nd rfl (Or.inl rfl) (pe_op op_add_str (pe_op op_add_str (pe_slice sl_str (pv 1) po_none (po_some (pv 4))) (pe_ix ix_str (pv 2) (pe_cal G_pick hr rfl pass0 (pa_c (pv 0) (pa_c (pe_callB call_len_str rfl B.len PySem.boot_len (pa_c (pv 2) pa_nil)) pa_nil))) (fun _ _=>rfl))) (pe_slice sl_str (pv 1) (po_some (pe_op op_add (pv 4) (pe_cal G_pick hr rfl pass0 (pa_c (pv 0) (pa_c pe_int pa_nil))))) po_none))))) pss_nil)
    (pss_one (ps_ret (pv 1)))))))))))))),?_⟩
  obtain ⟨sg,esg⟩ : ∃ sg,sg=Str.ofString " !#$&'()*+,-./0123456789:;<=>?@ABCDEFGHIJKLMNOPQRSTUVWXYZ[]^_abcdefghijklmnopqrstuvwxyz{|}~" := ⟨_,rfl⟩
  rw [← esg]
  obtain ⟨ws0,e0⟩ : ∃ ws0,ws0=Txt.split z sp:=⟨_,rfl⟩
  have cnt:=split_cnt z
  have tt:=split_tot z
  have ne0:=split_ne z
  have as0:=split_asc ha
  rw [← e0] at cnt tt ne0 as0
  have l1 : 1≤ws0.length:=by cases ws0 with | nil=>exact absurd rfl ne0 | cons x r=>exact Nat.succ_le_succ (Nat.zero_le _)
  refine ⟨_,rfl,rfl,z,Str.ofString " ",rfl,rfl,by decide +kernel,by rw [sizeLine_eq]; omega,by rw [spT,← e0,sizeLine_eq]; omega,fun wl hwl=>?_⟩
  rw [spT,← e0]
  have d1:=d.new (o:=.lst (ws0.map V.str)) hwl
  have k1:=(KeepBut.refl (a:=a) (H:=H)).new (o:=.lst (ws0.map V.str)) hwl
  have e1 : L2.upd H wl (.lst (ws0.map V.str)) wl=some (.lst (ws0.map V.str)):=upd_same
  have nwa : wl≠a:=d.ne hwl
  have nwc : wl≠c:=d.nc hwl
  generalize L2.upd H wl (.lst (ws0.map V.str))=H1 at *
  refine ⟨_,rfl,_,rfl,wl,_,rfl,.inl (SqL.of e1),a,c,_,rfl,d1,by rw [List.length_map]; omega,by rw [List.length_map]; omega,fun at' H2 a0 a1 d2 kb2=>?_⟩
  rw [List.length_map] at a1
  refine ⟨_,rfl,a,c,8,rfl,d2,by decide,by decide,fun way H3 w0 w1 d3 kb3=>?_⟩
  have e3:=kb3 _ _ nwa (kb2 _ _ nwa e1)
  have k3:=(k1.trans kb2).trans kb3
  clear d1 d2 kb2 kb3 k1 e1 d
  have wx : at'.toNat < ws0.length:=by omega
  obtain ⟨wd,ewd⟩ : ∃ wd,ws0[at'.toNat]? = some wd:=⟨_,List.getElem?_eq_getElem wx⟩
  have aw:=as0 wd (List.mem_of_getElem? ewd)
  have tw:=tot_at ewd
  have ai : atI (ws0.map V.str) at' = some (.str wd):=atI_some a0 (by rw [List.getElem?_map,ewd]; rfl)
  have ix : ixN (ws0.map V.str).length at' = some at'.toNat:=by unfold ixN; rw [if_pos a0,if_pos (by rw [List.length_map]; omega)]
  have ix' : seqIndex? at' (ws0.map V.str).length=some at'.toNat:=seqIndex_of a0 (by rw [List.length_map]; omega)
  have aw' : (ws0.map V.str)[at'.toNat]? = some (.str wd):=by rw [List.getElem?_map,ewd]; rfl
  have zl : Str.ofString "0" = zeroT:=by decide +kernel
  have za : Asc zeroT:=by unfold Asc; decide
  have zn : zeroT.length=1:=by decide
  have hwl0 : H wl=none:=hwl
  dsimp only [gName]
  refine tSeq_by (JB a c wl z sg at' way ws0 H 1) (fun D' nx _=>?_) ?_
  · refine ⟨_,rfl,rfl,_,rfl,?_⟩
    by_cases cw : way=0
    · rw [decide_eq_true (congrArg V.int cw)]
      refine iteT ⟨_,rfl,.inl ⟨rfl,_,SqL.of e3⟩,_,rfl,_,rfl,_,rfl,wl,_,_,.str wd,rfl,rfl,SqL.of e3,ai,wl,_,at',_,rfl,rfl,e3,a0,by rw [List.length_map]; omega,by rw [List.length_map]; omega,?_⟩
      refine nx _ _ ⟨ws0.take at'.toNat ++ wd :: ws0.drop at'.toNat,_,rfl,d3.upd nwa nwc,k3.young hwl0,by rw [upd_same,List.map_append,List.map_cons,List.map_take,List.map_drop],fun y hy=>?_,?_,fun y=>by omega⟩
      · rcases List.mem_append.mp hy with m | m
        · exact as0 y (List.mem_of_mem_take m)
        · rcases List.mem_cons.mp m with rfl | m
          · exact aw
          · exact as0 y (List.mem_of_mem_drop m)
      · have e:=tot_app (ws0.take at'.toNat) (ws0.drop at'.toNat)
        rw [List.take_append_drop] at e
        rw [tot_app]
        show _ + (wd.length + 1 + tot (ws0.drop at'.toNat))≤_
        omega
    · rw [decide_eq_false (fun y=>cw (V.int.inj y))]
      exact iteF (nx _ _ ⟨ws0,_,rfl,d3,k3,e3,as0,by omega,fun _=>rfl⟩)
  clear e3 d3 k3
  rintro σ4 H4 ⟨ws,o6,rfl,d4,k4,e4,as4,t4,u4⟩
  refine tSeq_by (JB a c wl z sg at' way ws0 H 2) (fun D' nx _=>?_) ?_
  · refine ⟨_,rfl,rfl,_,rfl,?_⟩
    by_cases cw : way=1
    · rw [decide_eq_true (congrArg V.int cw)]
      obtain rfl:=u4 (by omega)
      refine iteT ⟨_,rfl,.inl ⟨rfl,_,SqL.of e4⟩,_,rfl,wl,_,at',at'.toNat,_,rfl,rfl,e4,by omega,by omega,ix',aw',?_⟩
      exact nx _ _ ⟨ws.eraseIdx at'.toNat,_,rfl,d4.upd nwa nwc,k4.young hwl0,by rw [upd_same,erase_map],fun y hy=>as0 y (List.mem_of_mem_eraseIdx hy),by have:=tot_erase ws at'.toNat; omega,fun y=>by omega⟩
    · rw [decide_eq_false (fun y=>cw (V.int.inj y))]
      exact iteF (nx _ _ ⟨ws,_,rfl,d4,k4,e4,as4,t4,fun y=>u4 (by omega)⟩)
  clear u4 e4 d4 k4 as4 t4
  rintro σ5 H5 ⟨ws,o6,rfl,d4,k4,e4,as4,t4,u4⟩
  refine tSeq_by (JB a c wl z sg at' way ws0 H 3) (fun D' nx _=>?_) ?_
  · refine ⟨_,rfl,rfl,_,rfl,?_⟩
    by_cases cw : way=2
    · rw [decide_eq_true (congrArg V.int cw)]
      obtain rfl:=u4 (by omega)
      refine iteT ⟨_,rfl,_,rfl,wl,_,_,.str wd,rfl,rfl,SqL.of e4,ai,_,_,rfl,rfl,by rw [zl,zn,sizeLine_eq]; omega,?_⟩
      refine ⟨_,rfl,_,rfl,wl,_,at',at'.toNat,rfl,rfl,e4,ix,?_⟩
      rw [zl]
      refine nx _ _ ⟨ws.set at'.toNat (zeroT ++ wd),_,rfl,d4.upd nwa nwc,k4.young hwl0,by rw [upd_same,List.map_set],asc_set as0 (asc_app za aw),?_,fun y=>by omega⟩
      have:=tot_set ws at'.toNat (zeroT ++ wd)
      rw [L2.len_app,zn] at this
      omega
    · rw [decide_eq_false (fun y=>cw (V.int.inj y))]
      exact iteF (nx _ _ ⟨ws,_,rfl,d4,k4,e4,as4,t4,fun y=>u4 (by omega)⟩)
  clear u4 e4 d4 k4 as4 t4
  rintro σ6 H6 ⟨ws,o6,rfl,d4,k4,e4,as4,t4,u4⟩
  refine tSeq_by (JB a c wl z sg at' way ws0 H 4) (fun D' nx _=>?_) ?_
  · refine ⟨_,rfl,rfl,_,rfl,?_⟩
    by_cases cw : way=3
    · rw [decide_eq_true (congrArg V.int cw)]
      obtain rfl:=u4 (by omega)
      refine iteT ⟨_,rfl,_,rfl,wl,_,_,.str wd,rfl,rfl,SqL.of e4,ai,_,rfl,a,c,10,rfl,d4,by decide,by decide,fun r H7 r0 r1 d7 kb7=>?_⟩
      obtain ⟨cc,ecc,hcc⟩ : ∃ cc,atI (Str.ofString "0123456789").cps.toList r=some cc∧cc < 128:=by
        have el : (Str.ofString "0123456789").cps.toList=[48,49,50,51,52,53,54,55,56,57]:=by decide +kernel
        rw [el]
        have : r=0∨r=1∨r=2∨r=3∨r=4∨r=5∨r=6∨r=7∨r=8∨r=9:=by omega
        rcases this with rfl | rfl | rfl | rfl | rfl | rfl | rfl | rfl | rfl | rfl <;> exact ⟨_,rfl,by decide⟩
      refine ⟨_,r,cc,rfl,rfl,by rw [sizeLine_eq]; decide +kernel,ecc,_,rfl,a,c,7,rfl,d7,by decide,by decide,fun r2 H8 r20 r21 d8 kb8=>?_⟩
      have e8:=kb8 _ _ nwa (kb7 _ _ nwa e4)
      have ac : Asc ⟨#[cc]⟩:=fun x hx=>by
        have : x=cc:=by simpa [cp] using hx
        omega
      have lr:=len_repS (z:=⟨#[cc]⟩) (n:=1 + r2) (by omega)
      have l1' : (⟨#[cc]⟩ : Str).length=1:=rfl
      rw [l1'] at lr
      refine ⟨_,_,rfl,rfl,?_⟩
      refine ⟨_,_,rfl,rfl,by omega,by omega,by rw [l1']; decide,_,_,rfl,rfl,by rw [sizeLine_eq]; omega,?_⟩
      refine ⟨_,rfl,_,rfl,wl,_,at',at'.toNat,rfl,rfl,e8,ix,?_⟩
      refine nx _ _ ⟨ws.set at'.toNat (wd ++ repS ⟨#[cc]⟩ (1 + r2)),_,rfl,d8.upd nwa nwc,((k4.trans kb7).trans kb8).young hwl0,by rw [upd_same,List.map_set],asc_set as0 (asc_app aw (asc_rep ac (by omega))),?_,fun y=>by omega⟩
      have:=tot_set ws at'.toNat (wd ++ repS ⟨#[cc]⟩ (1 + r2))
      rw [L2.len_app] at this
      omega
    · rw [decide_eq_false (fun y=>cw (V.int.inj y))]
      exact iteF (nx _ _ ⟨ws,_,rfl,d4,k4,e4,as4,t4,fun y=>u4 (by omega)⟩)
  clear u4 e4 d4 k4 as4 t4
  rintro σ7 H7 ⟨ws,o6,rfl,d4,k4,e4,as4,t4,u4⟩
  refine tSeq_by (JB a c wl z sg at' way ws0 H 5) (fun D' nx _=>?_) ?_
  · refine ⟨_,rfl,rfl,_,rfl,?_⟩
    by_cases cw : way=4
    · rw [decide_eq_true (congrArg V.int cw)]
      obtain rfl:=u4 (by omega)
      refine iteT ⟨by show 13≤sizeLine; decide,fun ol hol=>?_⟩
      have da:=d4.new (o:=.lst (odds.map V.str)) hol
      have kk:=k4.new (o:=.lst (odds.map V.str)) hol
      have ee : L2.upd H7 ol (.lst (odds.map V.str)) ol=some (.lst (odds.map V.str)):=upd_same
      have new : wl≠ol:=fun y=>by rw [← y,e4] at hol; cases hol
      have ew : L2.upd H7 ol (.lst (odds.map V.str)) wl=some (.lst (ws.map V.str)):=(upd_ne new).trans e4
      have nola : ol≠a:=d4.ne hol
      have nolc : ol≠c:=d4.nc hol
      have odm : ([.str (Str.ofString ""),.str (Str.ofString "-1"),.str (Str.ofString "0"),.str (Str.ofString "9999999"),.str (Str.ofString "10000000"),.str (Str.ofString "raw"),.str (Str.ofString "made"),.str (Str.ofString "lay"),.str (Str.ofString "1/2"),.str (Str.ofString "+1"),.str (Str.ofString "1_0"),.str (Str.ofString "1.0"),.str (Str.ofString "0x1")] : List V)=odds.map V.str:=rfl
      rw [odm]
      generalize L2.upd H7 ol (.lst (odds.map V.str))=H8 at *
      refine ⟨_,rfl,_,rfl,a,c,13,rfl,da,by decide,by decide,fun r H9 r0 r1 d9 kb9=>?_⟩
      have hx : r.toNat < odds.length:=by show r.toNat < 13; omega
      obtain ⟨y,ey⟩ : ∃ y,odds[r.toNat]? = some y:=⟨_,List.getElem?_eq_getElem hx⟩
      have ym:=List.mem_of_getElem? ey
      obtain ⟨ya,yl⟩:=odds_asc y ym
      have e9:=kb9 _ _ nwa ew
      refine ⟨ol,_,r,.str y,rfl,rfl,SqL.of (kb9 _ _ nola ee),atI_some r0 (by rw [List.getElem?_map,ey]; rfl),?_⟩
      refine ⟨_,rfl,_,rfl,wl,_,at',at'.toNat,rfl,rfl,e9,ix,?_⟩
      refine nx _ _ ⟨ws.set at'.toNat y,_,rfl,d9.upd nwa nwc,(kk.trans kb9).young hwl0,by rw [upd_same,List.map_set],asc_set as0 ya,?_,fun y=>by omega⟩
      have:=tot_set ws at'.toNat y
      omega
    · rw [decide_eq_false (fun y=>cw (V.int.inj y))]
      exact iteF (nx _ _ ⟨ws,_,rfl,d4,k4,e4,as4,t4,fun y=>u4 (by omega)⟩)
  clear u4 e4 d4 k4 as4 t4
  rintro σ8 H8 ⟨ws,o6,rfl,d4,k4,e4,as4,t4,u4⟩
  have jl:=join_le ws
  have ja:=asc_tjoin as4
  have jt : 5≤way→(Txt.join sp ws).length≤z.length + 1:=fun y=>by rw [← tt,← u4 y]; exact jl
  refine ⟨rfl,_,rfl,sp,wl,ws,rfl,rfl,SqL.of e4,join_ok2 t4 (by omega),?_⟩
  generalize Txt.join sp ws=y at *
  clear u4 e4 as4 nwa nwc
  dsimp only [gName]
  refine tSeq_by (JB2 a c wl sg way z H) (fun D' nx _=>?_) ?_
  · refine ⟨_,rfl,_,_,rfl,rfl,_,rfl,?_⟩
    by_cases cw : 4 < way
    · rw [decide_eq_true cw]
      have yl:=jt (by omega)
      refine iteT ⟨_,rfl,_,rfl,y,rfl,by rw [sizeLine_eq]; omega,_,_,rfl,rfl,a,c,_,rfl,d4,by omega,by omega,fun r H9 r0 r1 d9 kb9=>?_⟩
      have sgl : 1≤sg.length∧sg.length≤200:=by rw [esg]; decide +kernel
      have sga : Asc sg:=by rw [esg]; unfold Asc; decide +kernel
      refine ⟨_,rfl,_,rfl,r,rfl,y,rfl,by rw [sizeLine_eq]; omega,_,rfl,_,rfl,_,rfl,sg,rfl,by rw [sizeLine_eq]; omega,a,c,_,rfl,d9,by omega,by omega,fun r2 H10 r20 r21 d10 kb10=>?_⟩
      have hx : r2.toNat < sg.cps.toList.length:=by show r2.toNat < sg.length; omega
      obtain ⟨cc,ecc⟩ : ∃ cc,sg.cps.toList[r2.toNat]? = some cc:=⟨_,List.getElem?_eq_getElem hx⟩
      have ac : Asc ⟨#[cc]⟩:=fun x hx=>by
        have : x=cc:=by simpa [cp] using hx
        subst this
        exact sga x (List.mem_of_getElem? ecc)
      have l1' : (⟨#[cc]⟩ : Str).length=1:=rfl
      have s1:=Txt.slice_le y none (some r)
      refine ⟨sg,r2,cc,rfl,rfl,by rw [sizeLine_eq]; omega,(by have:=atI_nat ecc; rwa [show ((r2.toNat : Nat) : Int)=r2 by omega] at this),_,_,rfl,rfl,by rw [sizeLine_eq]; omega,?_⟩
      refine ⟨_,rfl,_,rfl,_,rfl,a,c,2,rfl,d10,by decide,by decide,fun r3 H11 r30 r31 d11 kb11=>?_⟩
      have s2:=Txt.slice_le y (some (r + r3)) none
      refine ⟨_,_,rfl,rfl,_,rfl,y,rfl,by rw [sizeLine_eq]; omega,_,_,rfl,rfl,by rw [sizeLine_eq,L2.len_app]; omega,?_⟩
      refine nx _ _ ⟨_,r,_,rfl,d11,((k4.trans kb9).trans kb10).trans kb11,asc_app (asc_app (asc_slice ja _ _) ac) (asc_slice ja _ _),?_⟩
      rw [L2.len_app,L2.len_app]
      omega
    · rw [decide_eq_false cw]
      exact iteF (nx _ _ ⟨y,_,_,rfl,d4,k4,ja,by omega⟩)
  rintro σ9 H9 ⟨y',r,o,rfl,d9,k9,ya,yl⟩
  exact ⟨_,rfl,q _ _ ya yl d9 k9⟩
end
end K55
namespace K55
open PySem L2
abbrev s_law : Stmt:=top 22
abbrev n_law : List Str:=["_law_script","_law_draw","_law_k","_law_line_here","_law_turn","_law_odd"]
abbrev p_law : List Str:=["_law_script"]
theorem sc_law : FnScope n_law p_law (defScope s_law):=⟨rfl,rfl,rfl,by decide +kernel,rfl,by decide +kernel,by decide +kernel⟩
def spLaw (K : PySem.W.Frag) : Sp:=fun vs H Q _=>∃ (a : Addr) (ns : List Int),vs=[.ref a]∧SqL K H a (ns.map V.int)∧ns.length≤63∧∀ H',Q (.bl true) H'
def Few : Dd→Prop
  | .row _ ns=>ns.length≤900
  | .made ps=>ps.length≤900
theorem pairs_len (l : List Int) : (pairs2 l).length≤l.length:=by
  unfold pairs2
  rw [List.length_zip]
  have:=evs_len l
  omega
theorem readD_few {ws : List Str} {d : Dd} (h : readD ws=some d) (hl : ws.length≤900) : Few d:=by
  cases ws with
  | nil=>cases h
  | cons x ws=>
    rw [List.length_cons] at hl
    rw [readD_cons] at h
    split at h
    · split at h
      · cases h
        have:=pairs_len (ws.map numOf)
        rw [List.length_map] at this
        show (pairs2 (ws.map numOf)).length≤900
        omega
      · split at h
        · cases h
          show (ws.map numOf).length≤900
          rw [List.length_map]
          omega
        · cases h
    · cases h
theorem DdAt.eqF {H : Hp} {p q : Addr} {d : Dd} (h1 : DdAt H p d) (h2 : DdAt H q d) (few : Few d) : EqD H 3 (.ref p) (.ref q):=by
  cases d with
  | row x ns=>
    have few : ns.length≤900:=few
    refine EqD.tup (n:=2) h1 h2 rfl (by simp; omega) fun i x y e1 e2=>?_
    rw [e1] at e2
    cases e2
    have:=List.mem_of_getElem? e1
    rcases List.mem_cons.mp this with rfl | m
    · exact .flat rfl
    · obtain ⟨n,_,rfl⟩:=List.mem_map.mp m
      exact .flat rfl
  | made ps=>
    have few : ps.length≤900:=few
    obtain ⟨t,zs,a1,a2,a3⟩:=h1
    obtain ⟨t',zs',b1,b2,b3⟩:=h2
    have l1:=a3.1
    have l2:=b3.1
    rw [List.length_map] at l1 l2
    refine EqD.tup (n:=2) a1 b1 rfl (by show 2≤1000; decide) fun i x y e1 e2=>?_
    match i,e1,e2 with
    | 0,e1,e2=>cases e1; cases e2; exact .flat rfl
    | 1,e1,e2=>
      cases e1; cases e2
      refine EqD.tup (n:=1) a2 b2 (by omega) (by omega) fun j x y e1 e2=>?_
      obtain ⟨p1,r1,rfl,f1,g1⟩:=a3.at e1
      obtain ⟨p2,r2,rfl,f2,g2⟩:=b3.at e2
      rw [f1] at f2
      cases f2
      rw [List.getElem?_map] at f1
      cases en : ps[j]? with
      | none=>rw [en] at f1; cases f1
      | some pr=>
        rw [en] at f1; cases f1
        refine EqD.tup (n:=0) g1 g2 rfl (by show 2≤1000; decide) fun m x y e1 e2=>?_
        rw [e1] at e2
        cases e2
        obtain ⟨n,_,rfl⟩:=List.mem_map.mp (List.mem_of_getElem? e1)
        exact .flat rfl
    | i + 2,e1,_=>cases e1
def bnd : Nat→Nat
  | 0=>200
  | n + 1=>2 * (bnd n + 1) + 10
def odd11 : List Str:=[""," ","raw "," raw","made","made 1","Raw","raw\n","come 1 2 3","lay 1 2 3","made 1 2 3"].map Str.ofString
theorem odd11_ok : ∀ y∈odd11,Asc y∧y.length≤20∧readD (Txt.split y sp)=none:=by unfold Asc; decide +kernel
section
--! fast
variable {P : Program} {w : World} {K : PySem.W.Frag} {mg : Str→Option Value} {base : Heap} {f : Addr} {fd : FuncData} {cl : Nat→Addr} (B : Bn mg)
  (G_pick : Cal P w K mg base CX0 1 "_law_pick" p_pick spPick)
  (G_begin : Cal P w K mg base CX0 1 "_law_begin" p_begin (spBegin K)) (G_any_deed : Cal P w K mg base CX0 3 "_law_any_deed" p_any_deed spAnyDeed) (G_line : Cal P w K mg base CX0 1 "_law_line" p_line spLine) (G_same : Cal P w K mg base CX0 4 "_law_same" n_same (spSame 4))
  (G_bent_line : Cal P w K mg base CX0 2 "_law_bent_line" p_bent_line spBent) (G_told : Cal P w K mg base CX0 4 "_law_told" p_told spRead) (G_read : Cal P w K mg base CX0 3 "_law_read" p_read spRead)
include B G_pick G_begin G_any_deed G_line G_same G_bent_line G_told G_read
theorem ok_law (F : Fun K "law" "law" s_law f fd) : FnOk P w K mg base CX0 5 f fd p_law (spLaw K):=by
  refine F.ok sc_law (fun vs H Q E h=>?_) (fun cdv A outer s H vs Q E hr h=>?_)
  · obtain ⟨a,ns,rfl,_⟩:=h; rfl
  obtain ⟨a0,ns,rfl,hS,hlen,q⟩:=h
  refine ⟨_,(pss_cons (ps_set (i:=1) sc_law.nd rfl (Or.inl rfl) (pe_cal G_begin hr rfl pass0 (pa_c (pv 0) pa_nil)))
    (pss_cons (ps_for PassesOwn.never rfl (pi_range1 rfl B.range (pa_c pe_int pa_nil)) (pg_name (i:=2) sc_law.nd rfl (Or.inl rfl)) (pss_cons (ps_set (i:=3) sc_law.nd rfl (Or.inl rfl) (pe_cal G_line hr rfl pass0 (pa_c (pe_cal G_any_deed hr rfl pass0 (pa_c (pv 1) pa_nil)) pa_nil)))
      (pss_cons (ps_for PassesOwn.never rfl (pi_range1 rfl B.range (pa_c (pe_cal G_pick hr rfl pass0 (pa_c (pv 1) (pa_c pe_int pa_nil))) pa_nil)) (pg_name (i:=4) sc_law.nd rfl (Or.inl rfl)) (pss_one (ps_set (i:=3) sc_law.nd rfl (Or.inl rfl) (pe_cal G_bent_line hr rfl pass0 (pa_c (pv 1) (pa_c (pv 3) pa_nil))))))
      (pss_one (ps_if (pt_not (pt_truth (pe_cal G_same hr rfl pass0 (pa_c (pe_cal G_told hr rfl pass0 (pa_c (pv 3) pa_nil)) (pa_c (pe_cal G_read hr rfl pass0 (pa_c (pv 3) pa_nil)) pa_nil))) (fun _=>rfl))) (pss_one (ps_ret pe_bl)) pss_nil)))))
    (pss_cons (ps_set (i:=5) sc_law.nd rfl (Or.inl rfl) (pe_lst (pa_c pe_str (pa_c pe_str (pa_c pe_str (pa_c pe_str (pa_c pe_str (pa_c pe_str (pa_c pe_str (pa_c pe_str (pa_c pe_str (pa_c pe_str (pa_c pe_str pa_nil)))))))))))))
    (pss_one (ps_ret (pe_callB (call_allB rfl) rfl B.all PyProof.Rows.boot_all (pa_c (pe_comp (N':=["_law_line_here"]) (ix:=[none]) (g:=(gName 0)) (ti:=tIf0) (te:=(tOp (fun (x y : V) (H : Hp) (Q : VK)=>y = .non∧Q (.bl (decide (x = .non))) H) (tCall spRead [] E0 (tCons (tVar 0) tNil)) (tC .non))) rfl (comp_scope (N:=n_law) (D:=defScope s_law) (by decide +kernel)) (pi_list (pv 5)) (fun C s H fp=>(pg_name (i:=0) (show (["_law_line_here"] : List Str).Nodup by decide +kernel) rfl (Or.inl rfl))) (fun C s H fp=>pifs_nil) (fun C s H fp=>(pe_cmpR op_isN (pe_cal G_told hr rfl pass0 (pa_c (pv 0) pa_nil)) pe_non (nomark _)))) pa_nil))))))),?_⟩
  refine ⟨_,rfl,a0,ns,rfl,hS,hlen,fun a c H1 ha hc s1 d1=>?_⟩
  refine ⟨7,rfl,by decide,by decide,for_range (n:=7) (fun _ σ H'=>∃ o2 o3 o4 o5,σ=[some (.ref a0),some (.ref a),o2,o3,o4,o5]∧DrawAt H' a c) ⟨_,_,_,_,rfl,d1⟩ ?_ ?_⟩
  · rintro i σ H2 hi ⟨o2,o3,o4,o5,rfl,d2⟩
    refine ⟨_,rfl,a,c,rfl,d2,fun p d H3 ok hd d3 kb3=>?_⟩
    refine ⟨p,d,rfl,hd,ok,fun H4 s4=>?_⟩
    refine ⟨_,rfl,a,c,3,rfl,d3.same s4,by decide,by decide,fun r H5 r0 r1 d5 kb5=>⟨_,rfl,by omega,by omega,?_⟩⟩
    refine for_range (n:=r.toNat) (fun j σ H'=>∃ z o4,σ=[some (.ref a0),some (.ref a),some (.int (0 + (i : Int))),some (.str z),o4,o5]∧DrawAt H' a c∧Asc z∧z.length≤bnd j) ⟨_,_,rfl,d5,ok.asc,ok.len2⟩ ?_ ?_
    · rintro j σ H6 hj ⟨z,o4',rfl,d6,az,lz⟩
      have hb : bnd j≤500:=by
        have : j=0∨j=1:=by omega
        rcases this with rfl | rfl <;> decide
      exact ⟨_,rfl,_,rfl,a,c,z,rfl,d6,az,by omega,fun z' H7 az' lz' d7 kb7=>⟨z',_,rfl,d7,az',by show _≤2 * (bnd j + 1) + 10; omega⟩⟩
    · rintro σ H6 ⟨z,o4',rfl,d6,az,lz⟩
      have hb : bnd r.toNat≤836:=by
        have : r.toNat=0∨r.toNat=1∨r.toNat=2:=by omega
        rcases this with e | e | e <;> rw [e] <;> decide
      have cz:=split_cnt z
      cases er : readD (Txt.split z sp) with
      | some d'=>
        have few:=readD_few er (by omega)
        refine ⟨_,rfl,z,rfl,az,by omega,by omega,fun d1 e1 p1 H7 s7 hd1=>?_,fun e=>by rw [er] at e; cases e⟩
        rw [er] at e1
        cases e1
        refine ⟨_,rfl,z,rfl,az,by omega,by omega,fun d2 e2 p2 H8 s8 hd2=>?_,fun e=>by rw [er] at e; cases e⟩
        rw [er] at e2
        cases e2
        exact ⟨_,_,rfl,DdAt.eqF (hd1.same s8) hd2 few,fun H9 s9=>⟨_,rfl,iteF ⟨_,_,_,_,rfl,((d6.same s7).same s8).same s9⟩⟩⟩
      | none=>
        refine ⟨_,rfl,z,rfl,az,by omega,by omega,fun d1 e=>(by rw [er] at e; cases e),fun _ H7 s7=>?_⟩
        refine ⟨_,rfl,z,rfl,az,by omega,by omega,fun d1 e=>(by rw [er] at e; cases e),fun _ H8 s8=>?_⟩
        exact ⟨_,_,rfl,.flat rfl,fun H9 s9=>⟨_,rfl,iteF ⟨_,_,_,_,rfl,((d6.same s7).same s8).same s9⟩⟩⟩
  · rintro σ H2 ⟨o2,o3,o4,o5,rfl,d2⟩
    refine ⟨by show 11≤sizeLine; decide,fun ol hol=>?_⟩
    have od : ([.str (Str.ofString ""),.str (Str.ofString " "),.str (Str.ofString "raw "),.str (Str.ofString " raw"),.str (Str.ofString "made"),.str (Str.ofString "made 1"),.str (Str.ofString "Raw"),.str (Str.ofString "raw\n"),.str (Str.ofString "come 1 2 3"),.str (Str.ofString "lay 1 2 3"),.str (Str.ofString "made 1 2 3")] : List V)=odd11.map V.str:=rfl
    rw [od]
    have eo : L2.upd H2 ol (.lst (odd11.map V.str)) ol=some (.lst (odd11.map V.str)):=upd_same
    generalize L2.upd H2 ol (.lst (odd11.map V.str))=H3 at *
    refine ⟨_,rfl,ol,rfl,⟨_,SqL.of eo⟩,fun D hD=>?_⟩
    refine comp_byD (fun i zs _=>zs=List.replicate i (V.bl true)) hD eo (by rw [List.length_map]; decide) (fun i zs H H' h _ _=>h) rfl (fun i x zs H6 ei hz6 s6 hp K1 k1=>?_) fun zs H6 s6 hp lz hD6=>?_
    · rw [List.getElem?_map] at ei
      cases ey : odd11[i]? with
      | none=>rw [ey] at ei; cases ei
      | some y=>
        rw [ey] at ei
        cases ei
        obtain ⟨ya,yl,yr⟩:=odd11_ok y (List.mem_of_getElem? ey)
        have cy:=split_cnt y
        refine ⟨fun k v e=>(by cases k <;> cases e),?_⟩
        refine ⟨_,rfl,y,rfl,ya,by omega,by omega,fun d1 e=>(by rw [yr] at e; cases e),fun _ H7 s7=>⟨rfl,?_⟩⟩
        exact k1 _ _ s7 (by rw [hp,List.replicate_succ']; rfl)
    · refine ⟨D,List.replicate odd11.length true,rfl,SqL.of (by rw [hD6,hp,List.length_map,List.map_replicate]),?_⟩
      exact q _
end
end K55
namespace K55
open PySem L2
def clF (c_0 c_24 c_25 : Addr) : Nat→Addr
  | 0=>c_0
  | 24=>c_24
  | 25=>c_25
  | _=>c_0
theorem all_mk {l : PySem.W.OpenLaw} {w : World} {K : PySem.W.Frag} {h : Heap} {mg : Str→Option Value} {fa f0 f1 f2 f3 f4 f5 f6 f7 f8 f9 f10 f11 f12 f13 f14 c_0 c_24 c_25 : Addr} {u_MOST_FIGURES : Tok} {d_NUMBERS : Addr} {ep_NUMBERS : Nat} {t0_NUMBERS u0_NUMBERS t1_NUMBERS u1_NUMBERS t2_NUMBERS u2_NUMBERS t3_NUMBERS u3_NUMBERS t4_NUMBERS u4_NUMBERS t5_NUMBERS u5_NUMBERS t6_NUMBERS u6_NUMBERS : Tok} (X : K.In h) (G : h.Ns mainGlobals mg) (hfa : mg "law" = some (.ref fa))
    {od0 an0 od1 an1 od2 an2 od3 an3 od4 an4 od5 an5 od6 an6 od7 an7 od8 an8 od9 an9 od10 an10 od11 an11 od12 an12 od13 an13 od14 an14 : Option Addr} {sl0 sl1 sl2 sl3 sl4 sl5 sl6 sl7 sl8 sl9 sl10 sl11 sl12 sl13 sl14 : Array (Option Value)} {oc0 kV0 dc0 pm0 cd0 ct0 oc1 kV1 dc1 pm1 cd1 ct1 oc2 kV2 dc2 pm2 cd2 ct2 oc3 kV3 dc3 pm3 cd3 ct3 oc4 kV4 dc4 pm4 cd4 ct4 oc5 kV5 dc5 pm5 cd5 ct5 oc6 kV6 dc6 pm6 cd6 ct6 oc7 kV7 dc7 pm7 cd7 ct7 oc8 kV8 dc8 pm8 cd8 ct8 oc9 kV9 dc9 pm9 cd9 ct9 oc10 kV10 dc10 pm10 cd10 ct10 oc11 kV11 dc11 pm11 cd11 ct11 oc12 kV12 dc12 pm12 cd12 ct12 oc13 kV13 dc13 pm13 cd13 ct13 oc14 kV14 dc14 pm14 cd14 ct14 : Value}
    (a0 : PySem.W.nsIn K mainGlobals "is_number" = some (some (.ref f0)))
    (l0 : K.lookup f0=some ⟨oc0,od0,.func (PySem.W.fnOf "is_number" "is_number" (defArgs s_is_number) (defBody s_is_number) (defScope s_is_number) .none kV0 dc0 pm0 an0 cd0 ct0),sl0⟩)
    (c0 : PySem.W.codeIn K cd0 "is_number" = true)
    (k0 : PySem.W.keepIn K (.ref f0)=true)
    (a1 : PySem.W.nsIn K mainGlobals "read_numbers" = some (some (.ref f1)))
    (l1 : K.lookup f1=some ⟨oc1,od1,.func (PySem.W.fnOf "read_numbers" "read_numbers" (defArgs s_read_numbers) (defBody s_read_numbers) (defScope s_read_numbers) .none kV1 dc1 pm1 an1 cd1 ct1),sl1⟩)
    (c1 : PySem.W.codeIn K cd1 "read_numbers" = true)
    (k1 : PySem.W.keepIn K (.ref f1)=true)
    (a2 : PySem.W.nsIn K mainGlobals "read_deed" = some (some (.ref f2)))
    (l2 : K.lookup f2=some ⟨oc2,od2,.func (PySem.W.fnOf "read_deed" "read_deed" (defArgs s_read_deed) (defBody s_read_deed) (defScope s_read_deed) .none kV2 dc2 pm2 an2 cd2 ct2),sl2⟩)
    (c2 : PySem.W.codeIn K cd2 "read_deed" = true)
    (k2 : PySem.W.keepIn K (.ref f2)=true)
    (a3 : PySem.W.nsIn K mainGlobals "_law_begin" = some (some (.ref f3)))
    (l3 : K.lookup f3=some ⟨oc3,od3,.func (PySem.W.fnOf "_law_begin" "_law_begin" (defArgs s_begin) (defBody s_begin) (defScope s_begin) .none kV3 dc3 pm3 an3 cd3 ct3),sl3⟩)
    (c3 : PySem.W.codeIn K cd3 "_law_begin" = true)
    (k3 : PySem.W.keepIn K (.ref f3)=true)
    (a4 : PySem.W.nsIn K mainGlobals "_law_line" = some (some (.ref f4)))
    (l4 : K.lookup f4=some ⟨oc4,od4,.func (PySem.W.fnOf "_law_line" "_law_line" (defArgs s_line) (defBody s_line) (defScope s_line) .none kV4 dc4 pm4 an4 cd4 ct4),sl4⟩)
    (c4 : PySem.W.codeIn K cd4 "_law_line" = true)
    (k4 : PySem.W.keepIn K (.ref f4)=true)
    (a5 : PySem.W.nsIn K mainGlobals "_law_pick" = some (some (.ref f5)))
    (l5 : K.lookup f5=some ⟨oc5,od5,.func (PySem.W.fnOf "_law_pick" "_law_pick" (defArgs s_pick) (defBody s_pick) (defScope s_pick) .none kV5 dc5 pm5 an5 cd5 ct5),sl5⟩)
    (c5 : PySem.W.codeIn K cd5 "_law_pick" = true)
    (k5 : PySem.W.keepIn K (.ref f5)=true)
    (a6 : PySem.W.nsIn K mainGlobals "_law_any_number" = some (some (.ref f6)))
    (l6 : K.lookup f6=some ⟨oc6,od6,.func (PySem.W.fnOf "_law_any_number" "_law_any_number" (defArgs s_any_number) (defBody s_any_number) (defScope s_any_number) .none kV6 dc6 pm6 an6 cd6 ct6),sl6⟩)
    (c6 : PySem.W.codeIn K cd6 "_law_any_number" = true)
    (k6 : PySem.W.keepIn K (.ref f6)=true)
    (a7 : PySem.W.nsIn K mainGlobals "_law_any_deed" = some (some (.ref f7)))
    (l7 : K.lookup f7=some ⟨oc7,od7,.func (PySem.W.fnOf "_law_any_deed" "_law_any_deed" (defArgs s_any_deed) (defBody s_any_deed) (defScope s_any_deed) .none kV7 dc7 pm7 an7 cd7 ct7),sl7⟩)
    (c7 : PySem.W.codeIn K cd7 "_law_any_deed" = true)
    (k7 : PySem.W.keepIn K (.ref f7)=true)
    (a8 : PySem.W.nsIn K mainGlobals "_law_bent_line" = some (some (.ref f8)))
    (l8 : K.lookup f8=some ⟨oc8,od8,.func (PySem.W.fnOf "_law_bent_line" "_law_bent_line" (defArgs s_bent_line) (defBody s_bent_line) (defScope s_bent_line) .none kV8 dc8 pm8 an8 cd8 ct8),sl8⟩)
    (c8 : PySem.W.codeIn K cd8 "_law_bent_line" = true)
    (k8 : PySem.W.keepIn K (.ref f8)=true)
    (a9 : PySem.W.nsIn K mainGlobals "_law_same" = some (some (.ref f9)))
    (l9 : K.lookup f9=some ⟨oc9,od9,.func (PySem.W.fnOf "_law_same" "_law_same" (defArgs s_same) (defBody s_same) (defScope s_same) .none kV9 dc9 pm9 an9 cd9 ct9),sl9⟩)
    (c9 : PySem.W.codeIn K cd9 "_law_same" = true)
    (k9 : PySem.W.keepIn K (.ref f9)=true)
    (a10 : PySem.W.nsIn K mainGlobals "_law_figure" = some (some (.ref f10)))
    (l10 : K.lookup f10=some ⟨oc10,od10,.func (PySem.W.fnOf "_law_figure" "_law_figure" (defArgs s_figure) (defBody s_figure) (defScope s_figure) .none kV10 dc10 pm10 an10 cd10 ct10),sl10⟩)
    (c10 : PySem.W.codeIn K cd10 "_law_figure" = true)
    (k10 : PySem.W.keepIn K (.ref f10)=true)
    (a11 : PySem.W.nsIn K mainGlobals "_law_figures" = some (some (.ref f11)))
    (l11 : K.lookup f11=some ⟨oc11,od11,.func (PySem.W.fnOf "_law_figures" "_law_figures" (defArgs s_figures) (defBody s_figures) (defScope s_figures) .none kV11 dc11 pm11 an11 cd11 ct11),sl11⟩)
    (c11 : PySem.W.codeIn K cd11 "_law_figures" = true)
    (k11 : PySem.W.keepIn K (.ref f11)=true)
    (a12 : PySem.W.nsIn K mainGlobals "_law_read" = some (some (.ref f12)))
    (l12 : K.lookup f12=some ⟨oc12,od12,.func (PySem.W.fnOf "_law_read" "_law_read" (defArgs s_read) (defBody s_read) (defScope s_read) .none kV12 dc12 pm12 an12 cd12 ct12),sl12⟩)
    (c12 : PySem.W.codeIn K cd12 "_law_read" = true)
    (k12 : PySem.W.keepIn K (.ref f12)=true)
    (a13 : PySem.W.nsIn K mainGlobals "_law_told" = some (some (.ref f13)))
    (l13 : K.lookup f13=some ⟨oc13,od13,.func (PySem.W.fnOf "_law_told" "_law_told" (defArgs s_told) (defBody s_told) (defScope s_told) .none kV13 dc13 pm13 an13 cd13 ct13),sl13⟩)
    (c13 : PySem.W.codeIn K cd13 "_law_told" = true)
    (k13 : PySem.W.keepIn K (.ref f13)=true)
    (a14 : PySem.W.nsIn K mainGlobals "law" = some (some (.ref f14)))
    (l14 : K.lookup f14=some ⟨oc14,od14,.func (PySem.W.fnOf "law" "law" (defArgs s_law) (defBody s_law) (defScope s_law) .none kV14 dc14 pm14 an14 cd14 ct14),sl14⟩)
    (c14 : PySem.W.codeIn K cd14 "law" = true)
    (k14 : PySem.W.keepIn K (.ref f14)=true)
    (z_len : PySem.W.nsIn K mainGlobals "len" = some none)
    (z_list : PySem.W.nsIn K mainGlobals "list" = some none)
    (z_isi : PySem.W.nsIn K mainGlobals "isinstance" = some none)
    (z_bool : PySem.W.nsIn K mainGlobals "bool" = some none)
    (z_int : PySem.W.nsIn K mainGlobals "int" = some none)
    (z_str : PySem.W.nsIn K mainGlobals "str" = some none)
    (z_tuple : PySem.W.nsIn K mainGlobals "tuple" = some none)
    (z_all : PySem.W.nsIn K mainGlobals "all" = some none)
    (z_any : PySem.W.nsIn K mainGlobals "any" = some none)
    (z_zip : PySem.W.nsIn K mainGlobals "zip" = some none)
    (z_range : PySem.W.nsIn K mainGlobals "range" = some none)
    (z_max : PySem.W.nsIn K mainGlobals "max" = some none)
    (z_min : PySem.W.nsIn K mainGlobals "min" = some none)
    (z_enumerate : PySem.W.nsIn K mainGlobals "enumerate" = some none)
    (z_sum : PySem.W.nsIn K mainGlobals "sum" = some none)
    (z_sorted : PySem.W.nsIn K mainGlobals "sorted" = some none)
    (z_verr : PySem.W.nsIn K mainGlobals "ValueError" = some none)
    (g_NUMBERS : PySem.W.nsIn K mainGlobals "NUMBERS" = some (some (.ref d_NUMBERS)))
    (l_NUMBERS : K.lookup d_NUMBERS=some { cls:=.type "dict",dict:=none,data:=.dict #[⟨PyData.keyHash w.params "raw",.str "raw" t0_NUMBERS,.int 0 u0_NUMBERS⟩,⟨PyData.keyHash w.params "come",.str "come" t1_NUMBERS,.int 4 u1_NUMBERS⟩,⟨PyData.keyHash w.params "go",.str "go" t2_NUMBERS,.int 3 u2_NUMBERS⟩,⟨PyData.keyHash w.params "strike_lot",.str "strike_lot" t3_NUMBERS,.int 1 u3_NUMBERS⟩,⟨PyData.keyHash w.params "strike_out",.str "strike_out" t4_NUMBERS,.int 1 u4_NUMBERS⟩,⟨PyData.keyHash w.params "lay",.str "lay" t5_NUMBERS,.int 2 u5_NUMBERS⟩,⟨PyData.keyHash w.params "call_back",.str "call_back" t6_NUMBERS,.int 1 u6_NUMBERS⟩] ep_NUMBERS,slots:=#[] })
    (y_NUMBERS : (d_NUMBERS == sysModules)=false)
    (g_MOST_FIGURES : PySem.W.nsIn K mainGlobals "MOST_FIGURES" = some (some (.int 7 u_MOST_FIGURES)))
    (g_0 : PySem.W.nsIn K mainGlobals "CustomsError" = some (some (.ref c_0)))
    (g_1 : PySem.W.nsIn K mainGlobals "BadText" = some (some (.ref c_24)))
    (g_2 : PySem.W.nsIn K mainGlobals "BadMinutes" = some (some (.ref c_25)))
    (x_1 : PySem.W.excIn K c_24 vbm "ValueError.__new__" = true)
    (ga_1 : PySem.W.findIn K (.ref c_24) "__getattribute__" = some (some (.builtin "BaseException.__getattribute__")))
    (gt_1 : PySem.W.findIn K (.ref c_24) "__getattr__" = some none)
    (cl_1 : PySem.W.findIn K (.ref c_24) "__class__" = some (some (.builtin "object.__class__")))
    (mo_1 : PySem.W.mroIn K c_24 (.type "object")=some true)
    (sb_1 : PySem.W.subIn K (.ref c_24) (.type "BaseException")=some true)
    (mC_1 : PySem.W.mroIn K c_24 (.ref c_0)=some true)
    (q_1_1 : PySem.W.mroIn K c_24 (.ref c_24)=some true)
    (q_1_2 : PySem.W.mroIn K c_24 (.ref c_25)=some false)
    (v_1 : PySem.W.mroIn K c_24 (.type "ValueError")=some true)
    (t_1 : PySem.W.typeIn K (.ref c_24)=some (.type "type"))
    (ga_2 : PySem.W.findIn K (.ref c_25) "__getattribute__" = some (some (.builtin "BaseException.__getattribute__")))
    (gt_2 : PySem.W.findIn K (.ref c_25) "__getattr__" = some none)
    (cl_2 : PySem.W.findIn K (.ref c_25) "__class__" = some (some (.builtin "object.__class__")))
    (mo_2 : PySem.W.mroIn K c_25 (.type "object")=some true)
    (sb_2 : PySem.W.subIn K (.ref c_25) (.type "BaseException")=some true)
    (mC_2 : PySem.W.mroIn K c_25 (.ref c_0)=some true)
    (q_2_1 : PySem.W.mroIn K c_25 (.ref c_24)=some false)
    (q_2_2 : PySem.W.mroIn K c_25 (.ref c_25)=some true)
    (v_2 : PySem.W.mroIn K c_25 (.type "ValueError")=some true)
    (t_2 : PySem.W.typeIn K (.ref c_25)=some (.type "type"))
    (t_0 : PySem.W.typeIn K (.ref c_0)=some (.type "type"))
    (sb_0 : PySem.W.subIn K (.ref c_0) (.type "BaseException")=some true)
    (gg : PySem.W.specialIn K (.builtin "object.__class__") "__get__" = some (some (.builtin "getset_descriptor.__get__")))
    (tk : PySem.W.takesIn K (.builtin "object.__class__")=some true)
    : ∃ fd : FuncData,(∀ (s : Shared) (v : Value),BindsTo s fd ⟨[v],[]⟩ [("_law_script",v)])∧∀ base : Heap,K.In base→base.Ns mainGlobals mg→FnOk l.prog w K mg base CX0 5 fa fd ["_law_script"] (spLaw K):=by
  have e:=hfa.symm.trans (PySem.W.mg_of X G a14)
  cases e
  have F0:=fun_mk (st:=s_is_number) l0 c0 k0
  have F1:=fun_mk (st:=s_read_numbers) l1 c1 k1
  have F2:=fun_mk (st:=s_read_deed) l2 c2 k2
  have F3:=fun_mk (st:=s_begin) l3 c3 k3
  have F4:=fun_mk (st:=s_line) l4 c4 k4
  have F5:=fun_mk (st:=s_pick) l5 c5 k5
  have F6:=fun_mk (st:=s_any_number) l6 c6 k6
  have F7:=fun_mk (st:=s_any_deed) l7 c7 k7
  have F8:=fun_mk (st:=s_bent_line) l8 c8 k8
  have F9:=fun_mk (st:=s_same) l9 c9 k9
  have F10:=fun_mk (st:=s_figure) l10 c10 k10
  have F11:=fun_mk (st:=s_figures) l11 c11 k11
  have F12:=fun_mk (st:=s_read) l12 c12 k12
  have F13:=fun_mk (st:=s_told) l13 c13 k13
  have F14:=fun_mk (st:=s_law) l14 c14 k14
  have b0:=F0.binds (ps:=p_is_number) fun _ _ _ _ _ _ us hl=>match us,hl with | [_],_=>rfl
  have m0:=PySem.W.mg_of X G a0
  have b1:=F1.binds (ps:=p_read_numbers) fun _ _ _ _ _ _ us hl=>match us,hl with | [_],_=>rfl
  have m1:=PySem.W.mg_of X G a1
  have b2:=F2.binds (ps:=p_read_deed) fun _ _ _ _ _ _ us hl=>match us,hl with | [_],_=>rfl
  have m2:=PySem.W.mg_of X G a2
  have b3:=F3.binds (ps:=p_begin) fun _ _ _ _ _ _ us hl=>match us,hl with | [_],_=>rfl
  have m3:=PySem.W.mg_of X G a3
  have b4:=F4.binds (ps:=p_line) fun _ _ _ _ _ _ us hl=>match us,hl with | [_],_=>rfl
  have m4:=PySem.W.mg_of X G a4
  have b5:=F5.binds (ps:=p_pick) fun _ _ _ _ _ _ us hl=>match us,hl with | [_,_],_=>rfl
  have m5:=PySem.W.mg_of X G a5
  have b6:=F6.binds (ps:=p_any_number) fun _ _ _ _ _ _ us hl=>match us,hl with | [_],_=>rfl
  have m6:=PySem.W.mg_of X G a6
  have b7:=F7.binds (ps:=p_any_deed) fun _ _ _ _ _ _ us hl=>match us,hl with | [_],_=>rfl
  have m7:=PySem.W.mg_of X G a7
  have b8:=F8.binds (ps:=p_bent_line) fun _ _ _ _ _ _ us hl=>match us,hl with | [_,_],_=>rfl
  have m8:=PySem.W.mg_of X G a8
  have b9:=F9.binds (ps:=p_same) fun _ _ _ _ _ _ us hl=>match us,hl with | [_,_],_=>rfl
  have m9:=PySem.W.mg_of X G a9
  have b10:=F10.binds (ps:=p_figure) fun _ _ _ _ _ _ us hl=>match us,hl with | [_],_=>rfl
  have m10:=PySem.W.mg_of X G a10
  have b11:=F11.binds (ps:=p_figures) fun _ _ _ _ _ _ us hl=>match us,hl with | [_],_=>rfl
  have m11:=PySem.W.mg_of X G a11
  have b12:=F12.binds (ps:=p_read) fun _ _ _ _ _ _ us hl=>match us,hl with | [_],_=>rfl
  have m12:=PySem.W.mg_of X G a12
  have b13:=F13.binds (ps:=p_told) fun _ _ _ _ _ _ us hl=>match us,hl with | [_],_=>rfl
  have m13:=PySem.W.mg_of X G a13
  have B : Bn mg:=⟨PySem.W.mg_none_of X G z_len,PySem.W.mg_none_of X G z_list,PySem.W.mg_none_of X G z_isi,PySem.W.mg_none_of X G z_bool,PySem.W.mg_none_of X G z_int,PySem.W.mg_none_of X G z_str,PySem.W.mg_none_of X G z_tuple,PySem.W.mg_none_of X G z_all,PySem.W.mg_none_of X G z_any,PySem.W.mg_none_of X G z_zip,PySem.W.mg_none_of X G z_range,PySem.W.mg_none_of X G z_max,PySem.W.mg_none_of X G z_min,PySem.W.mg_none_of X G z_enumerate,PySem.W.mg_none_of X G z_sum,PySem.W.mg_none_of X G z_sorted,PySem.W.mg_none_of X G z_verr⟩
  have m_NUMBERS:=PySem.W.mg_of X G g_NUMBERS
  have D_NUMBERS : KDic K w d_NUMBERS nums:=⟨⟨[("raw",0,t0_NUMBERS,u0_NUMBERS),("come",4,t1_NUMBERS,u1_NUMBERS),("go",3,t2_NUMBERS,u2_NUMBERS),("strike_lot",1,t3_NUMBERS,u3_NUMBERS),("strike_out",1,t4_NUMBERS,u4_NUMBERS),("lay",2,t5_NUMBERS,u5_NUMBERS),("call_back",1,t6_NUMBERS,u6_NUMBERS)],ep_NUMBERS,rfl,l_NUMBERS⟩,by decide +kernel,by decide,y_NUMBERS⟩
  have TY : ∃ cl : Nat→Addr,Txt K mg cl∧XcL K cl [24,25]:=by
    refine ⟨(clF c_0 c_24 c_25),⟨⟨⟨_,PySem.W.mg_of X G g_MOST_FIGURES⟩,PySem.W.mg_of X G g_0,PySem.W.mg_of X G g_1,PySem.W.mg_of X G g_2,x_1⟩,?_⟩⟩
    have X_1 : XCls K c_24:=⟨ga_1,gt_1,cl_1,gg,tk,mo_1,sb_1,cls_some mo_1⟩
    have X_2 : XCls K c_25:=⟨ga_2,gt_2,cl_2,gg,tk,mo_2,sb_2,cls_some mo_2⟩
    have iC : (PySem.W.clsIn K c_0).isSome=true:=cls_some (b:=true) (v:=.type "BaseException") sb_0
    exact ⟨(List.forall_mem_cons.mpr ⟨X_1,(List.forall_mem_cons.mpr ⟨X_2,(fun _ h=>nomatch h)⟩)⟩),(List.forall_mem_cons.mpr ⟨exm_of sb_0 iC t_0 mC_1,(List.forall_mem_cons.mpr ⟨exm_of sb_0 iC t_0 mC_2,(fun _ h=>nomatch h)⟩)⟩),(List.forall_mem_cons.mpr ⟨(List.forall_mem_cons.mpr ⟨kit_self,(List.forall_mem_cons.mpr ⟨kit_ne q_1_1 (cls_some mo_2) t_2 q_1_2,(fun _ h=>nomatch h)⟩)⟩),(List.forall_mem_cons.mpr ⟨(List.forall_mem_cons.mpr ⟨kit_ne q_2_2 (cls_some mo_1) t_1 q_2_1,(List.forall_mem_cons.mpr ⟨kit_self,(fun _ h=>nomatch h)⟩)⟩),(fun _ h=>nomatch h)⟩)⟩),(List.forall_mem_cons.mpr ⟨kit_ty meta_VE v_1,(List.forall_mem_cons.mpr ⟨kit_ty meta_VE v_2,(fun _ h=>nomatch h)⟩)⟩)⟩
  obtain ⟨cl,T,Y⟩:=TY
  refine ⟨PySem.W.fnOf "law" "law" (defArgs s_law) (defBody s_law) (defScope s_law) .none kV14 dc14 pm14 an14 cd14 ct14,fun s v=>.of_eq rfl,fun base _ _=>?_⟩
  have G0 : Cal l.prog w K mg base CX0 1 "is_number" p_is_number spIsNum:=⟨⟨_,_,ok_is_number T B F0,b0,k0,m0⟩⟩
  have G1 : Cal l.prog w K mg base (CXE l.prog w) 2 "read_numbers" p_read_numbers (spReadNums cl):=⟨⟨_,_,ok_read_numbers T B G0 F1,b1,k1,m1⟩⟩
  have G2 : Cal l.prog w K mg base (CXE l.prog w) 3 "read_deed" p_read_deed (spReadDeed cl):=⟨⟨_,_,ok_read_deed T B m_NUMBERS D_NUMBERS G1 F2,b2,k2,m2⟩⟩
  have G3 : Cal l.prog w K mg base CX0 1 "_law_begin" p_begin (spBegin K):=⟨⟨_,_,ok_begin F3 B,b3,k3,m3⟩⟩
  have G4 : Cal l.prog w K mg base CX0 1 "_law_line" p_line spLine:=⟨⟨_,_,ok_line B F4,b4,k4,m4⟩⟩
  have G5 : Cal l.prog w K mg base CX0 1 "_law_pick" p_pick spPick:=⟨⟨_,_,ok_pick F5 B,b5,k5,m5⟩⟩
  have G6 : Cal l.prog w K mg base CX0 2 "_law_any_number" p_any_number spAnyNum:=⟨⟨_,_,ok_any_number B G5 F6,b6,k6,m6⟩⟩
  have G7 : Cal l.prog w K mg base CX0 3 "_law_any_deed" p_any_deed spAnyDeed:=⟨⟨_,_,ok_any_deed B G5 G6 F7,b7,k7,m7⟩⟩
  have G8 : Cal l.prog w K mg base CX0 2 "_law_bent_line" p_bent_line spBent:=⟨⟨_,_,ok_bent_line B G5 F8,b8,k8,m8⟩⟩
  have G9 : Cal l.prog w K mg base CX0 4 "_law_same" p_same (spSame 4):=⟨⟨_,_,ok_same F9 B b9 k9 m9 4,b9,k9,m9⟩⟩
  have G10 : Cal l.prog w K mg base CX0 1 "_law_figure" p_figure spFigure:=⟨⟨_,_,ok_figure B F10,b10,k10,m10⟩⟩
  have G11 : Cal l.prog w K mg base CX0 2 "_law_figures" p_figures spFigures:=⟨⟨_,_,ok_figures B G10 F11,b11,k11,m11⟩⟩
  have G12 : Cal l.prog w K mg base CX0 3 "_law_read" p_read spRead:=⟨⟨_,_,ok_read B G11 F12,b12,k12,m12⟩⟩
  have G13 : Cal l.prog w K mg base CX0 4 "_law_told" p_told spRead:=⟨⟨_,_,ok_told B T Y G2 F13,b13,k13,m13⟩⟩
  exact ok_law B G5 G3 G7 G4 G9 G8 G13 G12 F14
theorem walk {l : PySem.W.OpenLaw} {q : Program} {loose : List Str} {XP : (Str→Option Value)→Heap→Prop} {YP : World→Heap→Prop} {d : DefRec} {K : Params→PySem.W.Frag} (hn : l.most=some 63) (hdf : d.params.defaults=[])
    (hY : ∀ (w : World) (h : Heap),YP w h→(K w.params).In h)
    (F : ∀ (w : World) (mg : Str→Option Value) (fa : Addr) (h : Heap),(K w.params).In h→h.Ns mainGlobals mg→mg d.name=some (.ref fa)→
      ∃ fd : FuncData,(∀ (s : Shared) (u : Value),BindsTo s fd ⟨[u],[]⟩ [("_law_script",u)])∧∀ base : Heap,(K w.params).In base→base.Ns mainGlobals mg→FnOk l.prog w (K w.params) mg base CX0 5 fa fd ["_law_script"] (spLaw (K w.params))) :
    PySem.W.WalkO q loose XP YP l.row.toRowW d [] (fun f vs=>PySem.call f vs):=
  L2.walk_of (n:=63) (k:=5) (x := "_law_script") (CX:=fun _=>CX0) (sp:=fun w=>spLaw (K w.params)) hn (by decide) hdf ⟨rfl,by decide,by decide⟩ hY F (fun _ _ a ns hl _ hS=>⟨a,ns,rfl,hS,hl,fun _=>rfl⟩) fun _ _ _ _ _ z=>z
end K55
def PySem.W.Fast.tw14485250197532646426 : Nat:=0
def PySem.W.Fast.tw3003309317269047368 : Nat:=0
def PySem.W.Fast.tw7519996342131043815 : Nat:=0
def PySem.W.Fast.tw8848153820665172188 : Nat:=0
def PySem.W.Fast.tw9843141943591539067 : Nat:=0
def PySem.W.Fast.tw1691643818268136206 : Nat:=0
def PySem.W.Fast.tw8279074723122655003 : Nat:=0
def PySem.W.Fast.tw17731269578247889211 : Nat:=0
def PySem.W.Fast.tw1182454567580788160 : Nat:=0
def PySem.W.Fast.tw506623328360267453 : Nat:=0
def PySem.W.Fast.tw5122531012818394617 : Nat:=0
def PySem.W.Fast.tw17079553179581168272 : Nat:=0
def PySem.W.Fast.tw13718517458266194940 : Nat:=0
def PySem.W.Fast.tw719399990683508025 : Nat:=0
def PySem.W.Fast.tw2599933741128182278 : Nat:=0
def PySem.W.Fast.tw5273724849075984714 : Nat:=0
def PySem.W.Fast.tw7209616437706462757 : Nat:=0
def PySem.W.Fast.tw3760186663012144048 : Nat:=0
def PySem.W.Fast.tw4228001541362734647 : Nat:=0
def PySem.W.Fast.tw5149785362406697715 : Nat:=0
def PySem.W.Fast.tw18386763726096954811 : Nat:=0
def PySem.W.Fast.tw9749141070845398184 : Nat:=0
def PySem.W.Fast.tw5181991213117039853 : Nat:=0
def PySem.W.Fast.tw2859667599501464441 : Nat:=0
def PySem.W.Fast.tw16654666883335154806 : Nat:=0
def PySem.W.Fast.tw7311423952555269592 : Nat:=0
def PySem.W.Fast.tw13481462738899352648 : Nat:=0
def PySem.W.Fast.tw7664305249460728840 : Nat:=0
def PySem.W.Fast.tw8614772652732014163 : Nat:=0
def PySem.W.Fast.tw10804429361628123044 : Nat:=0
def PySem.W.Fast.tw2598836327603696226 : Nat:=0
def PySem.W.Fast.tw12362590069167718914 : Nat:=0
def PySem.W.Fast.tw17422987730814788581 : Nat:=0
def PySem.W.Fast.tw11429970824690611398 : Nat:=0
def PySem.W.Fast.tw2736640231708091185 : Nat:=0
def PySem.W.Fast.tw17406386441379494306 : Nat:=0
def PySem.W.Fast.tw17665193245546545624 : Nat:=0
def PySem.W.Fast.tw285283460411699668 : Nat:=0
def PySem.W.Fast.tw12300636711917422640 : Nat:=0
def PySem.W.Fast.tw8239895160002502106 : Nat:=0
def PySem.W.Fast.tw356064940834391552 : Nat:=0
def PySem.W.Fast.tw2875589687037961612 : Nat:=0
def PySem.W.Fast.tw17340435288302352000 : Nat:=0
def PySem.W.Fast.tw10791908709967105491 : Nat:=0
def PySem.W.Fast.tw16322122281074140065 : Nat:=0
def PySem.W.Fast.tw17733711457856173301 : Nat:=0
def PySem.W.Fast.tw16013258228361007742 : Nat:=0
def PySem.W.Fast.tw8862580071333502001 : Nat:=0
def PySem.W.Fast.tw9260549565767273016 : Nat:=0
def PySem.W.Fast.tw15291712283830878484 : Nat:=0
def PySem.W.Fast.tw17215982877734844807 : Nat:=0
def PySem.W.Fast.tw5374156831683768677 : Nat:=0
def PySem.W.Fast.tw13779820785585583490 : Nat:=0
def PySem.W.Fast.tw6322478978404752382 : Nat:=0
def PySem.W.Fast.tw5138803123067650020 : Nat:=0
def PySem.W.Fast.tw10452700546018682729 : Nat:=0
def PySem.W.Fast.tw7022969921294706769 : Nat:=0
def PySem.W.Fast.tw453752098946046563 : Nat:=0
def PySem.W.Fast.tw50405356316845141 : Nat:=0
def PySem.W.Fast.tw10263241145332935206 : Nat:=0
def PySem.W.Fast.tw14292415302437146058 : Nat:=0
def PySem.W.Fast.tw17714564295808392304 : Nat:=0
def PySem.W.Fast.tw10892914576585251264 : Nat:=0
def PySem.W.Fast.tw11455855991424089078 : Nat:=0
def PySem.W.Fast.tw1396732067893234384 : Nat:=0
def PySem.W.Fast.tw8623904450602385519 : Nat:=0
def PySem.W.Fast.tw81359999641550527 : Nat:=0
def PySem.W.Fast.tw1348114766475323208 : Nat:=0
def PySem.W.Fast.tw4203756182340619836 : Nat:=0
def PySem.W.Fast.tw845458590454641978 : Nat:=0
def PySem.W.Fast.tw14499920549492785715 : Nat:=0
def PySem.W.Fast.tw13817149205562122172 : Nat:=0
def PySem.W.Fast.tw837649616667372284 : Nat:=0
def PySem.W.Fast.tw6178713424787684093 : Nat:=0
def PySem.W.Fast.tw371511585812440111 : Nat:=0
def PySem.W.Fast.tw13895937987477030443 : Nat:=0
def PySem.W.Fast.tw16859660420732896538 : Nat:=0
def PySem.W.Fast.tw16376495194920416456 : Nat:=0
def PySem.W.Fast.tw7708011048771994366 : Nat:=0
def PySem.W.Fast.tw4797936853870741021 : Nat:=0
def PySem.W.Fast.tw14464082922026376553 : Nat:=0
def PySem.W.Fast.tw11481822607503754166 : Nat:=0
def PySem.W.Fast.tw13911408077637151357 : Nat:=0
def PySem.W.Fast.tw16028154679210363262 : Nat:=0
def PySem.W.Fast.tw6161630376228528668 : Nat:=0
def PySem.W.Fast.tw15987227781652026778 : Nat:=0
def PySem.W.Fast.tw16457576012613809685 : Nat:=0
def PySem.W.Fast.tw13344027135241064943 : Nat:=0
def PySem.W.Fast.tw7352947088132742518 : Nat:=0
def PySem.W.Fast.tw5903627370598615947 : Nat:=0
def PySem.W.Fast.tw1751673793927469530 : Nat:=0
def PySem.W.Fast.tw18269606858017711180 : Nat:=0
def PySem.W.Fast.tw18072013819883583507 : Nat:=0
def PySem.W.Fast.tw873139990620765477 : Nat:=0
def PySem.W.Fast.tw9429976575589997693 : Nat:=0
def PySem.W.Fast.tw12333084380561257709 : Nat:=0
def PySem.W.Fast.tw6152651171121461586 : Nat:=0
def PySem.W.Fast.tw1225293575609065743 : Nat:=0
def PySem.W.Fast.tw8918294883560473628 : Nat:=0
def PySem.W.Fast.tw12563406762220948155 : Nat:=0
def PySem.W.Fast.tw341975140257428755 : Nat:=0
def PySem.W.Fast.tw514527361132234805 : Nat:=0
def PySem.W.Fast.tw9548088490837200464 : Nat:=0
def PySem.W.Fast.tw14657911511879721645 : Nat:=0
def PySem.W.Fast.tw7990425775499795860 : Nat:=0
def PySem.W.Fast.tw6295081262595896470 : Nat:=0
def PySem.W.Fast.tw11380349889440105656 : Nat:=0
def PySem.W.Fast.tw9553518714674924866 : Nat:=0
def PySem.W.Fast.tw6578439556045952629 : Nat:=0
def PySem.W.Fast.tw11518636276904848921 : Nat:=0
open PySem PySem.W PyProof.Rows
set_option maxRecDepth 100000 in
set_option maxHeartbeats 0 in
theorem PySem.Challenge.cw_drawback_k55_lines_read_or_refused_holds : PySem.Challenge.rw_drawback_k55_lines_read_or_refused.Holds := by
  w_on; o_law; k_head; (case hw=>w_witness2)
  k_fill
  refine K55.walk (l:=PySem.Challenge.rw_drawback_k55_lines_read_or_refused) rfl rfl (fun w h Y=>PySem.W.kIn_of Y) ?F
  case F=>
    intro w mg fa h KX G hmg
    refine' K55.all_mk KX G hmg ?a0 ?l0 ?c0 ?k0 ?a1 ?l1 ?c1 ?k1 ?a2 ?l2 ?c2 ?k2 ?a3 ?l3 ?c3 ?k3 ?a4 ?l4 ?c4 ?k4 ?a5 ?l5 ?c5 ?k5 ?a6 ?l6 ?c6 ?k6 ?a7 ?l7 ?c7 ?k7 ?a8 ?l8 ?c8 ?k8 ?a9 ?l9 ?c9 ?k9 ?a10 ?l10 ?c10 ?k10 ?a11 ?l11 ?c11 ?k11 ?a12 ?l12 ?c12 ?k12 ?a13 ?l13 ?c13 ?k13 ?a14 ?l14 ?c14 ?k14 ?z_len ?z_list ?z_isi ?z_bool ?z_int ?z_str ?z_tuple ?z_all ?z_any ?z_zip ?z_range ?z_max ?z_min ?z_enumerate ?z_sum ?z_sorted ?z_verr ?g_NUMBERS ?l_NUMBERS ?y_NUMBERS ?g_MOST_FIGURES ?g_0 ?g_1 ?g_2 ?x_1 ?ga_1 ?gt_1 ?cl_1 ?mo_1 ?sb_1 ?mC_1 ?q_1_1 ?q_1_2 ?v_1 ?t_1 ?ga_2 ?gt_2 ?cl_2 ?mo_2 ?sb_2 ?mC_2 ?q_2_1 ?q_2_2 ?v_2 ?t_2 ?t_0 ?sb_0 ?gg ?tk
    (case a0=>k_is)
    (case l0=>k_is)
    (case c0=>k_is)
    (case k0=>k_is)
    (case a1=>k_is)
    (case l1=>k_is)
    (case c1=>k_is)
    (case k1=>k_is)
    (case a2=>k_is)
    (case l2=>k_is)
    (case c2=>k_is)
    (case k2=>k_is)
    (case a3=>k_is)
    (case l3=>k_is)
    (case c3=>k_is)
    (case k3=>k_is)
    (case a4=>k_is)
    (case l4=>k_is)
    (case c4=>k_is)
    (case k4=>k_is)
    (case a5=>k_is)
    (case l5=>k_is)
    (case c5=>k_is)
    (case k5=>k_is)
    (case a6=>k_is)
    (case l6=>k_is)
    (case c6=>k_is)
    (case k6=>k_is)
    (case a7=>k_is)
    (case l7=>k_is)
    (case c7=>k_is)
    (case k7=>k_is)
    (case a8=>k_is)
    (case l8=>k_is)
    (case c8=>k_is)
    (case k8=>k_is)
    (case a9=>k_is)
    (case l9=>k_is)
    (case c9=>k_is)
    (case k9=>k_is)
    (case a10=>k_is)
    (case l10=>k_is)
    (case c10=>k_is)
    (case k10=>k_is)
    (case a11=>k_is)
    (case l11=>k_is)
    (case c11=>k_is)
    (case k11=>k_is)
    (case a12=>k_is)
    (case l12=>k_is)
    (case c12=>k_is)
    (case k12=>k_is)
    (case a13=>k_is)
    (case l13=>k_is)
    (case c13=>k_is)
    (case k13=>k_is)
    (case a14=>k_is)
    (case l14=>k_is)
    (case c14=>k_is)
    (case k14=>k_is)
    (case z_len=>k_is)
    (case z_list=>k_is)
    (case z_isi=>k_is)
    (case z_bool=>k_is)
    (case z_int=>k_is)
    (case z_str=>k_is)
    (case z_tuple=>k_is)
    (case z_all=>k_is)
    (case z_any=>k_is)
    (case z_zip=>k_is)
    (case z_range=>k_is)
    (case z_max=>k_is)
    (case z_min=>k_is)
    (case z_enumerate=>k_is)
    (case z_sum=>k_is)
    (case z_sorted=>k_is)
    (case z_verr=>k_is)
    (case g_NUMBERS=>k_is)
    (case l_NUMBERS=>k_is)
    (case y_NUMBERS=>decide)
    (case g_MOST_FIGURES=>k_is)
    (case g_0=>k_is)
    (case g_1=>k_is)
    (case g_2=>k_is)
    (case x_1=>first | k_is | k_exc)
    (case ga_1=>k_is)
    (case gt_1=>k_is)
    (case cl_1=>k_is)
    (case mo_1=>k_is)
    (case sb_1=>k_is)
    (case mC_1=>k_is)
    (case q_1_1=>k_is)
    (case q_1_2=>k_is)
    (case v_1=>k_is)
    (case t_1=>k_is)
    (case ga_2=>k_is)
    (case gt_2=>k_is)
    (case cl_2=>k_is)
    (case mo_2=>k_is)
    (case sb_2=>k_is)
    (case mC_2=>k_is)
    (case q_2_1=>k_is)
    (case q_2_2=>k_is)
    (case v_2=>k_is)
    (case t_2=>k_is)
    (case t_0=>k_is)
    (case sb_0=>k_is)
    (case gg=>k_is)
    (case tk=>k_is)
