import PyProof.Rows.All
import Wide.All
import OpenK.AllK
import Wide.FinOn
import Lean
import PyProof.EqAt
import PyProof.EqKinds
import PyProof.TupleCall
import PySem.Challenge.RW_drawback_k16_papers_that_are_told
set_option Elab.async false
set_option linter.all false
set_option maxRecDepth 100000
open PySem PySem.Spec PyProof.Rows in
abbrev zwb0:=@wpAny_bind
open PySem PySem.Spec PyProof.Rows in
abbrev zwp0:=@wpAny_pure
namespace L2
open PySem PySem.Spec PyProof.Rows
theorem zfm0 {α:Type}{p:α→Prop}{a:α}{l:List α}:(p a∧∀x∈l,p x)→∀x∈a::l,p x:=List.forall_mem_cons.mpr
abbrev Key:=Sum Int Str
def ypf:Key→Value→Bool
 |.inl k,v=>Value.isInt k v
 |.inr x,v=>Value.isStrOf x v
def yzy (w:World):Key→Int
 |.inl k=>hashInt k
 |.inr x=>hashStr w x
theorem ybu:∀{k:Key}{v:Value},ypf k v=true→(∃i t,k=Sum.inl i∧v=Value.int i t)∨(∃x t,k=Sum.inr x∧v=Value.str x t)
 |.inl i,v,h=>by
  obtain ⟨t,e⟩:=Value.isInt_shape (k:=i) (v:=v) h
  exact .inl ⟨i,t,rfl,e⟩
 |.inr x,v,h=>by
  obtain ⟨t,e⟩:=Value.isStrOf_shape (x:=x) (v:=v) h
  exact .inr ⟨x,t,rfl,e⟩
theorem yqo (i:Int)(t:Tok):ypf (.inl i) (.int i t)=true:=by simp [ypf,Value.isInt]
theorem yqp (x:Str)(t:Tok):ypf (.inr x) (.str x t)=true:=by simp [ypf,Value.isStrOf]
theorem yw5 (a b:Int):decide ((Sum.inl a:Key)=Sum.inl b)=(a == b):=by
 by_cases e:a=b
 ·subst e;simp
 ·have h:¬ (Sum.inl a:Key)=Sum.inl b:=fun q=>e (Sum.inl.inj q)
  rw[decide_eq_false h]
  exact(beq_eq_false_iff_ne.mpr e).symm
theorem yw6 (a b:Str):decide ((Sum.inr a:Key)=Sum.inr b)=decide (a=b):=by
 by_cases e:a=b
 ·subst e;simp
 ·have h:¬ (Sum.inr a:Key)=Sum.inr b:=fun q=>e (Sum.inr.inj q)
  rw[decide_eq_false h,decide_eq_false e]
theorem yw7 (a:Int)(b:Str):decide ((Sum.inl a:Key)=Sum.inr b)=false:=decide_eq_false (fun q=>nomatch q)
theorem yw8 (a:Str)(b:Int):decide ((Sum.inr a:Key)=Sum.inl b)=false:=decide_eq_false (fun q=>nomatch q)
def yb0 (prog:Program)(w:World):PySem.KeyKind prog w Key where
 is:=ypf
 hash:=yzy w
 inj:=fun v a b ha hb=>by
  rcases ybu ha with ⟨i,t,rfl,rfl⟩ | ⟨x,t,rfl,rfl⟩
  ·rcases ybu hb with ⟨j,u,rfl,e⟩ | ⟨y,u,rfl,e⟩
   ·injection e with e1 _;rw[e1]
   ·exact nomatch e
  ·rcases ybu hb with ⟨j,u,rfl,e⟩ | ⟨y,u,rfl,e⟩
   ·exact nomatch e
   ·injection e with e1 _;rw[e1]
 byValue:=fun k v h=>by
  rcases ybu h with ⟨i,t,rfl,rfl⟩ | ⟨x,t,rfl,rfl⟩ <;> rfl
 pyHash:=fun hv h=>by
  rcases ybu hv with ⟨i,t,rfl,rfl⟩ | ⟨x,t,rfl,rfl⟩
  ·exact wpAny_pyHash_int h
  ·exact wpAny_pyHash_str h
 eqBool:=fun hu hv h=>by
  rcases ybu hu with ⟨i,t,rfl,rfl⟩ | ⟨x,t,rfl,rfl⟩
  ·rcases ybu hv with ⟨j,u,rfl,rfl⟩ | ⟨y,u,rfl,rfl⟩
   ·rw[yw5] at h;exact wpAny_eqBool_int h
   ·rw[yw7] at h;exact SeqAt.EqAt.int_str i t y u _ _ _ _ h
  ·rcases ybu hv with ⟨j,u,rfl,rfl⟩ | ⟨y,u,rfl,rfl⟩
   ·rw[yw8] at h;exact SeqAt.EqAt.str_int x t j u _ _ _ _ h
   ·rw[yw6] at h;exact wpAny_eqBool_str h
 «strs»:=fun k x t v h=>by
  rcases ybu h with ⟨i,u,rfl,e⟩ | ⟨y,u,rfl,e⟩
  ·exact nomatch e
  ·injection e with e1 _
   subst e1
   cases v <;> rfl
theorem ymx (prog:Program)(w:World)(i:Int)(t:Tok):(yb0 prog w).is (.inl i) (.int i t)=true:=yqo i t
theorem ymy (prog:Program)(w:World)(x:Str)(t:Tok):(yb0 prog w).is (.inr x) (.str x t)=true:=yqp x t
inductive V where
 |non|bl (b:Bool)|int (i:Int)|str (x:Str)|byt (b:Array UInt8)|flt (b:UInt64)|ref (a:Addr)|ty (n:String)
 deriving DecidableEq
def RelV:V→Value→Prop
 |.non,u=>u=Value.none
 |.bl b,u=>u=Value.bool b
 |.int i,u=>∃t,u=Value.int i t
 |.str x,u=>∃t,u=Value.str x t
 |.byt b,u=>∃t,u=Value.bytes b t
 |.flt b,u=>∃t,u=Value.float b t
 |.ref a,u=>u=Value.ref a
 |.ty n,u=>u=Value.type n
abbrev Vals:List V→List Value→Prop:=Paired RelV
theorem Vals.length {xs:List V}{us:List Value}(r:Vals xs us):xs.length=us.length:=Paired.length r
theorem Vals.get:∀{xs:List V}{us:List Value}{i:Nat}{x:V},Vals xs us→xs[i]? = some x→∃u,us[i]? = some u∧RelV x u
 |_,_,_,_,.nil,e=>by simp at e
 |_,_,0,_,.cons r _,e=>by simp at e;subst e;exact⟨_,rfl,r⟩
 |_,_,i+1,x,.cons _ t,e=>by
  obtain ⟨u,h1,h2⟩:=Vals.get (i:=i) (x:=x) t (by simpa using e)
  exact⟨u,by simpa using h1,h2⟩
theorem Vals.set {x:V}{u:Value}(r:RelV x u):∀{xs:List V}{us:List Value} (i:Nat),Vals xs us→Vals (xs.set i x) (us.set i u)
 |_,_,_,.nil=>.nil
 |_,_,0,.cons _ t=>.cons r t
 |_,_,i+1,.cons q t=>.cons q (Vals.set r i t)
theorem Vals.append:∀{xs ys:List V}{us ws:List Value},Vals xs us→Vals ys ws→Vals (xs++ys) (us++ws)
 |_,_,_,_,.nil,s=>s
 |_,_,_,_,.cons r t,s=>.cons r (Vals.append t s)
theorem Vals.take:∀{xs:List V}{us:List Value} (n:Nat),Vals xs us→Vals (xs.take n) (us.take n)
 |_,_,0,_=>.nil
 |_,_,_+1,.nil=>.nil
 |_,_,n+1,.cons r t=>.cons r (Vals.take n t)
theorem Vals.drop:∀{xs:List V}{us:List Value} (n:Nat),Vals xs us→Vals (xs.drop n) (us.drop n)
 |_,_,0,r=>r
 |_,_,_+1,.nil=>.nil
 |_,_,n+1,.cons _ t=>Vals.drop n t
def RelO:Option V→Option Value→Prop
 |some v,some u=>RelV v u
 |none,none=>True
 |_,_=>False
def KV {κ:Type}:List (κ×V)→List (κ×Value)→Prop:=Paired fun (p:κ×V) (q:κ×Value)=>p.1=q.1∧RelV p.2 q.2
def kV:Key→V
 |.inl i=>.int i
 |.inr x=>.str x
inductive HO where
 |lst (xs:List V)
 |tup (xs:List V)
 |dK (kvs:List (Key×V))|dT (kvs:List (List Key×V))
 |set (S:Int→Bool) (n:Nat)
 |ins (C dx:Addr) (fs:List (Str×V))
 |own (x:Addr)
 |xd (fs:List (Str×V))
 |met (f x:Addr)
 |rng (lo hi:Int)
 |frz (o:Obj) (u:HO)
 |tbl (ps:Array Value)
 |ext (φ:Heap→Prop)
 |cod (q:Str) (pos:Pos)
abbrev Hp:=Addr→Option HO
def upd (H:Hp)(a:Addr)(o:HO):Hp:=fun b=>if b=a then some o else H b
theorem yaa {H:Hp}{a:Addr}{o:HO}:upd H a o a=some o:=by unfold upd;rw[if_pos rfl]
theorem yal {H:Hp}{a b:Addr}{o:HO}(h:b≠a):upd H a o b=H b:=by unfold upd;rw[if_neg h]
theorem yjz {H:Hp}{a:Addr}{o u:HO}:upd (upd H a o) a u=upd H a u:=by
 funext b;unfold upd;split <;> rfl
theorem ymz {H:Hp}{a b:Addr}{o u:HO}(h:H a=some o)(h':H b=some u)(d:o≠u):a≠b:=by
 intro e;subst e;rw[h] at h';exact d (Option.some.inj h')
theorem yaj {H:Hp}{a b:Addr}{o:HO}(h:H a=some o)(h':H b=none):a≠b:=by
 intro e;subst e;rw[h] at h';cases h'
section
variable (P:Program)(w:World)
def ObjOk (H:Hp)(h:Heap)(a:Addr):HO→Prop
 |.lst xs=>xs.length≤sizeLine∧∃(its:List Value) (n:Nat),Vals xs its∧h.get? a=some { cls:=.type "list",data:=.seq its.toArray n }
 |.tup xs=>xs.length≤sizeLine∧∃its:List Value,Vals xs its∧IsTup h a its.toArray
 |.dK kvs=>kvs.length≤sizeLine∧(a == sysModules)=false∧∃vs,KV kvs vs∧h.DictOf (yb0 P w) a vs
 |.dT kvs=>kvs.length≤sizeLine∧(a == sysModules)=false∧∃xs:List (List Key×Addr×Value),
  Paired (fun (p:List Key×V) (q:List Key×Addr×Value)=>p.1=q.1∧H q.2.1=some (.tup (p.1.map kV))∧RelV p.2 q.2.2) kvs xs∧
  ∃o es ep,h.get? a=some o∧o.ExactDict∧o.data = .dict es ep∧es.toList=xs.map (entryOfKey (tupleKind (yb0 P w)))∧(xs.map (·.1)).Nodup
 |.set S n=>h.SetOf (intKind P w) a S n
 |.ins C dx fs=>H dx=some (.own a)∧fs.length≤1000∧dx≠a∧h.get? a=some (PySem.W.instObj C dx)∧
  ∃mA,h.Ns1 dx mA∧(∀f,RelO (fs.lookup f) (mA f))∧PySem.Within mA (fs.map (·.1))
 |.own _=>∃o,h.get? a=some o
 |.xd fs=>∃mA,h.Ns1 a mA∧∀f,RelO (fs.lookup f) (mA f)
 |.rng lo hi=>∃t u v,h.get? a=some { cls:=.type "range",data:=.fields #[.int lo t,.int hi u,.int 1 v] }
 |.frz o u=>h.get? a=some o∧ObjOk H h a u
 |.tbl ps=>h.get? a=some { cls:=.none,data:=.fields ps }
 |.met f x=>h.get? a=some (PySem.W.methodObj (.ref f) (.ref x))
 |.ext φ=>φ h∧(∃o,h.get? a=some o)∧∀h1 h2:Heap,φ h1→(∀o,h1.get? a=some o→h2.get? a=some o)→φ h2
 |.cod q pos=>h.get? a=some { cls:=.none,data:=.fields #[] }∨∃c,h.get? a=some { cls:=.none,data:=.fields #[rawInt pos.line,rawInt pos.col,.ref c] }∧H c=some (.own a)∧h.CodeRec (.ref c) q
def HOk (H:Hp)(h:Heap):Prop:=∀a o,H a=some o→ObjOk P w H h a o
end
section
variable {P:Program}{w:World}{H H':Hp}{h h':Heap}{a:Addr}{o:HO}
theorem ObjOk.lt (x:ObjOk P w H h a o):a<h.objs.size:=by
 cases o with
 |lst xs=>obtain ⟨_,_,_,_,e⟩:=x;exact Heap.lt_size e
 |tup xs=>obtain ⟨_,_,_,p⟩:=x;exact p.lt
 |dK kvs=>obtain ⟨_,_,_,_,o,_,_,e,_⟩:=x;exact Heap.lt_size e
 |dT kvs=>obtain ⟨_,_,_,_,o,_,_,e,_⟩:=x;exact Heap.lt_size e
 |set S n=>obtain ⟨o,_,_,_,e,_⟩:=x;exact Heap.lt_size e
 |ins C dx fs=>obtain ⟨_,_,_,e,_⟩:=x;exact Heap.lt_size e
 |own y=>obtain ⟨_,e⟩:=x;exact Heap.lt_size e
 |xd fs=>obtain ⟨_,⟨_,_,_,e,_⟩,_⟩:=x;exact Heap.lt_size e
 |rng lo hi=>obtain ⟨_,_,_,e⟩:=x;exact Heap.lt_size e
 |frz ob u=>obtain ⟨e,_⟩:=x;exact Heap.lt_size e
 |tbl ps=>exact Heap.lt_size (show h.get? a=some _ from x)
 |met f y=>exact Heap.lt_size (show h.get? a=some _ from x)
 |ext φ=>obtain ⟨_,⟨_,e⟩,_⟩:=x;exact Heap.lt_size e
 |cod q pos=>rcases x with e|⟨_,e,_⟩ <;> exact Heap.lt_size e
theorem Paired.mapP {α β:Type}{F G:α→β→Prop}:∀{l₁:List α}{l₂:List β},Paired F l₁ l₂→(∀a b,F a b→G a b)→Paired G l₁ l₂
 |_,_,.nil,_=>.nil
 |_,_,.cons r t,f=>.cons (f _ _ r) (Paired.mapP t f)
theorem ObjOk.stay (x:ObjOk P w H h a o)(k:∀b u,(b=a∨H b=some (.own a))→h.get? b=some u→h'.get? b=some u)
 (ho:∀b,H b=some (.own a)→H' b=some (.own a)) (ht:∀b xs,H b=some (.tup xs)→H' b=some (.tup xs)):ObjOk P w H' h' a o:=by
 induction o with
 |lst xs=>obtain ⟨z,its,n,r,e⟩:=x;exact⟨z,its,n,r,k _ _ (.inl rfl) e⟩
 |tup xs=>obtain ⟨z,its,r,ob,e,c⟩:=x;exact⟨z,its,r,ob,k _ _ (.inl rfl) e,c⟩
 |dK kvs=>obtain ⟨z,y,vs,r,ob,es,ep,e,c⟩:=x;exact⟨z,y,vs,r,ob,es,ep,k _ _ (.inl rfl) e,c⟩
 |dT kvs=>
  obtain ⟨z,y,xs,r,ob,es,ep,e,c⟩:=x
  exact⟨z,y,xs,Paired.mapP r fun p q z=>⟨z.1,ht _ _ z.2.1,z.2.2⟩,ob,es,ep,k _ _ (.inl rfl) e,c⟩
 |set S n=>obtain ⟨ob,es,ep,t,e,c⟩:=x;exact⟨ob,es,ep,t,k _ _ (.inl rfl) e,c⟩
 |ins C dx fs=>
  obtain ⟨d,z,ne,e,mA,⟨od,es,ep,e2,c⟩,r⟩:=x
  exact⟨ho _ d,z,ne,k _ _ (.inl rfl) e,mA,⟨od,es,ep,k _ _ (.inr d) e2,c⟩,r⟩
 |own y=>obtain ⟨ob,e⟩:=x;exact⟨ob,k _ _ (.inl rfl) e⟩
 |xd fs=>obtain ⟨mA,⟨od,es,ep,e,c⟩,r⟩:=x;exact⟨mA,⟨od,es,ep,k _ _ (.inl rfl) e,c⟩,r⟩
 |rng lo hi=>obtain ⟨t,u,v,e⟩:=x;exact⟨t,u,v,k _ _ (.inl rfl) e⟩
 |frz ob u ih=>obtain ⟨e,q⟩:=x;exact⟨k _ _ (.inl rfl) e,ih q⟩
 |tbl ps=>
  have e:h.get? a=some { cls:=.none,data:=.fields ps }:=x
  show h'.get? a=some { cls:=.none,data:=.fields ps }
  exact k a _ (.inl rfl) e
 |met f y=>
  have e:h.get? a=some (PySem.W.methodObj (.ref f) (.ref y)):=x
  show h'.get? a=some (PySem.W.methodObj (.ref f) (.ref y))
  exact k a _ (.inl rfl) e
 |ext φ=>obtain ⟨p,⟨o,e⟩,st⟩:=x;exact⟨st _ _ p fun o q=>k _ _ (.inl rfl) q,⟨o,k _ _ (.inl rfl) e⟩,st⟩
 |cod q pos=>
  rcases x with e|⟨c,e,hw,c2,oc,vs,t,e1,e2,r⟩
  ·exact .inl (k _ _ (.inl rfl) e)
  ·cases e1
   exact .inr ⟨c,k _ _ (.inl rfl) e,ho _ hw,c,oc,vs,t,rfl,k _ _ (.inr hw) e2,r⟩
theorem HOk.lt (x:HOk P w H h)(e:H a=some o):a<h.objs.size:=(x a o e).lt
theorem HOk.fresh (x:HOk P w H h)(e:h.objs.size≤a):H a=none:=by
 cases q:H a with
 |none=>rfl
 |some u=>exact absurd (Nat.lt_of_lt_of_le (x.lt q) e) (Nat.lt_irrefl _)
theorem HOk.kept (x:HOk P w H h)(k:∀b u,h.get? b=some u→h'.get? b=some u):HOk P w H h':=fun a o e=>
 (x a o e).stay (fun b u _ q=>k b u q) (fun _ q=>q) fun _ _ q=>q
theorem HOk.laid (x:HOk P w H h)(k:∀b u,h.get? b=some u→h'.get? b=some u)(hp:h.objs.size≤a)(new:ObjOk P w (upd H a o) h' a o):HOk P w (upd H a o) h':=fun b u e=>by
 have hn:=x.fresh hp
 by_cases hb:b=a
 ·subst hb;rw[yaa] at e;cases e;exact new
 ·rw[yal hb] at e
  exact(x b u e).stay (fun c v _ q=>k c v q) (fun c q=>by rw[yal (yaj q hn)];exact q) fun c xs q=>by rw[yal (yaj q hn)];exact q
end
def Rd (H:Hp)(a:Addr)(u:HO):Prop:=H a=some u∨∃o,H a=some (.frz o u)
theorem Rd.ok {P:Program}{w:World}{H:Hp}{h:Heap}{a:Addr}{u:HO}(r:Rd H a u)(x:HOk P w H h):ObjOk P w H h a u:=by
 rcases r with r|⟨o,r⟩
 ·exact x a u r
 ·obtain ⟨_,q⟩:=x a _ r
  exact q
def Mut:Option HO→Prop
 |some (.lst _)=>True
 |some (.dK _)=>True
 |some (.dT _)=>True
 |some (.set _ _)=>True
 |some (.ins _ _ _)=>True
 |some (.ext _)=>True
 |_=>False
section
variable {P:Program}{w:World}{H:Hp}{h h':Heap}{x e:Addr}{o':HO}
theorem HOk.write (ok:HOk P w H h)(mu:Mut (H x))(he:e=x∨H e=some (.own x))(k:∀b u,b≠e→h.get? b=some u→h'.get? b=some u)(heo:∃u,h'.get? e=some u)
 (new:ObjOk P w (upd H x o') h' x o'):HOk P w (upd H x o') h':=fun b u q=>by
 have nown:∀c y,H c=some (.own y)→c≠x:=fun c y r z=>by subst z;rw[r] at mu;exact mu
 have ntup:∀c xs,H c=some (.tup xs)→c≠x:=fun c xs r z=>by subst z;rw[r] at mu;exact mu
 by_cases hb:b=x
 ·subst hb;rw[yaa] at q;cases q;exact new
 ·rw[yal hb] at q
  by_cases hbe:b=e
  ·have q':H b=some (.own x):=by
    rcases he with z|z
    ·exact absurd (hbe.trans z) hb
    ·rw[hbe];exact z
   rw[q] at q';cases q'
   obtain ⟨v,hv⟩:=heo
   exact⟨v,by rw[hbe];exact hv⟩
  ·refine(ok b u q).stay (fun c v hc r=>k c v ?_ r) (fun c r=>by rw[yal (nown c b r)];exact r) fun c xs r=>by rw[yal (ntup c xs r)];exact r
   rcases hc with rfl|hc
   ·exact hbe
   ·rintro rfl
    rcases he with z|z
    ·exact nown c b hc z
    ·rw[hc] at z;cases z;exact hb rfl
end
structure Un (fs ex:List Addr) (H H':Hp) (h h':Heap):Prop where
 keep:∀b o,h.get? b=some o→H b=none→b ∉ fs→b ∉ ex→h'.get? b=some o
 slot:∀b o,h.get? b=some o→H b=none→b∈fs→b ∉ ex→∃sl,h'.get? b=some { o with slots:=sl }
 free:∀b o,h.get? b=some o→H b=none→b ∉ ex→H' b=none
 there:∀b o,h.get? b=some o→b ∉ ex→∃o',h'.get? b=some o'
 tups:∀b xs,H b=some (.tup xs)→H' b=some (.tup xs)
 frzs:∀b o u,H b=some (.frz o u)→H' b=some (.frz o u)
 tbls:∀b ps,H b=some (.tbl ps)→∃more,H' b=some (.tbl (ps++more))
section
variable {fs fs' ex ex':List Addr}{H H1 H2:Hp}{h h1 h2 h':Heap}{a x e:Addr}{o:HO}
theorem Un.any (u:Un fs ex H H1 h h1){b:Addr}{ob:Obj}(q:h.get? b=some ob)(n:H b=none)(hx:b ∉ ex):∃sl,h1.get? b=some { ob with slots:=sl }:=by
 by_cases hb:b∈fs
 ·exact u.slot b ob q n hb hx
 ·exact⟨ob.slots,u.keep b ob q n hb hx⟩
theorem Un.kept (k:∀b u,h.get? b=some u→h'.get? b=some u):Un fs ex H H h h':=
 ⟨fun b ob q _ _ _=>k b ob q,fun b ob q _ _ _=>⟨ob.slots,k b ob q⟩,fun _ _ _ n _=>n,fun b ob q _=>⟨ob,k b ob q⟩,fun _ _ q=>q,fun _ _ _ q=>q,fun _ ps q=>⟨#[],by rw[q];simp⟩⟩
theorem Un.refl:Un fs ex H H h h:=Un.kept fun _ _ q=>q
theorem Un.laid (k:∀b u,h.get? b=some u→h'.get? b=some u)(hp:h.objs.size≤a)(hn:H a=none):Un fs ex H (upd H a o) h h' where
 keep:=fun b u q _ _ _=>k b u q
 slot:=fun b u q _ _ _=>⟨u.slots,k b u q⟩
 free:=fun b u q n _=>by rw[yal (Nat.ne_of_lt (Nat.lt_of_lt_of_le (Heap.lt_size q) hp))];exact n
 there:=fun b u q _=>⟨u,k b u q⟩
 tups:=fun b xs q=>by rw[yal (yaj q hn)];exact q
 frzs:=fun b u xs q=>by rw[yal (yaj q hn)];exact q
 tbls:=fun b ps q=>⟨#[],by rw[yal (yaj q hn),q];simp⟩
theorem Un.write (mu:Mut (H x))(he:e=x∨H e=some (.own x))(k:∀b u,b≠e→h.get? b=some u→h'.get? b=some u)(heo:∃u,h'.get? e=some u):Un fs ex H (upd H x o) h h':=by
 have hx:∀b,H b=none→b≠x:=fun b n z=>by subst z;rw[n] at mu;exact mu
 have hb:∀b,H b=none→b≠e:=fun b n z=>by
  subst z
  rcases he with r|r
  ·exact hx b n r
  ·rw[n] at r;cases r
 have hm:∀b u,H b=some u→¬ Mut (some u)→b≠x:=fun b u q nm z=>by subst z;rw[q] at mu;exact nm mu
 refine⟨fun b u q n _ _=>k b u (hb b n) q,fun b u q n _ _=>⟨u.slots,k b u (hb b n) q⟩,fun b u q n _=>by rw[yal (hx b n)];exact n,fun b u q _=>?_,
  fun b xs q=>by rw[yal (hm b _ q fun z=>z)];exact q,fun b u xs q=>by rw[yal (hm b _ q fun z=>z)];exact q,fun b ps q=>⟨#[],by rw[yal (hm b _ q fun z=>z),q];simp⟩⟩
 by_cases hbe:b=e
 ·subst hbe;exact heo
 ·exact⟨u,k b u hbe q⟩
end
def trk (h:Heap)(H:Hp):List Addr:=(List.range h.objs.size).filter fun a=>(H a).isSome
def ys9 (h:Heap)(H:Hp):Heap:=PySem.W.hideAll h (trk h H)
theorem yqq (h:Heap)(H:Hp):(ys9 h H).objs.size=h.objs.size:=PySem.W.hideAll_size _ _
theorem yta {h:Heap}{H:Hp}{b:Addr}{o:Obj}(e:h.get? b=some o)(n:H b=none):(ys9 h H).get? b=some o:=
 PySem.W.hideAll_get _ e fun hm=>by
  have q:(H b).isSome=true:=(List.mem_filter.mp hm).2
  rw[n] at q;simp at q
theorem yvo {h:Heap}{H:Hp}{b:Addr}{o:Obj}(e:(ys9 h H).get? b=some o):h.get? b=some o∧H b=none:=by
 have e':h.get? b=some o:=PySem.W.of_hideAll (trk h H) e
 refine⟨e',?_⟩
 cases q:H b with
 |none=>rfl
 |some x=>
  have hm:b∈trk h H:=List.mem_filter.mpr ⟨List.mem_range.mpr (Heap.lt_size e'),by simp [q]⟩
  have z:(ys9 h H).get? b=none:=PySem.W.hideAll_none (trk h H) hm
  rw[z] at e;cases e
def yvp (g h:Heap)(L:Addr):List (Addr×Obj):=(List.range h.objs.size).filterMap fun a=>if a=L∨(g.get? a).isSome=true then none else (h.get? a).map fun o=>(a,o)
def rest (g h:Heap)(L d:Addr):List (Addr×Obj):=(yvp g h L).filter fun p=>decide (p.1≠d)
structure Mod (K:PySem.W.Frag) (mg:Str→Option Value) (base:Heap):Prop where
 kin:K.In base
 glob:base.Ns mainGlobals mg
 blt:∃mb,base.Ns builtinsNs mb∧∀x:Str,x ≠ "__name__" → mb x=bootBuiltins x
 nolimit:base.NoLimit
structure Cx where
 prog:Program
 w:World
 K:PySem.W.Frag
 mg:Str→Option Value
 base:Heap
 A:Around
 N:List Str
 s₀:Shared
 H₀:Hp
 env:Env
 outer:List Env
 stack:List Env
 ex:List Addr
 fn:Str→Bool
 calm:Bool
 pn:List (Addr×Obj)
 xe:Value→Shared→Prop
def frs (l:List Env):List Addr:=l.filterMap (·.frame)
abbrev Cx.fs (X:Cx):List Addr:=frs X.outer
def Vis (sc:Scope)(x:Str):Prop:=sc.names.lookup x=some .local∨sc.names.lookup x=some .cell∨sc.names.lookup x=some .free
def Loc (sc:Scope)(x:Str):Prop:=sc.names.lookup x=some .local∨sc.names.lookup x=some .cell
def yzz (env:Env)(h:Heap)(m:Str→Option Value)(x:Str)(u:Value):Prop:=
 (env.kindOf x=some .local∧m x=some u)∨((env.kindOf x=some .cell∨env.kindOf x=some .free)∧∃c,env.cells.lookup x=some c∧h.IsCell c (some u))
structure Cx.Ok (X:Cx):Prop where
 mod:Mod X.K X.mg X.base
 kind:X.env.scope.kind = .function
 glob:X.env.globals=mainGlobals
 blt:X.env.builtins=builtinsNs
 above:X.s₀.heap.objs.size≤X.env.locals
 inj:∀x y c,X.env.cells.lookup x=some c→X.env.cells.lookup y=some c→x=y
 has:∀x,(X.env.kindOf x=some .cell∨X.env.kindOf x=some .free)→∃c,X.env.cells.lookup x=some c
 cab:∀x c,X.fn x=true→X.env.cells.lookup x=some c→X.s₀.heap.objs.size≤c
 hd:X.calm=true→X.A.handled=none
 frames:X.A.frames=some X.stack
 stk:X.stack=X.outer∨(X.stack=X.env::X.outer∧X.env.frame=some X.env.locals)
 exf:∀b∈X.ex,b≠X.env.locals∧∀x c,X.env.cells.lookup x=some c→c≠b
 bs:∀b o,X.base.get? b=some o→X.s₀.heap.get? b=some o∧X.H₀ b=none
 bsz:X.base.objs.size≤X.s₀.heap.objs.size
 noex:∀b o,X.base.get? b=some o→b ∉ X.ex
 exfs:∀b∈X.ex,b ∉ X.fs
 funs:X.s₀.heap.FunFrames X.base X.outer
 frf:∀b∈X.fs,X.H₀ b=none
structure Inv (X:Cx) (pins:List (Addr×Obj)) (σ:List (Option V)) (H:Hp) (s:Shared):Prop where
 ok:X.Ok
 os:s.os=X.s₀.os
 bare:AllBare s.gens
 base:Un X.fs X.ex X.H₀ H X.s₀.heap s.heap
 loc:∃m,s.heap.Ns X.env.locals m∧∀(i:Nat) (x:Str) (v:V),X.N[i]? = some x→σ[i]? = some (some v)→Vis X.env.scope x→∃u,RelV v u∧yzz X.env s.heap m x u
 cell:∀x c,X.env.cells.lookup x=some c→∃v,s.heap.IsCell c v
 free:H X.env.locals=none
 freeC:∀x c,X.env.cells.lookup x=some c→H c=none
 pin:∀p∈X.pn++pins,s.heap.get? p.1=some p.2∧H p.1=none∧p.1≠X.env.locals∧p.1 ∉ X.fs∧∀v,p.2.data≠.cell v
 hok:HOk X.prog X.w H s.heap
 len:σ.length=X.N.length
section
variable {X:Cx}{pins:List (Addr×Obj)}{σ:List (Option V)}{H H':Hp}{s:Shared}{h':Heap}
theorem Cx.Ok.nofr (ok:X.Ok){b:Addr}{o:Obj}(e:X.base.get? b=some o):b ∉ X.fs:=fun hb=>by
 have:=(ok.funs.mem hb).1
 rw[e] at this;cases this
theorem Inv.bs (I:Inv X pins σ H s):∀b o,X.base.get? b=some o→s.heap.get? b=some o∧H b=none:=fun b o e=>
 ⟨I.base.keep b o (I.ok.bs b o e).1 (I.ok.bs b o e).2 (I.ok.nofr e) (I.ok.noex b o e),I.base.free b o (I.ok.bs b o e).1 (I.ok.bs b o e).2 (I.ok.noex b o e)⟩
theorem Inv.bk (I:Inv X pins σ H s):∀b o,X.base.get? b=some o→s.heap.get? b=some o:=fun b o e=>(I.bs b o e).1
theorem Inv.mod (I:Inv X pins σ H s):Mod X.K X.mg X.base:=I.ok.mod
theorem Inv.kIn (I:Inv X pins σ H s):X.K.In s.heap:=I.ok.mod.kin.keeps I.bk
theorem Inv.nolimit (I:Inv X pins σ H s):s.heap.NoLimit:=I.ok.mod.nolimit.keeps I.bk
theorem Inv.lt (I:Inv X pins σ H s):X.env.locals<s.heap.objs.size:=let ⟨_,hn,_⟩:=I.loc;hn.lt
theorem Inv.sz (I:Inv X pins σ H s):X.s₀.heap.objs.size≤s.heap.objs.size:=Nat.le_trans I.ok.above (Nat.le_of_lt I.lt)
theorem Inv.nofs (I:Inv X pins σ H s){a:Addr}(h:s.heap.objs.size≤a):a ∉ X.fs:=fun hb=>by
 obtain ⟨_,o,ho,_⟩:=I.ok.funs.mem hb
 exact absurd (Nat.lt_of_lt_of_le (Heap.lt_size ho) (Nat.le_trans I.sz h)) (Nat.lt_irrefl _)
theorem Inv.cne (I:Inv X pins σ H s):∀x c,X.env.cells.lookup x=some c→c≠X.env.locals:=fun x c e z=>by
 obtain ⟨v,o,ho,hd⟩:=I.cell x c e
 obtain ⟨m,⟨o',es,ep,ho',hd',_⟩,_⟩:=I.loc
 rw[z,ho'] at ho;cases ho;rw[hd'] at hd;cases hd
theorem Inv.funs (I:Inv X pins σ H s):s.heap.FunFrames X.base X.outer:=by
 have all:∀(l:List Env),(∀b∈frs l,b∈X.fs)→X.s₀.heap.FunFrames X.base l→s.heap.FunFrames X.base l:=by
  intro l
  induction l with
  |nil=>intro _ _;trivial
  |cons env r ih=>
   intro hs hl
   obtain ⟨hk,⟨L,o,hf,hn,ho,hd⟩,hr⟩:=hl
   have hL:L∈X.fs:=hs L (by unfold frs;rw[List.filterMap_cons,hf];exact List.mem_cons_self)
   obtain ⟨sl,e⟩:=I.base.slot L o ho (I.ok.frf L hL) hL fun z=>I.ok.exfs L z hL
   exact⟨hk,⟨L,_,hf,hn,e,hd⟩,ih (fun b hb=>hs b (by unfold frs;rw[List.filterMap_cons,hf];exact List.mem_cons_of_mem _ hb)) hr⟩
 exact all X.outer (fun _ hb=>hb) I.ok.funs
theorem Inv.stack (I:Inv X pins σ H s):s.heap.FunFrames X.base X.stack:=by
 rcases I.ok.stk with e|⟨e,hf⟩
 ·rw[e];exact I.funs
 ·rw[e]
  obtain ⟨m,hn,_⟩:=I.loc
  refine .cons (by rw[I.ok.kind];decide) hf hn ?_ I.funs
  exact Heap.get?_none_of_le (Nat.le_trans I.ok.bsz I.ok.above)
theorem Inv.stkSub (I:Inv X pins σ H s):∀b∈frs X.stack,b∈X.env.locals::X.fs:=fun b hb=>by
 rcases I.ok.stk with e|⟨e,hf⟩
 ·rw[e] at hb;exact List.mem_cons_of_mem _ hb
 ·rw[e] at hb
  unfold frs at hb
  rw[List.filterMap_cons,hf] at hb
  exact hb
theorem Inv.stkFree (I:Inv X pins σ H s):∀b∈frs X.stack,H b=none:=fun b hb=>by
 rcases List.mem_cons.mp (I.stkSub b hb) with e|hb
 ·rw[e];exact I.free
 ·obtain ⟨_,o,ho,_⟩:=I.ok.funs.mem hb
  exact I.base.free b o ho (I.ok.frf b hb) fun z=>I.ok.exfs b z hb
theorem Inv.step {g':Array GenState}{t':Nat}{d':Drawn}{ch:List Addr}(I:Inv X pins σ H s)
 (hch:∀b∈ch,(b∈X.ex∨X.s₀.heap.objs.size≤b)∧b≠X.env.locals∧(∀x c,X.env.cells.lookup x=some c→c≠b)∧∀p∈X.pn++pins,p.1≠b)
 (keep:∀b o,b≠X.env.locals→b ∉ X.fs→b ∉ ch→s.heap.get? b=some o→H b=none→h'.get? b=some o)
 (slot:∀b o,b≠X.env.locals→b∈X.fs→b ∉ ch→s.heap.get? b=some o→H b=none→∃sl,h'.get? b=some { o with slots:=sl }) (free:∀b o,b ∉ ch→s.heap.get? b=some o→H b=none→H' b=none)
 (there:∀b o,b ∉ ch→s.heap.get? b=some o→∃o',h'.get? b=some o')
 (tups:∀b xs,H b=some (.tup xs)→H' b=some (.tup xs)) (frzs:∀b o u,H b=some (.frz o u)→H' b=some (.frz o u)) (tbls:∀b ps,H b=some (.tbl ps)→∃more,H' b=some (.tbl (ps++more)))
 (ns:∀m,s.heap.Ns X.env.locals m→h'.Ns X.env.locals m) (hok:HOk X.prog X.w H' h') (hg:AllBare g') :
 Inv X pins σ H' { s with heap:=h',gens:=g',drawn:=d',toks:=t' }:=by
 have neL:∀b o,X.s₀.heap.get? b=some o→b≠X.env.locals:=fun b o e=>Nat.ne_of_lt (Nat.lt_of_lt_of_le (Heap.lt_size e) I.ok.above)
 have neC:∀b o,X.s₀.heap.get? b=some o→b ∉ X.ex→b ∉ ch:=fun b o e hx hb=>by
  rcases (hch b hb).1 with z|z
  ·exact hx z
  ·exact absurd (Nat.lt_of_lt_of_le (Heap.lt_size e) z) (Nat.lt_irrefl _)
 have cellK:∀x c,X.env.cells.lookup x=some c→∀v,s.heap.IsCell c v→h'.IsCell c v:=fun x c e v ⟨o,ho,hd⟩=>by
  have nch:c ∉ ch:=fun z=>(hch c z).2.2.1 x c e rfl
  by_cases hc:c∈X.fs
  ·obtain ⟨sl,q⟩:=slot c o (I.cne x c e) hc nch ho (I.freeC x c e)
   exact⟨_,q,hd⟩
  ·exact⟨o,keep c o (I.cne x c e) hc nch ho (I.freeC x c e),hd⟩
 refine⟨I.ok,I.os,hg,⟨fun b o e n hb hx=>?_,fun b o e n hb hx=>?_,fun b o e n hx=>?_,fun b o e hx=>?_,fun b xs e=>tups b xs (I.base.tups b xs e),fun b o xs e=>frzs b o xs (I.base.frzs b o xs e),fun b ps e=>?_⟩,?_,fun x c e=>?_,?_,fun x c e=>?_,fun p hp=>?_,hok,I.len⟩
 ·exact keep b o (neL b o e) hb (neC b o e hx) (I.base.keep b o e n hb hx) (I.base.free b o e n hx)
 ·obtain ⟨sl,e1⟩:=I.base.slot b o e n hb hx
  obtain ⟨sl',e2⟩:=slot b _ (neL b o e) hb (neC b o e hx) e1 (I.base.free b o e n hx)
  exact⟨sl',e2⟩
 ·obtain ⟨o',e1⟩:=I.base.there b o e hx
  exact free b o' (neC b o e hx) e1 (I.base.free b o e n hx)
 ·obtain ⟨o',e1⟩:=I.base.there b o e hx
  exact there b o' (neC b o e hx) e1
 ·obtain ⟨m1,e1⟩:=I.base.tbls b ps e
  obtain ⟨m2,e2⟩:=tbls b _ e1
  exact⟨m1++m2,by rw[e2,Array.append_assoc]⟩
 ·obtain ⟨m,hn,hl⟩:=I.loc
  refine⟨m,ns m hn,fun i x v e1 e2 e3=>?_⟩
  obtain ⟨u,r,l⟩:=hl i x v e1 e2 e3
  refine⟨u,r,?_⟩
  rcases l with l|⟨k,c,e,z⟩
  ·exact .inl l
  ·exact .inr ⟨k,c,e,cellK x c e _ z⟩
 ·obtain ⟨v,z⟩:=I.cell x c e
  exact⟨v,cellK x c e v z⟩
 ·obtain ⟨m,⟨o,_,_,ho,_⟩,_⟩:=I.loc
  exact free _ o (fun z=>(hch _ z).2.1 rfl) ho I.free
 ·obtain ⟨v,o,ho,hd⟩:=I.cell x c e
  exact free c o (fun z=>(hch c z).2.2.1 x c e rfl) ho (I.freeC x c e)
 ·obtain ⟨e,n,ne,nf,d⟩:=I.pin p hp
  have nch:p.1 ∉ ch:=fun z=>(hch p.1 z).2.2.2 p hp rfl
  exact⟨keep p.1 p.2 ne nf nch e n,free p.1 p.2 nch e n,ne,nf,d⟩
theorem Inv.un {t':Nat}(I:Inv X pins σ H s)(u:Un X.fs [] H H' s.heap h')(hok:HOk X.prog X.w H' h'):Inv X pins σ H' { s with heap:=h',toks:=t' }:=by
 obtain ⟨m,⟨o,es,ep,ho,r⟩,_⟩:=id I.loc
 obtain ⟨sl,hL⟩:=u.any ho I.free (by simp)
 exact I.step (g':=s.gens) (d':=s.drawn) (ch:=[]) (fun _ z=>nomatch z) (fun b o _ hb _ e n=>u.keep b o e n hb (by simp)) (fun b o _ hb _ e n=>u.slot b o e n hb (by simp)) (fun b o _ e n=>u.free b o e n (by simp)) (fun b o _ e=>u.there b o e (by simp)) u.tups u.frzs u.tbls (fun m' hm=>by
  obtain ⟨o',es',ep',ho',r'⟩:=hm
  rw[ho] at ho';cases ho'
  exact⟨_,es',ep',hL,r'⟩) hok I.bare
theorem Inv.call {g':Array GenState}{t':Nat}{d':Drawn}{ch:List Addr}(I:Inv X pins σ H s)(u:Un (frs X.stack) ch H H' s.heap h')(hok:HOk X.prog X.w H' h')(hg:AllBare g')
 (hch:∀b∈ch,(b∈X.ex∨X.s₀.heap.objs.size≤b)∧b≠X.env.locals∧(∀x c,X.env.cells.lookup x=some c→c≠b)∧∀p∈X.pn++pins,p.1≠b) :
 Inv X pins σ H' { s with heap:=h',gens:=g',drawn:=d',toks:=t' }:=by
 obtain ⟨m,⟨o,es,ep,ho,r⟩,_⟩:=id I.loc
 obtain ⟨sl,hL⟩:=u.any ho I.free fun z=>(hch _ z).2.1 rfl
 exact I.step (ch:=ch) hch (fun b o hL hb hc e n=>u.keep b o e n (fun z=>(List.mem_cons.mp (I.stkSub b z)).elim hL hb) hc) (fun b o _ _ hc e n=>u.any e n hc) (fun b o hc e n=>u.free b o e n hc) (fun b o hc e=>u.there b o e hc) u.tups u.frzs u.tbls (fun m' hm=>by
  obtain ⟨o',es',ep',ho',r'⟩:=hm
  rw[ho] at ho';cases ho'
  exact⟨_,es',ep',hL,r'⟩) hok hg
theorem Inv.turned {t':Nat}{it:Addr}(I:Inv X pins σ H s)(k:∀b o,b≠it→s.heap.get? b=some o→h'.get? b=some o)(hn:H it=none)(hL:it≠X.env.locals)
 (h1:it∈X.ex∨X.s₀.heap.objs.size≤it) (h2:∀x c,X.env.cells.lookup x=some c→c≠it) (h3:∀p∈X.pn++pins,p.1≠it):Inv X pins σ H { s with heap:=h',toks:=t' }:=by
 have nit:∀b u,H b=some u→b≠it:=fun b u e z=>by rw[z,hn] at e;cases e
 refine I.step (g':=s.gens) (d':=s.drawn) (ch:=[it]) (fun b hb=>?_) (fun b o _ _ hc e _=>k b o (fun z=>hc (by simp [z])) e) (fun b o _ _ hc e _=>⟨o.slots,k b o (fun z=>hc (by simp [z])) e⟩) (fun _ _ _ _ n=>n)
  (fun b o hc e=>⟨o,k b o (fun z=>hc (by simp [z])) e⟩) (fun _ _ e=>e) (fun _ _ _ e=>e) (fun b ps e=>⟨#[],by rw[e];simp⟩) (fun m hm=>?_) (fun b u e=>?_) I.bare
 ·have e:b=it:=by simpa using hb
  subst e
  exact⟨h1,hL,h2,h3⟩
 ·obtain ⟨o,es,ep,ho,r⟩:=hm
  exact⟨o,es,ep,k _ o (Ne.symm hL) ho,r⟩
 ·refine(I.hok b u e).stay (fun c v hc q=>k c v ?_ q) (fun _ q=>q) fun _ _ q=>q
  rcases hc with z|z
  ·rw[z];exact nit b u e
  ·exact nit c _ z
theorem Inv.tok (I:Inv X pins σ H s)(t:Nat):Inv X pins σ H { s with toks:=t }:=I.un (h':=s.heap) (t':=t) Un.refl I.hok
theorem Inv.kept {t':Nat}(I:Inv X pins σ H s)(k:∀b u,s.heap.get? b=some u→h'.get? b=some u):Inv X pins σ H { s with heap:=h',toks:=t' }:=I.un (Un.kept k) (I.hok.kept k)
theorem Inv.laid {a:Addr}{o:HO}{t':Nat}(I:Inv X pins σ H s)(k:∀b u,s.heap.get? b=some u→h'.get? b=some u)(hp:s.heap.objs.size≤a)(new:ObjOk X.prog X.w (upd H a o) h' a o) :
 Inv X pins σ (upd H a o) { s with heap:=h',toks:=t' }:=I.un (Un.laid k hp (I.hok.fresh hp)) (I.hok.laid k hp new)
theorem Inv.write {x e:Addr}{o:HO}{t':Nat}(I:Inv X pins σ H s)(mu:Mut (H x))(he:e=x∨H e=some (.own x))(k:∀b u,b≠e→s.heap.get? b=some u→h'.get? b=some u)(heo:∃u,h'.get? e=some u)
 (new:ObjOk X.prog X.w (upd H x o) h' x o):Inv X pins σ (upd H x o) { s with heap:=h',toks:=t' }:=I.un (Un.write mu he k heo) (I.hok.write mu he k heo new)
theorem Inv.weak {σ':List (Option V)}(I:Inv X pins σ H s)(hl:σ'.length=σ.length)(w:∀(i:Nat) v,σ'[i]? = some (some v)→σ[i]? = some (some v)):Inv X pins σ' H s:=
 ⟨I.ok,I.os,I.bare,I.base,let ⟨m,hn,hl'⟩:=I.loc;⟨m,hn,fun i x v e1 e2 e3=>hl' i x v e1 (w i v e2) e3⟩,I.cell,I.free,I.freeC,I.pin,I.hok,hl.trans I.len⟩
theorem Inv.pins_of {pins':List (Addr×Obj)}(I:Inv X pins σ H s)(h:∀p∈pins',s.heap.get? p.1=some p.2∧H p.1=none∧p.1≠X.env.locals∧p.1 ∉ X.fs∧∀v,p.2.data≠.cell v):Inv X pins' σ H s:=
 ⟨I.ok,I.os,I.bare,I.base,I.loc,I.cell,I.free,I.freeC,fun p hp=>(List.mem_append.mp hp).elim (fun z=>I.pin p (List.mem_append_left _ z)) (h p),I.hok,I.len⟩
theorem yn9 {N:List Str}(hN:N.Nodup){i j:Nat}{x:Str}(a:N[i]? = some x)(b:N[j]? = some x):i=j:=by
 obtain ⟨h1,e1⟩:=List.getElem?_eq_some_iff.mp a
 obtain ⟨h2,e2⟩:=List.getElem?_eq_some_iff.mp b
 exact(List.getElem_inj hN).mp (e1.trans e2.symm)
theorem yk2 {M:Model}{A:Around}{E:Value→Shared→Prop}{i:Nat}{x:Str}{v:V}{u:Value}{Q:Unit→Shared→Prop}(I:Inv X pins σ H s)(hN:X.N.Nodup)(hi:X.N[i]? = some x)(hx:Loc X.env.scope x)(r:RelV v u)
 (h:∀s',Inv X pins (σ.set i (some v)) H s'→(∃a,Heap.SameBut a s.heap s'.heap∧(a=X.env.locals∨X.env.cells.lookup x=some a))→Q () s') (hf:X.fn x=true∨X.env.scope.names.lookup x=some .local:=by first|exact .inl rfl|exact .inr rfl|assumption):wpAny M A (storeName X.env x u) Q E s:=by
 obtain ⟨m,hn,hl⟩:=id I.loc
 have hcls:(X.env.scope.kind == .class || (X.env.scope.kind == .module&&X.env.locals != X.env.globals))=false:=by rw[I.ok.kind];rfl
 have hiσ:i<σ.length:=by rw[I.len];exact(List.getElem?_eq_some_iff.mp hi).1
 have cne:=I.cne
 have tracked:∀{a:Addr}{h':Heap},(∃o,s.heap.get? a=some o∧H a=none)→Heap.SameBut a s.heap h'→HOk X.prog X.w H h':=fun {a h'} ha hs b ob e=>by
  obtain ⟨_,_,hfree⟩:=ha
  refine(I.hok b ob e).stay (fun c w' hc q=>(hs.2 c ?_).trans q) (fun _ q=>q) fun _ _ q=>q
  rintro rfl
  rcases hc with rfl|hc
  ·rw[hfree] at e;cases e
  ·rw[hfree] at hc;cases hc
 rcases hx with hk|hk
 ·refine wpAny_storeName_local hk hn (fun h' hn' hs=>?_) hcls
  obtain ⟨oL,_,_,hoL,_⟩:=id hn
  refine h _ ⟨I.ok,I.os,I.bare,⟨fun b o e n hb hx=>?_,fun b o e n hb hx=>?_,I.base.free,fun b o e hx=>?_,I.base.tups,I.base.frzs,I.base.tbls⟩,⟨_,hn',fun j y v' e1 e2 e3=>?_⟩,fun y c e=>?_,I.free,I.freeC,fun p hp=>?_,tracked ⟨oL,hoL,I.free⟩ hs,by simpa using I.len⟩ ⟨_,hs,.inl rfl⟩
  ·exact(hs.2 b (Nat.ne_of_lt (Nat.lt_of_lt_of_le (Heap.lt_size e) I.ok.above))).trans (I.base.keep b o e n hb hx)
  ·obtain ⟨sl,e1⟩:=I.base.slot b o e n hb hx
   exact⟨sl,(hs.2 b (Nat.ne_of_lt (Nat.lt_of_lt_of_le (Heap.lt_size e) I.ok.above))).trans e1⟩
  ·obtain ⟨o',e1⟩:=I.base.there b o e hx
   exact⟨o',(hs.2 b (Nat.ne_of_lt (Nat.lt_of_lt_of_le (Heap.lt_size e) I.ok.above))).trans e1⟩
  ·by_cases hj:j=i
   ·subst hj
    rw[hi] at e1;cases e1
    rw[List.getElem?_set_self hiσ] at e2
    cases e2
    exact⟨u,r,.inl ⟨hk,by simp⟩⟩
   ·rw[List.getElem?_set_ne (Ne.symm hj)] at e2
    obtain ⟨u',r',q⟩:=hl j y v' e1 e2 e3
    refine⟨u',r',?_⟩
    rcases q with ⟨k,e⟩ | ⟨k,c,e,z⟩
    ·refine .inl ⟨k,?_⟩
     have:y≠x:=fun e=>hj (yn9 hN e1 (e ▸ hi))
     simp [this,e]
    ·exact .inr ⟨k,c,e,z.sameBut hs (cne y c e)⟩
  ·obtain ⟨w',z⟩:=I.cell y c e
   exact⟨w',z.sameBut hs (cne y c e)⟩
  ·obtain ⟨e,n,ne,nf,d⟩:=I.pin p hp
   exact⟨(hs.2 p.1 ne).trans e,n,ne,nf,d⟩
 ·have hfn:X.fn x=true:=by
   rcases hf with z|z
   ·exact z
   ·rw[z] at hk;cases hk
  obtain ⟨c,hc⟩:=I.ok.has x (.inl hk)
  obtain ⟨w',z⟩:=I.cell x c hc
  refine wpAny_storeName_cell I.ok.kind hk hc z (fun h' hc' hs=>?_)
  obtain ⟨oc,hoc,hocd⟩:=id z
  refine h { s with heap:=h' } ⟨I.ok,I.os,I.bare,⟨fun b o e n hb hx=>?_,fun b o e n hb hx=>?_,I.base.free,fun b o e hx=>?_,I.base.tups,I.base.frzs,I.base.tbls⟩,⟨m,hn.sameBut hs (Ne.symm (cne x c hc)),fun j y v' e1 e2 e3=>?_⟩,fun y c' e=>?_,I.free,I.freeC,fun p hp=>?_,tracked ⟨oc,hoc,I.freeC x c hc⟩ hs,by simpa using I.len⟩ ⟨c,hs,.inr hc⟩
  ·exact(hs.2 b (Nat.ne_of_lt (Nat.lt_of_lt_of_le (Heap.lt_size e) (I.ok.cab x c hfn hc)))).trans (I.base.keep b o e n hb hx)
  ·obtain ⟨sl,e1⟩:=I.base.slot b o e n hb hx
   exact⟨sl,(hs.2 b (Nat.ne_of_lt (Nat.lt_of_lt_of_le (Heap.lt_size e) (I.ok.cab x c hfn hc)))).trans e1⟩
  ·obtain ⟨o',e1⟩:=I.base.there b o e hx
   exact⟨o',(hs.2 b (Nat.ne_of_lt (Nat.lt_of_lt_of_le (Heap.lt_size e) (I.ok.cab x c hfn hc)))).trans e1⟩
  ·by_cases hj:j=i
   ·subst hj
    rw[hi] at e1;cases e1
    rw[List.getElem?_set_self hiσ] at e2
    cases e2
    exact⟨u,r,.inr ⟨.inl hk,c,hc,hc'⟩⟩
   ·rw[List.getElem?_set_ne (Ne.symm hj)] at e2
    obtain ⟨u',r',q⟩:=hl j y v' e1 e2 e3
    refine⟨u',r',?_⟩
    rcases q with q|⟨k,c',e,z'⟩
    ·exact .inl q
    ·refine .inr ⟨k,c',e,z'.sameBut hs ?_⟩
     rintro rfl
     exact hj (yn9 hN e1 (I.ok.inj _ _ _ e hc ▸ hi))
  ·by_cases hcc:c'=c
   ·subst hcc;exact⟨_,hc'⟩
   ·obtain ⟨w2,z2⟩:=I.cell y c' e
    exact⟨w2,z2.sameBut hs hcc⟩
  ·obtain ⟨e,n,ne,nf,d⟩:=I.pin p hp
   refine⟨(hs.2 p.1 ?_).trans e,n,ne,nf,d⟩
   intro q
   rw[q,hoc] at e
   have q':oc=p.2:=Option.some.inj e
   exact d w' (by rw[← q'];exact hocd)
theorem yj0 {M:Model}{A:Around}{E:Value→Shared→Prop}{i:Nat}{x:Str}{v:V}{u:Value}{Q:Unit→Shared→Prop}(I:Inv X pins σ H s)(hN:X.N.Nodup)(hi:X.N[i]? = some x)(hx:Loc X.env.scope x)(r:RelV v u)
 (h:∀s',Inv X pins (σ.set i (some v)) H s'→Q () s') (hf:X.fn x=true∨X.env.scope.names.lookup x=some .local:=by first|exact .inl rfl|exact .inr rfl|assumption):wpAny M A (storeName X.env x u) Q E s:=
 yk2 I hN hi hx r (fun s' I' _=>h s' I') hf
theorem Inv.call' {s':Shared}{ch:List Addr}(I:Inv X pins σ H s)(ho:s'.os=s.os)(u:Un (frs X.stack) ch H H' s.heap s'.heap)(hok:HOk X.prog X.w H' s'.heap)(hg:AllBare s'.gens)
 (hch:∀b∈ch,(b∈X.ex∨X.s₀.heap.objs.size≤b)∧b≠X.env.locals∧(∀x c,X.env.cells.lookup x=some c→c≠b)∧∀p∈X.pn++pins,p.1≠b):Inv X pins σ H' s':=by
 obtain ⟨h',g',d',t',o'⟩:=s'
 have e:o'=s.os:=ho
 subst e
 exact I.call (g':=g') (t':=t') (d':=d') u hok hg hch
end
abbrev XK:=Value→Option Addr→Hp→Prop
abbrev St:=List (Option V)
abbrev VK:=V→Hp→Prop
abbrev TE:=St→Hp→VK→Prop
abbrev TT:=St→Hp→(Bool→Hp→Prop)→Prop
abbrev TA:=St→Hp→(List V→Hp→Prop)→Prop
structure Ends where
 nx:St→Hp→Prop
 rt:VK
 bk:St→Hp→Prop:=fun _ _=>False
 ct:St→Hp→Prop:=fun _ _=>False
abbrev TS:=Ends→St→Hp→Prop
def EP (X:Cx)(pins:List (Addr×Obj))(σ:St)(Q:VK)(u:Value)(s':Shared):Prop:=∃v H',Inv X pins σ H' s'∧RelV v u∧Q v H'
def TP (X:Cx)(pins:List (Addr×Obj))(σ:St)(Q:Bool→Hp→Prop)(b:Bool)(s':Shared):Prop:=∃H',Inv X pins σ H' s'∧Q b H'
def AP (X:Cx)(pins:List (Addr×Obj))(σ:St)(Q:List V→Hp→Prop)(us:List Value)(s':Shared):Prop:=∃vs H',Inv X pins σ H' s'∧Vals vs us∧Q vs H'
def SP (X:Cx)(pins:List (Addr×Obj))(D:Ends)(f:Flow)(s':Shared):Prop:=
 match f with
 |.next=>∃σ' H',Inv X pins σ' H' s'∧D.nx σ' H'
 |.brk=>∃σ' H',Inv X pins σ' H' s'∧D.bk σ' H'
 |.cont=>∃σ' H',Inv X pins σ' H' s'∧D.ct σ' H'
 |.ret u=>∃v σ' H',Inv X pins σ' H' s'∧RelV v u∧D.rt v H'
def PE (X:Cx)(e:Expr)(t:TE):Prop:=
 ∀(pins:List (Addr×Obj)) (s:Shared) (σ:St) (H:Hp) (Q:VK),Inv X pins σ H s→t σ H Q→wpAny (model X.prog X.w) X.A (eval e X.env) (EP X pins σ Q) X.xe s
def PT (X:Cx)(e:Expr)(t:TT):Prop:=
 ∀(pins:List (Addr×Obj)) (s:Shared) (σ:St) (H:Hp) (Q:Bool→Hp→Prop),Inv X pins σ H s→t σ H Q→wpAny (model X.prog X.w) X.A (isTrue e X.env (eval e X.env)) (TP X pins σ Q) X.xe s
def PW (X:Cx)(e:Expr)(t:TT):Prop:=
 ∀(whole:Sem Value) (pins:List (Addr×Obj)) (s:Shared) (σ:St) (H:Hp) (Q:Bool→Hp→Prop),Inv X pins σ H s→t σ H Q→wpAny (model X.prog X.w) X.A (isTrue e X.env whole) (TP X pins σ Q) X.xe s
theorem PW.pt {X:Cx}{e:Expr}{t:TT}(h:PW X e t):PT X e t:=h _
def PA (X:Cx)(es:List Expr)(t:TA):Prop:=
 ∀(pos:Pos) (pins:List (Addr×Obj)) (s:Shared) (σ:St) (H:Hp) (Q:List V→Hp→Prop),Inv X pins σ H s→t σ H Q→wpAny (model X.prog X.w) X.A (spliced (backTo pos (starEach es X.env))) (AP X pins σ Q) X.xe s
def PS (X:Cx)(st:Stmt)(t:TS):Prop:=
 ∀(pins:List (Addr×Obj)) (s:Shared) (σ:St) (H:Hp) (D:Ends),Inv X pins σ H s→t D σ H→wpAny (model X.prog X.w) X.A (exec st X.env) (SP X pins D) X.xe s
def PSs (X:Cx)(st:List Stmt)(t:TS):Prop:=
 ∀(pins:List (Addr×Obj)) (s:Shared) (σ:St) (H:Hp) (D:Ends),Inv X pins σ H s→t D σ H→wpAny (model X.prog X.w) X.A (execs st X.env) (SP X pins D) X.xe s
theorem thn {α:Type}{t:Sem α}{Q Q':α→Shared→Prop}{M:Model}{A:Around}{E:Value→Shared→Prop}{s:Shared}(h:wpAny M A t Q E s)(hQ:∀a s,Q a s→Q' a s):wpAny M A t Q' E s:=wpAny_mono h hQ fun _ _ x=>x
section
variable {X:Cx}
def ybv (i:Nat):TE:=fun σ H Q=>∃v,σ[i]? = some (some v)∧Q v H
def tC (v:V):TE:=fun _ H Q=>Q v H
theorem yw9 {i:Nat}{x:Str}{pos:Pos} (hN:X.N[i]? = some x) (hv:Vis X.env.scope x) (hd:(x == ("__debug__" : Str))=false:=by decide) (hcd:(x == ("__classdict__" : Str))=false:=by decide):PE X (.Name x pos) (ybv i):=by
 intro pins s σ H Q I h
 obtain ⟨v,e,h⟩:=h
 obtain ⟨m,hn,hl⟩:=I.loc
 obtain ⟨u,r,l⟩:=hl i x v hN e hv
 have fin:EP X pins σ Q u s:=⟨v,H,I,r,h⟩
 rcases l with ⟨hk,hm⟩ | ⟨hk,c,hc,hcell⟩
 ·exact wpAny_Name (wpAny_loadName_local I.ok.kind hk hn hm fin) hd
 ·rcases hk with hk|hk
  ·exact wpAny_Name (wpAny_loadName_cell I.ok.kind hk hc hcell fin) hd
  ·exact wpAny_Name (wpAny_loadName_free I.ok.kind hk hc hcell fin hcd) hd
theorem yag {i j pos}:PE X (.Constant (.int i) j pos) (tC (.int i)):=fun _ _ _ H _ I h=>wpAny_Constant_int ⟨.int i,H,I.tok _,⟨_,rfl⟩,h⟩
theorem ym0 {b j pos}:PE X (.Constant (.bool b) j pos) (tC (.bl b)):=fun _ _ _ H _ I h=>Constant_bool ⟨.bl b,H,I,rfl,h⟩
theorem yu1 {j pos}:PE X (.Constant .none j pos) (tC .non):=fun _ _ _ H _ I h=>Constant_none ⟨.non,H,I,rfl,h⟩
theorem yk3 {x j pos}:PE X (.Constant (.str x) j pos) (tC (.str x)):=fun _ _ _ H _ I h=>Calls.Constant_str ⟨.str x,H,I.tok _,⟨_,rfl⟩,h⟩
def Gl (X:Cx)(x:Str):Prop:=X.env.kindOf x=some .globalImplicit
theorem ym1 {E:Value→Shared→Prop}{pins:List (Addr×Obj)}{s:Shared}{σ:St}{H:Hp}{x:Str}{u:Value}{pos:Pos}{Q:Value→Shared→Prop}(I:Inv X pins σ H s)(hg:Gl X x)(hm:X.mg x=some u)(h:Q u s)
 (hd:(x == ("__debug__" : Str))=false:=by decide):wpAny (model X.prog X.w) X.A (eval (.Name x pos) X.env) Q E s :=
 Calls.Name_function_global I.ok.kind hg (Calls.loadGlobal_global (by rw[I.ok.glob];exact I.mod.glob.keeps I.bk) hm h) hd
theorem yhs {E:Value→Shared→Prop}{pins:List (Addr×Obj)}{s:Shared}{σ:St}{H:Hp}{x:Str}{u:Value}{pos:Pos}{Q:Value→Shared→Prop}(I:Inv X pins σ H s)(hg:Gl X x)(hm:X.mg x=none)(hv:bootBuiltins x=some u)(h:Q u s)
 (hn:x ≠ "__name__" := by decide) (hd:(x == ("__debug__" : Str))=false:=by decide):wpAny (model X.prog X.w) X.A (eval (.Name x pos) X.env) Q E s:=by
 obtain ⟨mb,h1,h2⟩:=I.mod.blt
 exact Calls.Name_function_global I.ok.kind hg (Calls.loadGlobal_builtin (by rw[I.ok.glob];exact I.mod.glob.keeps I.bk) hm (by rw[I.ok.blt];exact h1.keeps I.bk) ((h2 x hn).trans hv) h) hd
theorem yvq {x:Str}{v:V}{u:Value}{pos:Pos} (hg:Gl X x) (hm:X.mg x=some u) (r:RelV v u) (hd:(x == ("__debug__" : Str))=false:=by decide):PE X (.Name x pos) (tC v) :=
 fun _ _ _ H _ I h=>ym1 I hg hm ⟨v,H,I,r,h⟩ hd
theorem yb1 {x:Str}{v:V}{u:Value}{pos:Pos} (hg:Gl X x) (hm:X.mg x=none) (hv:bootBuiltins x=some u) (r:RelV v u) (hn:x ≠ "__name__" := by decide) (hd:(x == ("__debug__" : Str))=false:=by decide):PE X (.Name x pos) (tC v) :=
 fun _ _ _ H _ I h=>yhs I hg hm hv ⟨v,H,I,r,h⟩ hn hd
variable {a b:Expr}{ta tb:TE}{pos:Pos}
variable {tA tB':TT}{rest:List Expr}
def yyv (t u:TT):TT:=fun σ H Q=>t σ H fun c H1=>if c=true then u σ H1 Q else Q false H1
def tOr (t u:TT):TT:=fun σ H Q=>t σ H fun c H1=>if c=true then Q true H1 else u σ H1 Q
def yz0 (t:TT):TT:=fun σ H Q=>t σ H fun c H1=>Q (!c) H1
theorem yj1 (ha:PT X a tA):PW X (.BoolOp .And [a] pos) tA:=by
 intro wh pins s σ H Q I h
 refine isTrue_and (thn (ha pins s σ H Q I h) fun c s1 e=>?_)
 cases c with
 |true=>exact isTrue_and_nil e
 |false=>exact e
theorem yk4 (ha:PT X a tA):PW X (.BoolOp .Or [a] pos) tA:=by
 intro wh pins s σ H Q I h
 refine isTrue_or (thn (ha pins s σ H Q I h) fun c s1 e=>?_)
 cases c with
 |false=>exact isTrue_or_nil e
 |true=>exact e
theorem yk5 (ha:PT X a tA)(hb:PW X (.BoolOp .And (b::rest) pos) tB'):PW X (.BoolOp .And (a::b::rest) pos) (yyv tA tB'):=by
 intro wh pins s σ H Q I h
 refine isTrue_and (thn (ha pins s σ H _ I h) fun c s1 ⟨H1,I1,q1⟩=>?_)
 cases c with
 |true=>exact hb wh pins s1 σ H1 Q I1 q1
 |false=>exact⟨H1,I1,q1⟩
theorem ypg (ha:PT X a tA)(hb:PW X (.BoolOp .Or (b::rest) pos) tB'):PW X (.BoolOp .Or (a::b::rest) pos) (tOr tA tB'):=by
 intro wh pins s σ H Q I h
 refine isTrue_or (thn (ha pins s σ H _ I h) fun c s1 ⟨H1,I1,q1⟩=>?_)
 cases c with
 |true=>exact⟨H1,I1,q1⟩
 |false=>exact hb wh pins s1 σ H1 Q I1 q1
theorem ye7 (ha:PT X a tA):PT X (.UnaryOp .Not a pos) (yz0 tA):=by
 intro pins s σ H Q I h
 exact isTrue_not (ha pins s σ H (fun c H1=>Q (!c) H1) I h)
def yyw (ta tb:TE):TE:=fun σ H Q=>ta σ H fun x H1=>∃c,x = .bl c∧if c=true then tb σ H1 Q else Q (.bl false) H1
theorem yqr {op}{t:TE}(h:PE X a t):PE X (.BoolOp op [a] pos) t:=fun pins s σ H Q I hw=>BoolOp_one (h pins s σ H Q I hw)
theorem yk6 (ha:PE X a ta)(hb:PE X (.BoolOp .And (b::rest) pos) tb):PE X (.BoolOp .And (a::b::rest) pos) (yyw ta tb):=by
 intro pins s σ H Q I h
 refine BoolOp_and (thn (ha pins s σ H _ I h) fun v s1 ⟨x,H1,I1,r1,q1⟩=>?_)
 obtain ⟨c,rfl,q1⟩:=q1
 cases r1
 refine wpAny_truthy_bool ?_
 cases c with
 |true=>exact hb pins s1 σ H1 Q I1 q1
 |false=>exact⟨.bl false,H1,I1,rfl,q1⟩
def tIf (t:TT)(ta tb:TE):TE:=fun σ H Q=>t σ H fun c H1=>if c=true then ta σ H1 Q else tb σ H1 Q
theorem ytb {c:Expr}(hc:PT X c tA)(ha:PE X a ta)(hb:PE X b tb):PE X (.IfExp c a b pos) (tIf tA ta tb):=by
 intro pins s σ H Q I h
 refine wpAny_IfExp (thn (hc pins s σ H _ I h) fun d s1 ⟨H1,I1,q1⟩=>?_)
 cases d with
 |true=>exact ha pins s1 σ H1 Q I1 q1
 |false=>exact hb pins s1 σ H1 Q I1 q1
end
def SqL (K:PySem.W.Frag)(H:Hp)(a:Addr)(xs:List V):Prop:=
 Rd H a (.lst xs)∨
  ∃(o:Obj) (its:Array Value) (n:Nat),K.lookup a=some o∧o.cls = .type "list" ∧ o.dict=none∧o.data = .seq its n∧its.size≤sizeLine∧Vals xs its.toList
def SqT (K:PySem.W.Frag)(H:Hp)(a:Addr)(xs:List V):Prop:=
 Rd H a (.tup xs)∨
  ∃(o:Obj) (its:Array Value) (n:Nat),K.lookup a=some o∧o.cls = .type "tuple" ∧ o.data = .seq its n∧its.size≤sizeLine∧Vals xs its.toList
def yz1:Value→Option V
 |.none=>some .non
 |.bool b=>some (.bl b)
 |.int i _=>some (.int i)
 |.str x _=>some (.str x)
 |.bytes b _=>some (.byt b)
 |.float b _=>some (.flt b)
 |.ref a=>some (.ref a)
 |.type n=>some (.ty n)
 |_=>none
theorem RelV.abs {x:V}{u:Value}(r:RelV x u):yz1 u=some x:=by
 cases x with
 |non=>cases r;rfl
 |bl _=>cases r;rfl
 |int _=>obtain ⟨t,rfl⟩:=r;rfl
 |str _=>obtain ⟨t,rfl⟩:=r;rfl
 |byt _=>obtain ⟨t,rfl⟩:=r;rfl
 |flt _=>obtain ⟨t,rfl⟩:=r;rfl
 |ref _=>cases r;rfl
 |ty _=>cases r;rfl
theorem RelV.inj {x y:V}{u:Value}(r:RelV x u)(q:RelV y u):x=y:=Option.some.inj (r.abs.symm.trans q.abs)
theorem Vals.inj:∀{xs ys:List V}{us:List Value},Vals xs us→Vals ys us→xs=ys
 |_,_,_,.nil,.nil=>rfl
 |_,_,_,.cons r t,.cons r' t'=>by rw[r.inj r',Vals.inj t t']
section
variable {X:Cx}{pins:List (Addr×Obj)}{σ:St}{H:Hp}{s:Shared}{a:Addr}{xs ys:List V}
theorem SqL.of {K:PySem.W.Frag}(h:H a=some (.lst xs)):SqL K H a xs:=.inl (.inl h)
theorem SqT.of {K:PySem.W.Frag}(h:H a=some (.tup xs)):SqT K H a xs:=.inl (.inl h)
theorem Inv.list (I:Inv X pins σ H s)(h:SqL X.K H a xs):∃its:List Value,Vals xs its∧PlainL s.heap a its.toArray∧xs.length≤sizeLine:=by
 rcases h with h|⟨o,its,n,hk,hc,hd,hs,hz,r⟩
 ·obtain ⟨z,its,n,r,e⟩:=h.ok I.hok
  exact⟨its,r,⟨_,n,e,rfl,rfl,rfl⟩,z⟩
 ·refine⟨its.toList,r,⟨o,n,I.kIn a o hk,hc,hd,by simpa using hs⟩,?_⟩
  have e:=r.length
  simp only[Array.length_toList] at e
  omega
theorem Inv.tuple (I:Inv X pins σ H s)(h:SqT X.K H a xs):∃its:List Value,Vals xs its∧IsTup s.heap a its.toArray∧xs.length≤sizeLine:=by
 rcases h with h|⟨o,its,n,hk,hc,hs,hz,r⟩
 ·obtain ⟨z,its,r,p⟩:=h.ok I.hok
  exact⟨its,r,p,z⟩
 ·refine⟨its.toList,r,⟨o,I.kIn a o hk,hc,n,by simpa using hs⟩,?_⟩
  have e:=r.length
  simp only[Array.length_toList] at e
  omega
theorem Inv.list_inj (I:Inv X pins σ H s)(h:SqL X.K H a xs)(h':SqL X.K H a ys):xs=ys:=by
 obtain ⟨its,r,⟨o,n,e,_,_,d⟩,_⟩:=I.list h
 obtain ⟨its',r',⟨o',n',e',_,_,d'⟩,_⟩:=I.list h'
 rw[e] at e';cases e'
 rw[d] at d'
 injection d' with d1 _
 have:its=its':=by simpa using congrArg Array.toList d1
 subst this
 exact r.inj r'
theorem Inv.tuple_inj (I:Inv X pins σ H s)(h:SqT X.K H a xs)(h':SqT X.K H a ys):xs=ys:=by
 obtain ⟨its,r,⟨o,e,_,n,d⟩,_⟩:=I.tuple h
 obtain ⟨its',r',⟨o',e',_,n',d'⟩,_⟩:=I.tuple h'
 rw[e] at e';cases e'
 rw[d] at d'
 injection d' with d1 _
 have:its=its':=by simpa using congrArg Array.toList d1
 subst this
 exact r.inj r'
end
abbrev Cx.wish (X:Cx)(E:Value→Shared→Prop):Cx:={ X with xe:=E }
abbrev Cx.nox (X:Cx):Cx:=X.wish fun _ _=>False
theorem Cx.Ok.wish {X:Cx}(ok:X.Ok)(E:Value→Shared→Prop):(X.wish E).Ok:=
 ⟨ok.mod,ok.kind,ok.glob,ok.blt,ok.above,ok.inj,ok.has,ok.cab,ok.hd,ok.frames,ok.stk,ok.exf,ok.bs,ok.bsz,ok.noex,ok.exfs,ok.funs,ok.frf⟩
theorem Cx.Ok.unwish {X:Cx}{E:Value→Shared→Prop}(ok:(X.wish E).Ok):X.Ok:=
 ⟨ok.mod,ok.kind,ok.glob,ok.blt,ok.above,ok.inj,ok.has,ok.cab,ok.hd,ok.frames,ok.stk,ok.exf,ok.bs,ok.bsz,ok.noex,ok.exfs,ok.funs,ok.frf⟩
section
variable {X:Cx}{pins:List (Addr×Obj)}{σ:St}{H:Hp}{s:Shared}{E:Value→Shared→Prop}
theorem Inv.wish (I:Inv X pins σ H s)(E:Value→Shared→Prop):Inv (X.wish E) pins σ H s:=⟨I.ok.wish E,I.os,I.bare,I.base,I.loc,I.cell,I.free,I.freeC,I.pin,I.hok,I.len⟩
theorem Inv.unwish (I:Inv (X.wish E) pins σ H s):Inv X pins σ H s:=⟨I.ok.unwish,I.os,I.bare,I.base,I.loc,I.cell,I.free,I.freeC,I.pin,I.hok,I.len⟩
theorem SP.unwish {D:Ends}{f:Flow}{s':Shared}(h:SP (X.wish E) pins D f s'):SP X pins D f s':=by
 cases f with
 |next=>obtain ⟨σ',H',I,q⟩:=h;exact⟨σ',H',I.unwish,q⟩
 |brk=>obtain ⟨σ',H',I,q⟩:=h;exact⟨σ',H',I.unwish,q⟩
 |cont=>obtain ⟨σ',H',I,q⟩:=h;exact⟨σ',H',I.unwish,q⟩
 |ret u=>obtain ⟨v,σ',H',I,r,q⟩:=h;exact⟨v,σ',H',I.unwish,r,q⟩
theorem PSs.nox {st:List Stmt}{t:TS}(h:PSs X.nox st t):PSs X st t:=fun pins s σ H D I hw=>
 wpAny_mono (h pins s σ H D (I.wish _) hw) (fun _ _ q=>q.unwish) fun _ _ z=>False.elim z
end
section
variable {X:Cx}{st:Stmt}{rest:List Stmt}{t u:TS}{e:Expr}{te:TE}{pos:Pos}
def yyx:TS:=fun D σ H=>D.nx σ H
def yyy (t u:TS):TS:=fun D σ H=>t { D with nx:=u D } σ H
theorem ybr:PSs X [] yyx:=fun _ _ σ H _ I h=>wpAny_execs_nil ⟨σ,H,I,h⟩
theorem yaf (h1:PS X st t)(h2:PSs X rest u):PSs X (st::rest) (yyy t u):=by
 intro pins s σ H D I h
 refine wpAny_execs_cons (thn (h1 pins s σ H { D with nx:=u D } I h) fun f s1 q=>?_)
 cases f with
 |next=>
  obtain ⟨σ',H',I',q⟩:=q
  exact h2 pins s1 σ' H' D I' q
 |ret v=>exact q
 |brk=>exact q
 |cont=>exact q
theorem yak (h1:PS X st t):PSs X [st] t:=by
 intro pins s σ H D I h
 refine wpAny_execs_cons (thn (h1 pins s σ H D I h) fun f s1 q=>?_)
 cases f with
 |next=>exact wpAny_execs_nil q
 |ret v=>exact q
 |brk=>exact q
 |cont=>exact q
theorem Inv.quiet {pins:List (Addr×Obj)}{σ:St}{H:Hp}{s:Shared}(I:Inv X pins σ H s):interactive X.env=false:=by simp [interactive,I.ok.kind]
def yyz (te:TE):TS:=fun D σ H=>te σ H fun _ H1=>D.nx σ H1
theorem yb6 (he:PE X e te)(hs:swapsWith e none pos.line X.env=pure false:=by rfl):PS X (.Expr e pos) (yyz te):=by
 intro pins s σ H D I h
 exact wpAny_Expr_any (thn (he pins s σ H _ I h) fun v s1 ⟨x,H1,I1,r1,q1⟩=>⟨σ,H1,I1,q1⟩) I.quiet hs
def yz2 (te:TE):TS:=fun D σ H=>te σ H D.rt
theorem ya2 (he:PE X e te):PS X (.Return (some e) pos) (yz2 te):=by
 intro pins s σ H D I h
 exact wpAny_Return_some (thn (he pins s σ H _ I h) fun v s1 ⟨x,H1,I1,r1,q1⟩=>⟨x,σ,H1,I1,r1,q1⟩)
def yz3 (c:TT)(t u:TS):TS:=fun D σ H=>c σ H fun b H1=>if b=true then t D σ H1 else u D σ H1
theorem yeg {c:Expr}{a b:List Stmt}{tc:TT}(hc:PT X c tc)(ha:PSs X a t)(hb:PSs X b u):PS X (.If c a b pos) (yz3 tc t u):=by
 intro pins s σ H D I h
 refine wpAny_If (thn (hc pins s σ H _ I h) fun d s1 ⟨H1,I1,q1⟩=>?_)
 cases d with
 |true=>exact ha pins s1 σ H1 D I1 q1
 |false=>exact hb pins s1 σ H1 D I1 q1
end
abbrev TG:=V→St→Hp→(St→Hp→Prop)→Prop
abbrev TGs:=List V→St→Hp→(St→Hp→Prop)→Prop
def PG (X:Cx)(target:Expr)(t:TG):Prop:=
 ∀(pins:List (Addr×Obj)) (s:Shared) (σ:St) (H:Hp) (v:V) (u:Value) (Q:St→Hp→Prop),Inv X pins σ H s→RelV v u→t v σ H Q→
  wpAny (model X.prog X.w) X.A (assign target X.env u) (fun _ s'=>∃σ' H',Inv X pins σ' H' s'∧Q σ' H') X.xe s
def PGs (X:Cx)(ts:List Expr)(t:TGs):Prop:=
 ∀(pins:List (Addr×Obj)) (s:Shared) (σ:St) (H:Hp) (vs:List V) (us:List Value) (Q:St→Hp→Prop),Inv X pins σ H s→Vals vs us→t vs σ H Q→
  wpAny (model X.prog X.w) X.A (assignInOrder ((assignEach ts X.env).map (·.2)) us) (fun _ s'=>∃σ' H',Inv X pins σ' H' s'∧Q σ' H') X.xe s
abbrev yy0:=V→V→V→Hp→(Hp→Prop)→Prop
def yzl (X:Cx)(t:yy0):Prop:=
 ∀(pins:List (Addr×Obj)) (s:Shared) (σ:St) (H:Hp) (o i v:V) (ov iv u:Value) (Q:Hp→Prop),Inv X pins σ H s→RelV o ov→RelV i iv→RelV v u→t o i v H Q→
  wpAny (model X.prog X.w) X.A (setItem ov iv u) (fun _ s'=>∃H',Inv X pins σ H' s'∧Q H') X.xe s
abbrev TIp:=V→V→Hp→VK→Prop
def PIp (X:Cx)(op:Operator)(t:TIp):Prop:=
 ∀(pins:List (Addr×Obj)) (s:Shared) (σ:St) (H:Hp) (x y:V) (v u:Value) (Q:VK),Inv X pins σ H s→RelV x v→RelV y u→t x y H Q→
  wpAny (model X.prog X.w) X.A (inplaceOp op v u) (EP X pins σ Q) X.xe s
section
variable {X:Cx}{pos:Pos}
def ybi (i:Nat):TG:=fun v σ H Q=>Q (σ.set i (some v)) H
theorem yai {i:Nat}{x:Str}(hN:X.N.Nodup)(hi:X.N[i]? = some x)(hx:Loc X.env.scope x)(hf:X.fn x=true∨X.env.scope.names.lookup x=some .local:=by first|exact .inl rfl|exact .inr rfl|assumption):PG X (.Name x pos) (ybi i):=by
 intro pins s σ H v u Q I r h
 exact wpAny_assign_Name (yj0 I hN hi hx r (fun s' I'=>⟨_,H,I',h⟩) hf)
def yoa:TGs:=fun vs σ H Q=>vs=[]∧Q σ H
def ycc (t:TG)(u:TGs):TGs:=fun vs σ H Q=>∃v r,vs=v::r∧t v σ H fun σ' H'=>u r σ' H' Q
theorem ya4:PGs X [] yoa:=by
 intro pins s σ H vs us Q I r h
 obtain ⟨e,h⟩:=h
 subst e
 cases r
 exact assignInOrder_nil ⟨σ,H,I,h⟩
theorem yah {e:Expr}{es:List Expr}{t:TG}{u:TGs}(h1:PG X e t)(h2:PGs X es u)
 (hs:(assignEach (e::es) X.env).map (·.2)=assign e X.env::(assignEach es X.env).map (·.2):=by rfl):PGs X (e::es) (ycc t u):=by
 intro pins s σ H vs us Q I r h
 obtain ⟨v,vr,e1,h⟩:=h
 subst e1
 cases r with
 |cons r rr=>
  rw[hs]
  refine assignInOrder_cons (thn (h1 pins s σ H _ _ _ I r h) fun _ s1 ⟨σ1,H1,I1,q1⟩=>?_)
  exact h2 pins s1 σ1 H1 _ _ Q I1 rr q1
def yob (K:PySem.W.Frag)(n:Nat)(t:TGs):TG:=fun v σ H Q=>∃a xs,v = .ref a∧SqT K H a xs∧xs.length=n∧t xs σ H Q
theorem ybl {es:List Expr}{k:Nat}{t:TGs}{n:Nat}(hc:X.calm=true)(h:PGs X es t)
 (hn:(assignEach es X.env).length=n:=by rfl) (hst:(assignEach es X.env).findIdx? (·.1)=none:=by rfl):PG X (.Tuple es k pos) (yob X.K n t):=by
 intro pins s σ H v u Q I r hw
 obtain ⟨a,xs,e1,hq,hl,hw⟩:=hw
 subst e1
 cases r
 obtain ⟨its,rv,ht,hz⟩:=I.tuple hq
 refine assign_Tuple_tuple (I.ok.hd hc) ht (by simp [hn,← hl,rv.length]) hst fun h' hx=>?_
 have I1:Inv X pins σ H { s with heap:=h' }:=I.kept (t':=s.toks) fun b o e=>hx b o (Nat.ne_of_lt (Heap.lt_size e)) e
 exact h pins _ σ H xs _ Q I1 (by simpa using rv) hw
def yz4 (to ti:TE)(t:yy0):TG:=fun v σ H Q=>to σ H fun o H1=>ti σ H1 fun i H2=>t o i v H2 fun H3=>Q σ H3
theorem yfu {o i:Expr}{to ti:TE}{t:yy0}(ho:PE X o to)(hi:PE X i ti)(hs:yzl X t)
 (ha:∀v,assign (.Subscript o i pos) X.env v=(do
  let ov ← holding [v] (eval o X.env)
  let iv ← holding [v,ov] (eval i X.env)
  standAt pos
  holding [v,ov,iv] (setItem ov iv v)
  release [v,ov,iv] []):=by intro _;rfl):PG X (.Subscript o i pos) (yz4 to ti t):=by
 intro pins s σ H v u Q I r h
 rw[ha]
 refine zwb0 (wpAny_holding (thn (ho pins s σ H _ I h) fun ov s1 ⟨x,H1,I1,r1,q1⟩=>?_))
 refine zwb0 (wpAny_holding (thn (hi pins s1 σ H1 _ I1 q1) fun iv s2 ⟨y,H2,I2,r2,q2⟩=>?_))
 refine zwb0 (wpAny_standAt (zwb0 (wpAny_holding (thn (hs pins s2 σ H2 x y v ov iv u _ I2 r1 r2 r q2) fun _ s3 ⟨H3,I3,q3⟩=>?_))))
 exact wpAny_release ⟨σ,H3,I3,q3⟩
def yy1 (te:TE)(g:TG):TS:=fun D σ H=>te σ H fun x H1=>g x σ H1 D.nx
theorem yc7 {tg e:Expr}{te:TE}{g:TG}(he:PE X e te)(hg:PG X tg g)(hs:swapsWithSole [tg] e pos.line X.env=pure false:=by rfl)(hw:swappedStores [tg] e X.env=pure none:=by rfl)
 (h1:(assignEach [tg] X.env).map (·.2)=[assign tg X.env]:=by rfl):PS X (.Assign [tg] e pos) (yy1 te g):=by
 intro pins s σ H D I h
 refine wpAny_Assign_stores (thn (he pins s σ H _ I h) fun v s1 ⟨x,H1,I1,r1,q1⟩=>?_) hs hw
 rw[h1]
 exact thn (hg pins s1 σ H1 x v _ I1 r1 q1) fun _ s2 q=>q
theorem yat {i:Nat}{x:Str}{e:Expr}{te:TE}{pos':Pos}(hN:X.N.Nodup)(hi:X.N[i]? = some x)(hx:Loc X.env.scope x)(he:PE X e te)(hs:swapsWith e (some (.Name x pos')) pos.line X.env=pure false:=by rfl)(hf:X.fn x=true∨X.env.scope.names.lookup x=some .local:=by first|exact .inl rfl|exact .inr rfl|assumption) :
 PS X (.Assign [.Name x pos'] e pos) (yy1 te (ybi i)):=by
 intro pins s σ H D I h
 refine wpAny_Assign_Name (thn (he pins s σ H _ I h) fun v s1 ⟨y,H1,I1,r1,q1⟩=>?_) hs
 exact yj0 I1 hN hi hx r1 (fun s2 I2=>⟨_,H1,I2,q1⟩) hf
def yz5 (i:Nat)(te:TE)(ti:TIp):TS:=fun D σ H=>∃x,σ[i]? = some (some x)∧te σ H fun y H1=>ti x y H1 fun z H2=>D.nx (σ.set i (some z)) H2
theorem yxa {i:Nat}{x:Str}{e:Expr}{te:TE}{op:Operator}{ti:TIp}{pos':Pos}(hN:X.N.Nodup)(hi:X.N[i]? = some x)(hx:Loc X.env.scope x)(he:PE X e te)(ho:PIp X op ti)(hf:X.fn x=true∨X.env.scope.names.lookup x=some .local:=by first|exact .inl rfl|exact .inr rfl|assumption) :
 PS X (.AugAssign (.Name x pos') op e pos) (yz5 i te ti):=by
 intro pins s σ H D I h
 obtain ⟨v,e1,h⟩:=h
 obtain ⟨m,hn,hl⟩:=I.loc
 have vis:Vis X.env.scope x:=by rcases hx with k|k;exact .inl k;exact .inr (.inl k)
 obtain ⟨u,r,l⟩:=hl i x v hi e1 vis
 refine wpAny_AugAssign_Name ?_
 have go:wpAny (model X.prog X.w) X.A (eval e X.env) (fun w s₂=>wpAny (model X.prog X.w) X.A (inplaceOp op u w) (fun r s₃=>wpAny (model X.prog X.w) X.A (storeName X.env x r) (fun _=>SP X pins D .next) X.xe s₃) X.xe s₂) X.xe s:=by
  refine thn (he pins s σ H _ I h) fun w s1 ⟨y,H1,I1,r1,q1⟩=>?_
  refine thn (ho pins s1 σ H1 v y u w _ I1 r r1 q1) fun z s2 ⟨zv,H2,I2,r2,q2⟩=>?_
  exact yj0 I2 hN hi hx r2 (fun s3 I3=>⟨_,H2,I3,q2⟩) hf
 rcases l with ⟨hk,hm⟩ | ⟨hk,c,hc,hcell⟩
 ·exact wpAny_loadName_local I.ok.kind hk hn hm go
 ·rcases hk with hk|hk
  ·exact wpAny_loadName_cell I.ok.kind hk hc hcell go
  ·rcases hx with k|k
   ·have:X.env.scope.names.lookup x=some .free:=hk
    rw[k] at this;cases this
   ·have:X.env.scope.names.lookup x=some .free:=hk
    rw[k] at this;cases this
def ipI (f:Int→Int→Int):TIp:=fun x y H Q=>∃i j,x = .int i∧y = .int j∧Q (.int (f i j)) H
theorem yxb:PIp X .Add (ipI fun i j=>i+j):=by
 intro pins s σ H x y v u Q I r1 r2 h
 obtain ⟨i,j,e1,e2,q⟩:=h
 subst e1;subst e2
 obtain ⟨t,rfl⟩:=r1
 obtain ⟨t',rfl⟩:=r2
 exact iadd_int ⟨.int _,H,I.tok _,⟨_,rfl⟩,q⟩
end
section
variable {X:Cx}{pos:Pos}
def yu2 (c:TT)(tb:TS):TS:=fun D σ H=>∃W:Nat→St→Hp→Prop,(∃m,W m σ H)∧∀m σ H,W m σ H→
 c σ H fun b H1=>if b=true then ∃N:St→Hp→Prop,(∀σ' H',N σ' H'→∃m',m' < m∧W m' σ' H')∧tb { D with nx:=N,ct:=N,bk:=D.nx } σ H1 else D.nx σ H1
theorem ytc {c:Expr}{body:List Stmt}{tc:TT}{tb:TS}(hp:PassesOwn (model X.prog X.w) X.A X.env X.xe)(hc:PT X c tc)(hb:PSs X body tb):PS X (.While c body [] pos) (yu2 tc tb):=by
 intro pins s σ H D I h
 obtain ⟨W,⟨m0,w0⟩,turn⟩:=h
 refine wpAny_While (codeAny_whileLoop (fun n s'=>∃σ' H',Inv X pins σ' H' s'∧W n σ' H') ?_ m0 ⟨σ,H,I,w0⟩)
 rintro n s1 ⟨σ1,H1,I1,w1⟩
 refine wpAny_passesOwn hp (thn (hc pins s1 σ1 H1 _ I1 (turn n σ1 H1 w1)) fun b s2 ⟨H2,I2,q2⟩=>?_)
 cases b with
 |true=>
  obtain ⟨N,hN,q2⟩:=q2
  rw[if_pos rfl]
  refine wpAny_passesOwn hp (thn (hb pins s2 σ1 H2 _ I2 q2) fun f s3 q3=>?_)
  cases f with
  |next=>
   obtain ⟨σ3,H3,I3,n3⟩:=q3
   obtain ⟨m',hm,w3⟩:=hN σ3 H3 n3
   exact⟨m',hm,σ3,H3,I3,w3⟩
  |cont=>
   obtain ⟨σ3,H3,I3,n3⟩:=q3
   obtain ⟨m',hm,w3⟩:=hN σ3 H3 n3
   exact⟨m',hm,σ3,H3,I3,w3⟩
  |brk=>exact q3
  |ret v=>exact q3
 |false=>
  rw[if_neg Bool.false_ne_true]
  exact wpAny_execs_nil ⟨σ1,H2,I2,q2⟩
end
structure It where
 go:Nat→Hp→Prop
 yld:Nat→Hp→V→Hp→Prop
 stop:Nat→Hp→Prop
def yfy (X:Cx)(pins:List (Addr×Obj))(H:Hp)(b:Addr):Prop:=
 H b=none∧b≠X.env.locals∧b ∉ X.fs∧(b∈X.ex∨X.s₀.heap.objs.size≤b)∧(∀x c,X.env.cells.lookup x=some c→c≠b)∧∀p∈X.pn++pins,p.1≠b
theorem Inv.fpOk {X:Cx}{pins:List (Addr×Obj)}{σ:St}{H H':Hp}{s:Shared}{b:Addr}(I:Inv X pins σ H s)(hb:s.heap.objs.size≤b)(hn:H' b=none):yfy X pins H' b:=by
 refine⟨hn,Nat.ne_of_gt (Nat.lt_of_lt_of_le I.lt hb),I.nofs hb,.inr (Nat.le_trans I.sz hb),fun x c e z=>?_,fun p hp z=>?_⟩
 ·obtain ⟨v,q⟩:=I.cell x c e
  exact absurd (Nat.lt_of_lt_of_le q.lt (by rw[z];exact hb)) (Nat.lt_irrefl _)
 ·exact absurd (Nat.lt_of_lt_of_le (Heap.lt_size (I.pin p hp).1) (by rw[z];exact hb)) (Nat.lt_irrefl _)
structure Turn (P:Program) (w:World) (K:PySem.W.Frag) (tg:Expr) (J:It) (fp:List Addr) (it:Addr) (tn:Nat→Heap→Prop):Prop where
 mem:it∈fp
 obj:∀i h,tn i h→∀b∈fp,∃o,h.get? b=some o∧∀v,o.data≠.cell v
 keep:∀i h h',tn i h→(∀b∈fp,∀o,h.get? b=some o→h'.get? b=some o)→tn i h'
 item:∀(X:Cx),X.prog=P→X.w=w→X.K=K→X.calm=true→∀(i:Nat) (pins:List (Addr×Obj)) (s:Shared) (σ:St) (H:Hp) (E:Value→Shared→Prop),Inv X pins σ H s→(∀b∈fp,yfy X pins H b)→tn i s.heap→J.go i H→
  wpAny (model P w) X.A (pyNext (.ref it)) (fun r s1=>∃u,r=some u∧
   wpAny (model P w) X.A (letOwnedTupleGo tg (.ref it) u) (fun _ s2=>∃x H',Inv X pins σ H' s2∧RelV x u∧J.yld i H x H'∧tn (i+1) s2.heap∧∀b∈fp,H' b=none) E s1) E s
 done:∀(X:Cx),X.prog=P→X.w=w→X.K=K→X.calm=true→∀(i:Nat) (pins:List (Addr×Obj)) (s:Shared) (σ:St) (H:Hp) (E:Value→Shared→Prop),Inv X pins σ H s→(∀b∈fp,yfy X pins H b)→tn i s.heap→J.stop i H→
  wpAny (model P w) X.A (pyNext (.ref it)) (fun r s1=>r=none∧Inv X pins σ H s1) E s
 self:∀(A:Around) (i:Nat) (s:Shared) (Q:Value→Shared→Prop) (E:Value→Shared→Prop),tn i s.heap→Q (.ref it) s→wpAny (model P w) A (pyIter (.ref it)) Q E s
abbrev TI:=St→Hp→(It→Hp→Prop)→Prop
def PIE (X:Cx)(pins:List (Addr×Obj))(σ:St)(tg:Expr)(R:It→Hp→Prop)(itv:Value)(s2:Shared):Prop:=
 ∃(it:Addr) (fp:List Addr) (tn:Nat→Heap→Prop) (J:It) (H':Hp),itv = .ref it∧Inv X pins σ H' s2∧Turn X.prog X.w X.K tg J fp it tn∧tn 0 s2.heap∧(∀b∈fp,yfy X pins H' b)∧R J H'
def PI (X:Cx)(tg iter:Expr)(wi:TI):Prop:=
 ∀(pins:List (Addr×Obj)) (s:Shared) (σ:St) (H:Hp) (R:It→Hp→Prop),Inv X pins σ H s→wi σ H R→
  wpAny (model X.prog X.w) X.A (eval iter X.env) (fun v s1=>wpAny (model X.prog X.w) X.A (pyIter v) (PIE X pins σ tg R) X.xe s1) X.xe s
theorem yxc {M:Model}{A:Around}{E:Value→Shared→Prop}{s:Shared}{tg:Expr}{it:Addr}{u:Value}{o:Obj}{n:String}{vs:Array Value}{Q:Unit→Shared→Prop}(ho:s.heap.get? it=some o)(hc:o.cls = .type n)(hd:o.data = .fields vs)
 (hn:["enumerate","zip","dict_itemiterator","dict_reverseitemiterator","odict_iterator","itertools.zip_longest","itertools.pairwise"].contains n=false) (hQ:Q () s):wpAny M A (letOwnedTupleGo tg (.ref it) u) Q E s:=by
 unfold letOwnedTupleGo
 cases tg <;> first
  |exact zwp0 hQ
  |(cases u <;> first
     |exact zwp0 hQ
     |(refine zwb0 (wpAny_load ho ?_)
       rw[hc,hd]
       show wpAny M A (if (["enumerate","zip","dict_itemiterator","dict_reverseitemiterator","odict_iterator","itertools.zip_longest","itertools.pairwise"].contains n&&vs[0]? == some (rawInt _))=true then _ else _) Q E s
       rw[if_neg (by intro h;rw[hn,Bool.false_and] at h;cases h)]
       exact zwp0 hQ))
def Itl (K:PySem.W.Frag)(a:Addr):It:=
 ⟨fun i H=>∃xs x,SqL K H a xs∧xs[i]? = some x,fun i H x H'=>H' = H∧∀xs,SqL K H a xs→xs[i]? = some x,fun i H=>∃xs,SqL K H a xs∧xs.length≤i⟩
def Itr (lo:Int)(n:Nat):It:=⟨fun i _=>i<n,fun i H x H'=>H'=H∧x = .int (lo+i),fun i _=>n≤i⟩
theorem yqs {P:Program}{w:World}{K:PySem.W.Frag}{tg:Expr}(a it:Addr):Turn P w K tg (Itl K a) [it] it (fun i h=>h.IsListIter it a i) where
 mem:=by simp
 obj:=fun i h st b hb=>by
  have e:b=it:=by simpa using hb
  subst e
  obtain ⟨o,e,c,d⟩:=st
  exact⟨o,e,fun v z=>by rw[d] at z;cases z⟩
 keep:=fun i h h' st k=>st.at fun o e=>k it (by simp) o e
 item:=by
  intro X hP hw hK hc i pins s σ H E I hf st hg
  subst hP hw hK
  obtain ⟨xs,x,hq,hx⟩:=hg
  obtain ⟨its,rv,p,hz⟩:=I.list hq
  obtain ⟨u,hu,ru⟩:=rv.get hx
  obtain ⟨f0,f1,f2,f3,f4,f5⟩:=hf it (by simp)
  refine wpAny_pyNext_list_item st p.isList (x:=u) (by simpa using hu) fun h' st' sb=>?_
  have I1:Inv X pins σ H { s with heap:=h' }:=I.turned (t':=s.toks) (fun b o hb e=>(sb.2 b hb).trans e) f0 f1 f3 f4 f5
  obtain ⟨o,e,c,d⟩:=id st'
  exact⟨u,rfl,yxc (s:={ s with heap:=h' }) e c d (by decide) ⟨x,H,I1,ru,⟨rfl,fun ys hy=>by rw[I.list_inj hy hq];exact hx⟩,st',fun b hb=>(hf b hb).1⟩⟩
 done:=by
  intro X hP hw hK hc i pins s σ H E I hf st hg
  subst hP hw hK
  obtain ⟨xs,hq,hx⟩:=hg
  obtain ⟨its,rv,p,hz⟩:=I.list hq
  obtain ⟨f0,f1,f2,f3,f4,f5⟩:=hf it (by simp)
  have hl:=rv.length
  exact wpAny_pyNext_list_end (I.ok.hd hc) st p.isList (by simp;omega) fun h' eb=>⟨rfl,I.turned (t':=s.toks) (fun b o hb e=>eb b o hb e) f0 f1 f3 f4 f5⟩
 self:=fun _ _ _ _ _ st h=>wpAny_pyIter_listiter st h
theorem yph {P:Program}{w:World}{K:PySem.W.Frag}{tg:Expr}(it:Addr)(lo:Int)(n:Nat):Turn P w K tg (Itr lo n) [it] it (fun i h=>IsRangeIter h it (lo+(i:Nat)*1) ((n:Int)-(i:Nat)) 1) where
 mem:=by simp
 obj:=fun i h st b hb=>by
  have e:b=it:=by simpa using hb
  subst e
  exact⟨_,st,fun v z=>by
   have z':Data.fields _=Data.cell v:=z
   cases z'⟩
 keep:=fun i h h' st k=>k it (by simp) _ st
 item:=by
  intro X hP hw hK hc i pins s σ H E I hf st hg
  subst hP hw hK
  obtain ⟨f0,f1,f2,f3,f4,f5⟩:=hf it (by simp)
  have W:=Walks.range (prog:=X.prog) (w:=X.w) (I.ok.hd hc) it lo 1 n
  refine W.item i s _ _ hg st fun v h' tk hv st' kk=>?_
  obtain ⟨t,rfl⟩:=hv
  have I1:Inv X pins σ H { s with heap:=h',toks:=tk }:=I.turned (fun b o hb e=>kk b o (by simpa using hb) e) f0 f1 f3 f4 f5
  refine⟨_,rfl,yxc (s:={ s with heap:=h',toks:=tk }) (n := "range_iterator") st' rfl rfl (by decide) ⟨.int (lo+i),H,I1,⟨t,?_⟩,⟨rfl,rfl⟩,st',fun b hb=>(hf b hb).1⟩⟩
  rw[Int.mul_one]
 done:=by
  intro X hP hw hK hc i pins s σ H E I hf st hg
  subst hP hw hK
  obtain ⟨f0,f1,f2,f3,f4,f5⟩:=hf it (by simp)
  exact wpAny_pyNext_range_end (I.ok.hd hc) st (by have:n≤i:=hg;omega) fun h' eb=>⟨rfl,I.turned (t':=s.toks) (fun b o hb e=>eb b o hb e) f0 f1 f3 f4 f5⟩
 self:=fun _ _ _ _ _ st h=>wpAny_pyIter_rangeiter st h
section
variable {X:Cx}{tg:Expr}
def yxd (K:PySem.W.Frag)(tl:TE):TI:=fun σ H R=>tl σ H fun x H1=>∃a,x = .ref a∧(∃xs,SqL K H1 a xs)∧R (Itl K a) H1
theorem ya8 {l:Expr}{tl:TE}(hl:PE X l tl):PI X tg l (yxd X.K tl):=by
 intro pins s σ H R I h
 refine thn (hl pins s σ H _ I h) fun v s1 ⟨x,H1,I1,r1,q1⟩=>?_
 obtain ⟨a,e,⟨xs,hq⟩,q⟩:=q1
 subst e
 cases r1
 obtain ⟨its,rv,p,hz⟩:=I1.list hq
 refine wpAny_pyIter_list p.isList ?_
 refine⟨s1.heap.objs.size,[s1.heap.objs.size],_,_,H1,rfl,I1.kept (t':=s1.toks) fun b o e=>Heap.get?_push_of_some _ e,yqs a _,⟨_,Heap.get?_push_size _ rfl,rfl,rfl⟩,fun b hb=>?_,q⟩
 have e:b=s1.heap.objs.size:=by simpa using hb
 subst e
 exact I1.fpOk (Nat.le_refl _) (I1.hok.fresh (Nat.le_refl _))
theorem ytd {pins:List (Addr×Obj)}{σ:St}{H:Hp}{s:Shared}{R:It→Hp→Prop}{E:Value→Shared→Prop}{lo hi:Int}{t u v:Tok}{tk:Nat}(I:Inv X pins σ H s)(h1:-(2 ^ 62)≤lo)(h2:lo<2 ^ 62)(h3:-(2 ^ 62)≤hi)(h4:hi<2 ^ 62)
 (q:R (Itr lo (hi-lo).toNat) H):wpAny (model X.prog X.w) X.A (pyIter (.ref s.heap.objs.size)) (PIE X pins σ tg R) E { s with heap:=s.heap.push { cls:=.type "range",data:=.fields #[.int lo t,.int hi u,.int 1 v] },toks:=tk }:=by
 refine wpAny_pyIter_range (IsRange.new ..) (small_one h1 h2 h3 h4) ?_
 have I1:Inv X pins σ H { s with heap:=s.heap.push { cls:=.type "range",data:=.fields #[.int lo t,.int hi u,.int 1 v] },toks:=tk }:=I.kept fun b o e=>Heap.get?_push_of_some _ e
 refine⟨(s.heap.push { cls:=.type "range",data:=.fields #[.int lo t,.int hi u,.int 1 v] }).objs.size,[(s.heap.push { cls:=.type "range",data:=.fields #[.int lo t,.int hi u,.int 1 v] }).objs.size],_,_,H,rfl,
  I1.kept (t':=tk) fun b o e=>Heap.get?_push_of_some _ e,yph _ lo (hi-lo).toNat,?_,fun b hb=>?_,q⟩
 ·have e1:lo+((0:Nat):Int)*1=lo:=by simp
  have e2:(((hi-lo).toNat:Nat):Int)-((0:Nat):Int)=Builtin.Range.rangeSize lo hi 1:=by rw[rangeSize_one];split <;> omega
  show IsRangeIter _ _ (lo+((0:Nat):Int)*1) ((((hi-lo).toNat:Nat):Int)-((0:Nat):Int)) 1
  rw[e1,e2]
  exact Heap.get?_push_size _ rfl
 ·have e:b=(s.heap.push { cls:=.type "range",data:=.fields #[.int lo t,.int hi u,.int 1 v] }).objs.size:=by simpa using hb
  subst e
  exact I1.fpOk (Nat.le_refl _) (I1.hok.fresh (Nat.le_refl _))
def yy2 (ta:TA):TI:=fun σ H R=>ta σ H fun vs H1=>∃j:Int,vs=[.int j]∧-(2 ^ 62)≤j∧j<2 ^ 62∧R (Itr 0 j.toNat) H1
theorem yf6 {a:Expr}{ta:TA}{p pos:Pos} (hg:Gl X "range") (hm:X.mg "range" = none) (ha:PA X [a] ta) (hs:starEach [a] X.env=[(false,eval a X.env)]:=by rfl):PI X tg (.Call (.Name "range" p) [a] [] pos) (yy2 ta):=by
 intro pins s σ H R I h
 refine Call_ (yhs I hg hm boot_range (PyProof.Rows.callWith_type1 (thn (ha pos pins s σ H _ I h) fun us s1 ⟨vs,H1,I1,r1,q1⟩=>?_) hs rfl))
 obtain ⟨j,e,q1,q2,q⟩:=q1
 subst e
 cases r1 with
 |cons r rr=>
  cases rr
  obtain ⟨t,rfl⟩:=r
  exact call_range_1 (ytd I1 (by omega) (by omega) q1 q2 (by simpa using q))
def yz6 (wi:TI)(g:TG)(tb:TS):TS:=fun D σ H=>wi σ H fun J H1=>∃W:Nat→Nat→St→Hp→Prop,(∃m,W 0 m σ H1)∧∀i m σ H,W i m σ H→
 (J.stop i H∧D.nx σ H)∨(J.go i H∧∃N:St→Hp→Prop,(∀σ' H',N σ' H'→∃m',m' < m∧W (i+1) m' σ' H')∧∀x H',J.yld i H x H'→g x σ H' fun σ2 H2=>tb { D with nx:=N,ct:=N,bk:=D.nx } σ2 H2)
def yf7 (fp:List Addr)(h:Heap):List (Addr×Obj):=fp.filterMap fun b=>(h.get? b).map fun o=>(b,o)
theorem ybk {fp:List Addr}{h:Heap}{b:Addr}{o:Obj}(hb:b∈fp)(e:h.get? b=some o):(b,o)∈yf7 fp h:=List.mem_filterMap.mpr ⟨b,hb,by rw[e];rfl⟩
theorem yqt {fp:List Addr}{h:Heap}{p:Addr×Obj}(hp:p∈yf7 fp h):p.1∈fp∧h.get? p.1=some p.2:=by
 obtain ⟨b,hb,e⟩:=List.mem_filterMap.mp hp
 cases q:h.get? b with
 |none=>rw[q] at e;cases e
 |some o=>
  rw[q] at e
  have e':(b,o)=p:=Option.some.inj e
  subst e'
  exact⟨hb,q⟩
theorem Inv.pinned {pins:List (Addr×Obj)}{σ:St}{H:Hp}{s:Shared}{fp:List Addr}(I:Inv X pins σ H s)(hf:∀b∈fp,yfy X pins H b)(ho:∀b∈fp,∃o,s.heap.get? b=some o∧∀v,o.data≠.cell v):Inv X (pins++yf7 fp s.heap) σ H s:=
 I.pins_of fun p hp=>(List.mem_append.mp hp).elim (fun z=>I.pin p (List.mem_append_right _ z)) fun z=>by
  obtain ⟨hb,e⟩:=yqt z
  obtain ⟨f0,f1,f2,_⟩:=hf p.1 hb
  obtain ⟨o,e',d⟩:=ho p.1 hb
  rw[e] at e';cases e'
  exact⟨e,f0,f1,f2,d⟩
theorem Inv.unpinned {pins pl:List (Addr×Obj)}{σ:St}{H:Hp}{s:Shared}(I:Inv X (pins++pl) σ H s):Inv X pins σ H s:=I.pins_of fun p hp=>I.pin p (List.mem_append_right _ (List.mem_append_left _ hp))
theorem yd0 {iter:Expr}{body:List Stmt}{wi:TI}{g:TG}{tb:TS}{pos:Pos}(hp:PassesOwn (model X.prog X.w) X.A X.env X.xe)(hc:X.calm=true)(hi:PI X tg iter wi)(hg:PG X tg g)(hb:PSs X body tb)
 (hs:∀x,foldedSetIterable iter X.env x=pure x:=by intro _;rfl):PS X (.For tg iter body [] pos) (yz6 wi g tb):=by
 intro pins s σ H D I h
 refine wpAny_For (thn (hi pins s σ H _ I h) fun v s1 h1=>thn h1 fun itv s2 h2=>?_) hs
 obtain ⟨it,fp,tn,J,H2,e,I2,T,st2,f2,W,⟨m0,w0⟩,turn⟩:=h2
 subst e
 have stat:∀{H':Hp},(∀b∈fp,H' b=none)→∀b∈fp,yfy X pins H' b:=fun hn b hb=>⟨hn b hb,(f2 b hb).2⟩
 refine codeAny_forLoop_any (fun n s'=>∃i σ' H',Inv X pins σ' H' s'∧tn i s'.heap∧(∀b∈fp,H' b=none)∧W i n σ' H') ?_ m0 ⟨0,σ,H2,I2,st2,fun b hb=>(f2 b hb).1,w0⟩
 rintro n s3 ⟨i,σ3,H3,I3,st3,fr3,w3⟩
 rcases turn i n σ3 H3 w3 with ⟨stop,qn⟩ | ⟨go,N,hN,step⟩
 ·refine wpAny_passesOwn hp (thn (T.done X rfl rfl rfl hc i pins s3 σ3 H3 X.xe I3 (stat fr3) st3 stop) fun r s4 ⟨hr,I4⟩=>?_)
  subst hr
  exact wpAny_execs_nil ⟨σ3,H3,I4,qn⟩
 ·refine wpAny_passesOwn hp (thn (T.item X rfl rfl rfl hc i pins s3 σ3 H3 X.xe I3 (stat fr3) st3 go) fun r s4 ⟨u,hr,h4⟩=>?_)
  subst hr
  refine wpAny_passesOwn hp (thn h4 fun _ s5 ⟨x,H5,I5,r5,y5,st5,fr5⟩=>?_)
  have I5':=I5.pinned (stat fr5) (T.obj _ _ st5)
  refine wpAny_passesOwn hp (thn (hg _ s5 σ3 H5 x u _ I5' r5 (step x H5 y5)) fun _ s6 ⟨σ6,H6,I6,q6⟩=>?_)
  refine wpAny_passesOwn hp (thn (hb _ s6 σ6 H6 _ I6 q6) fun f s7 q7=>?_)
  have again:∀{σ7:St}{H7:Hp},Inv X (pins++yf7 fp s5.heap) σ7 H7 s7→N σ7 H7→∃m,m<n∧∃i σ' H',Inv X pins σ' H' s7∧tn i s7.heap∧(∀b∈fp,H' b=none)∧W i m σ' H':=fun {σ7 H7} I7 n7=>by
   obtain ⟨m',hm,w7⟩:=hN σ7 H7 n7
   refine⟨m',hm,i+1,σ7,H7,I7.unpinned,T.keep _ _ _ st5 fun b hb o e=>(I7.pin (b,o) (List.mem_append_right _ (List.mem_append_right _ (ybk hb e)))).1,fun b hb=>?_,w7⟩
   obtain ⟨o,e,d⟩:=T.obj _ _ st5 b hb
   exact(I7.pin (b,o) (List.mem_append_right _ (List.mem_append_right _ (ybk hb e)))).2.1
  cases f with
  |next=>obtain ⟨σ7,H7,I7,n7⟩:=q7;exact again I7 n7
  |cont=>obtain ⟨σ7,H7,I7,n7⟩:=q7;exact again I7 n7
  |brk=>obtain ⟨σ7,H7,I7,q7⟩:=q7;exact⟨σ7,H7,I7.unpinned,q7⟩
  |ret v=>obtain ⟨x7,σ7,H7,I7,r7,q7⟩:=q7;exact⟨x7,σ7,H7,I7.unpinned,r7,q7⟩
end
theorem ydp {K:PySem.W.Frag}{a:Addr}{xs:List V}{g:TG}{tb:TS}{D:Ends}{σ:St}{H:Hp}(Pv:Nat→St→Hp→Prop)(h0:Pv 0 σ H)(hl:∀i σ H,i≤xs.length→Pv i σ H→SqL K H a xs)
 (hs:∀i x σ H,xs[i]? = some x→Pv i σ H→g x σ H fun σ2 H2=>tb { D with nx:=Pv (i+1),ct:=Pv (i+1),bk:=D.nx } σ2 H2) (hd:∀σ H,Pv xs.length σ H→D.nx σ H) :
 ∃W:Nat→Nat→St→Hp→Prop,(∃m,W 0 m σ H)∧∀i m σ H,W i m σ H→
  ((Itl K a).stop i H∧D.nx σ H)∨((Itl K a).go i H∧∃N:St→Hp→Prop,(∀σ' H',N σ' H'→∃m',m' < m∧W (i+1) m' σ' H')∧∀x H',(Itl K a).yld i H x H'→g x σ H' fun σ2 H2=>tb { D with nx:=N,ct:=N,bk:=D.nx } σ2 H2):=by
 refine⟨fun i m σ H=>m=xs.length-i∧i≤xs.length∧Pv i σ H,⟨xs.length,by simp,Nat.zero_le _,h0⟩,?_⟩
 rintro i m σ H ⟨rfl,hi,p⟩
 have q:=hl i σ H hi p
 by_cases hlt:i<xs.length
 ·refine .inr ⟨⟨xs,xs[i],q,by simp [hlt]⟩,Pv (i+1),fun σ' H' p'=>⟨xs.length-(i+1),by omega,rfl,hlt,p'⟩,fun x H' y=>?_⟩
  obtain ⟨e,y⟩:=y
  subst e
  exact hs i x σ _ (y xs q) p
 ·have e:i=xs.length:=by omega
  subst e
  exact .inl ⟨⟨xs,q,Nat.le_refl _⟩,hd σ H p⟩
theorem yht {lo:Int}{n:Nat}{g:TG}{tb:TS}{D:Ends}{σ:St}{H:Hp}(Pv:Nat→St→Hp→Prop)(h0:Pv 0 σ H)
 (hs:∀i σ H,i<n→Pv i σ H→g (.int (lo+i)) σ H fun σ2 H2=>tb { D with nx:=Pv (i+1),ct:=Pv (i+1),bk:=D.nx } σ2 H2) (hd:∀σ H,Pv n σ H→D.nx σ H) :
 ∃W:Nat→Nat→St→Hp→Prop,(∃m,W 0 m σ H)∧∀i m σ H,W i m σ H→
  ((Itr lo n).stop i H∧D.nx σ H)∨((Itr lo n).go i H∧∃N:St→Hp→Prop,(∀σ' H',N σ' H'→∃m',m' < m∧W (i+1) m' σ' H')∧∀x H',(Itr lo n).yld i H x H'→g x σ H' fun σ2 H2=>tb { D with nx:=N,ct:=N,bk:=D.nx } σ2 H2):=by
 refine⟨fun i m σ H=>m=n-i∧i≤n∧Pv i σ H,⟨n,by simp,Nat.zero_le _,h0⟩,?_⟩
 rintro i m σ H ⟨rfl,hi,p⟩
 by_cases hlt:i<n
 ·refine .inr ⟨hlt,Pv (i+1),fun σ' H' p'=>⟨n-(i+1),by omega,rfl,hlt,p'⟩,fun x H' y=>?_⟩
  obtain ⟨e,y⟩:=y
  subst e y
  exact hs i σ _ hlt p
 ·have e:i=n:=by omega
  subst e
  exact .inl ⟨Nat.le_refl _,hd σ H p⟩
theorem yte {c:TT}{tb:TS}{D:Ends}{σ:St}{H:Hp}(Pv:St→Hp→Prop)(μ:St→Hp→Nat)(h0:Pv σ H)
 (hs:∀σ H,Pv σ H→c σ H fun b H1=>if b=true then tb { D with nx:=fun σ' H'=>Pv σ' H'∧μ σ' H' < μ σ H,ct:=fun σ' H'=>Pv σ' H'∧μ σ' H' < μ σ H,bk:=D.nx } σ H1 else D.nx σ H1)
 (mono:∀σ H Q Q',(∀b H1,Q b H1→Q' b H1)→c σ H Q→c σ H Q'):yu2 c tb D σ H:=by
 refine⟨fun m σ H=>m=μ σ H∧Pv σ H,⟨_,rfl,h0⟩,?_⟩
 rintro m σ H ⟨rfl,p⟩
 refine mono σ H _ _ (fun b H1 q=>?_) (hs σ H p)
 cases b with
 |true=>exact⟨_,fun σ' H' ⟨p',l⟩=>⟨_,l,rfl,p'⟩,q⟩
 |false=>exact q
abbrev R2:=V→V→Hp→VK→Prop
def OpR (X:Cx)(f:Value→Value→Sem Value)(r:R2):Prop:=
 ∀(pins:List (Addr×Obj)) (s:Shared) (σ:St) (H:Hp) (x y:V) (v u:Value) (Q:VK),Inv X pins σ H s→RelV x v→RelV y u→r x y H Q→
  wpAny (model X.prog X.w) X.A (f v u) (EP X pins σ Q) X.xe s
def UnR (X:Cx)(f:Value→Sem Value)(r:V→Hp→VK→Prop):Prop:=
 ∀(pins:List (Addr×Obj)) (s:Shared) (σ:St) (H:Hp) (x:V) (v:Value) (Q:VK),Inv X pins σ H s→RelV x v→r x H Q→
  wpAny (model X.prog X.w) X.A (f v) (EP X pins σ Q) X.xe s
def yft (X:Cx)(f:Value)(r:List V→Hp→VK→Prop):Prop:=
 ∀(pins:List (Addr×Obj)) (s:Shared) (σ:St) (H:Hp) (xs:List V) (us:List Value) (Q:VK),Inv X pins σ H s→Vals xs us→r xs H Q→
  wpAny (model X.prog X.w) X.A (call f us) (EP X pins σ Q) X.xe s
def yz7 (X:Cx)(r:V→Hp→(Bool→Hp→Prop)→Prop):Prop:=
 ∀(pins:List (Addr×Obj)) (s:Shared) (σ:St) (H:Hp) (x:V) (v:Value) (Q:Bool→Hp→Prop),Inv X pins σ H s→RelV x v→r x H Q→
  wpAny (model X.prog X.w) X.A (truthy v) (TP X pins σ Q) X.xe s
def tOp (r:R2)(ta tb:TE):TE:=fun σ H Q=>ta σ H fun x H1=>tb σ H1 fun y H2=>r x y H2 Q
def tUn (r:V→Hp→VK→Prop)(ta:TE):TE:=fun σ H Q=>ta σ H fun x H1=>r x H1 Q
def rI (C:Int→Int→Prop)(g:Int→Int→V):R2:=fun x y H Q=>∃i j,x = .int i∧y = .int j∧C i j∧Q (g i j) H
def rI0 (g:Int→Int→V):R2:=fun x y H Q=>∃i j,x = .int i∧y = .int j∧Q (g i j) H
def rU (g:Int→V):V→Hp→VK→Prop:=fun x H Q=>∃i,x = .int i∧Q (g i) H
section
variable {X:Cx}{a b c:Expr}{ta tb tc:TE}{pos:Pos}
theorem yy3 (ha:PE X a ta)(hb:PE X b tb){pins:List (Addr×Obj)}{s:Shared}{σ:St}{H:Hp}{R:V→V→Hp→Prop}(I:Inv X pins σ H s)
 (h:ta σ H fun x H1=>tb σ H1 fun y H2=>R x y H2) {Q:Value→Shared→Prop}{f:Value→Value→Sem Value}
 (hf:∀v u s2 x y H2,Inv X pins σ H2 s2→RelV x v→RelV y u→R x y H2→wpAny (model X.prog X.w) X.A (f v u) Q X.xe s2) :
 wpAny (model X.prog X.w) X.A (eval a X.env) (fun v s₁=>wpAny (model X.prog X.w) X.A (eval b X.env) (fun u s₂=>wpAny (model X.prog X.w) X.A (f v u) Q X.xe s₂) X.xe s₁) X.xe s:=by
 refine thn (ha pins s σ H _ I h) fun v s1 ⟨x,H1,I1,r1,q1⟩=>?_
 refine thn (hb pins s1 σ H1 _ I1 q1) fun u s2 ⟨y,H2,I2,r2,q2⟩=>?_
 exact hf v u s2 x y H2 I2 r1 r2 q2
theorem ybb {op:Operator}{r:R2}(ho:OpR X (binaryOp op) r)(ha:PE X a ta)(hb:PE X b tb):PE X (.BinOp a op b pos) (tOp r ta tb):=by
 intro pins s σ H Q I h
 exact wpAny_BinOp (yy3 ha hb I h fun v u s2 x y H2 I2 rx ry q=>ho pins s2 σ H2 x y v u Q I2 rx ry q)
theorem ytf {op:UnaryOp}{r:V→Hp→VK→Prop}(ho:UnR X (unaryOp op) r)(ha:PE X a ta):PE X (.UnaryOp op a pos) (tUn r ta):=by
 intro pins s σ H Q I h
 exact UnaryOp_ (thn (ha pins s σ H _ I h) fun v s1 ⟨x,H1,I1,r1,q1⟩=>ho pins s1 σ H1 x v Q I1 r1 q1)
theorem opI {f:Value→Value→Sem Value}{C:Int→Int→Prop}{g:Int→Int→Int}
 (rule:∀(i j:Int) (t u:Tok) (s:Shared) (Q:Value→Shared→Prop) (E:Value→Shared→Prop),C i j→Q (.int (g i j) s.toks) { s with toks:=s.toks+1 }→wpAny (model X.prog X.w) X.A (f (.int i t) (.int j u)) Q E s) :
 OpR X f (rI C fun i j=>.int (g i j)):=by
 intro pins s σ H x y v u Q I rx ry h
 obtain ⟨i,j,rfl,rfl,hc,q⟩:=h
 obtain ⟨t,rfl⟩:=rx
 obtain ⟨t',rfl⟩:=ry
 exact rule i j t t' s _ _ hc ⟨.int (g i j),H,I.tok _,⟨_,rfl⟩,q⟩
theorem yzm {f:Value→Value→Sem Value}{g:Int→Int→Int}
 (rule:∀(i j:Int) (t u:Tok) (s:Shared) (Q:Value→Shared→Prop) (E:Value→Shared→Prop),Q (.int (g i j) s.toks) { s with toks:=s.toks+1 }→wpAny (model X.prog X.w) X.A (f (.int i t) (.int j u)) Q E s) :
 OpR X f (rI0 fun i j=>.int (g i j)):=by
 intro pins s σ H x y v u Q I rx ry h
 obtain ⟨i,j,rfl,rfl,q⟩:=h
 obtain ⟨t,rfl⟩:=rx
 obtain ⟨t',rfl⟩:=ry
 exact rule i j t t' s _ _ ⟨.int (g i j),H,I.tok _,⟨_,rfl⟩,q⟩
theorem yyq {f:Value→Value→Sem Value}{g:Int→Int→Bool}
 (rule:∀(i j:Int) (t u:Tok) (s:Shared) (Q:Value→Shared→Prop) (E:Value→Shared→Prop),Q (.bool (g i j)) s→wpAny (model X.prog X.w) X.A (f (.int i t) (.int j u)) Q E s) :
 OpR X f (rI0 fun i j=>.bl (g i j)):=by
 intro pins s σ H x y v u Q I rx ry h
 obtain ⟨i,j,rfl,rfl,q⟩:=h
 obtain ⟨t,rfl⟩:=rx
 obtain ⟨t',rfl⟩:=ry
 exact rule i j t t' s _ _ ⟨.bl (g i j),H,I,rfl,q⟩
def yz8 (i j:Int):Prop:=0≤j∧j≤1000000∧i.natAbs<2 ^ 64
def CMul (i j:Int):Prop:=(-(2 ^ 64)<i∧i<2 ^ 64)∨(-(2 ^ 64)<j∧j<2 ^ 64)
theorem CMul.ok {i j:Int}(h:CMul i j):IntMulOk i j:=by
 rcases h with ⟨h1,h2⟩ | ⟨h1,h2⟩
 ·exact .of_left (intBits_le_64 h1 h2)
 ·exact .of_right (intBits_le_64 h1 h2)
theorem yb3:OpR X (binaryOp .Add) (rI0 fun i j=>.int (i+j)):=yzm fun _ _ _ _ _ _ _ q=>add_int q
theorem yg9:OpR X (binaryOp .Sub) (rI0 fun i j=>.int (i-j)):=yzm fun _ _ _ _ _ _ _ q=>sub_int q
theorem yu3:OpR X (binaryOp .Mult) (rI CMul fun i j=>.int (i*j)):=opI fun _ _ _ _ _ _ _ hc q=>mul_int q hc.ok
theorem yk7:OpR X (binaryOp .Mod) (rI (fun _ j=>0<j) fun i j=>.int (i % j)):=opI fun i j _ _ _ _ _ hc q=>by
 have h1:(0:Int)<j:=hc
 exact mod_int' (by omega) (by rw[Int.fmod_eq_emod_of_nonneg i (by omega)];exact q)
theorem yoc:OpR X (binaryOp .Pow) (rI yz8 fun i j=>.int (i ^ j.toNat)):=opI fun _ _ _ _ _ _ _ hc q=>pow_int_small hc.1 hc.2.1 hc.2.2 q
theorem unI {f:Value→Sem Value}{g:Int→Int}
 (rule:∀(i:Int) (t:Tok) (s:Shared) (Q:Value→Shared→Prop) (E:Value→Shared→Prop),Q (.int (g i) s.toks) { s with toks:=s.toks+1 }→wpAny (model X.prog X.w) X.A (f (.int i t)) Q E s) :
 UnR X f (rU fun i=>.int (g i)):=by
 intro pins s σ H x v Q I rx h
 obtain ⟨i,rfl,q⟩:=h
 obtain ⟨t,rfl⟩:=rx
 exact rule i t s _ _ ⟨.int (g i),H,I.tok _,⟨_,rfl⟩,q⟩
theorem yod:UnR X (unaryOp .USub) (rU fun i=>.int (-i)):=unI fun _ _ _ _ _ q=>neg_int q
end
def yzn:V→V→Bool
 |.non,.non=>true | .non,.int _=>true | .int _,.non=>true | .non,.bl _=>true | .bl _,.non=>true | .non,.str _=>true | .str _,.non=>true
 |.int _,.int _=>true | .bl _,.bl _=>true | .str _,.str _=>true | .byt _,.byt _=>true
 |.int _,.str _=>true | .str _,.int _=>true | .bl _,.str _=>true | .str _,.bl _=>true
 |_,_=>false
def rEq:R2:=fun x y H Q=>yzn x y=true∧Q (.bl (decide (x=y))) H
def rNe:R2:=fun x y H Q=>yzn x y=true∧Q (.bl (!decide (x=y))) H
theorem yqu {i j:Int}:decide (V.int i=V.int j)=(i == j):=by
 rw[Bool.eq_iff_iff]
 simp
theorem yu4 {i j:Bool}:decide (V.bl i=V.bl j)=(i == j):=by
 rw[Bool.eq_iff_iff]
 simp
theorem yqv {i j:Str}:decide (V.str i=V.str j)=(i == j):=by
 rw[Bool.eq_iff_iff]
 simp
theorem yqw {i j:Array UInt8}:decide (V.byt i=V.byt j)=(i.toList == j.toList):=by
 rw[Bool.eq_iff_iff]
 cases i
 cases j
 simp
section
variable {X:Cx}{a b c:Expr}{ta tb tc:TE}{pos:Pos}
theorem ybc {pins:List (Addr×Obj)}{σ:St}{H:Hp}{s:Shared}{Q:VK}{k k':Bool}(I:Inv X pins σ H s)(q:Q (.bl k) H)(e:k=k'):EP X pins σ Q (.bool k') s:=by
 subst e
 exact⟨.bl k,H,I,rfl,q⟩
theorem ym2:OpR X (compareOp .Eq) rEq:=by
 intro pins s σ H x y v u Q I rx ry h
 obtain ⟨hs,q⟩:=h
 cases x with
 |non=>
  cases rx
  cases y with
  |non=>cases ry;exact PySem.EqNone.eq_none_none (ybc I q (by simp))
  |bl j=>cases ry;exact PySem.EqNone.eq_none_bool (ybc I q (by simp))
  |int j=>obtain ⟨t',rfl⟩:=ry;exact PySem.EqNone.eq_none_int (ybc I q (by simp))
  |str j=>obtain ⟨t',rfl⟩:=ry;exact PySem.EqNone.eq_none_str (ybc I q (by simp))
  |_=>exact absurd (show false=true from hs) Bool.false_ne_true
 |bl i=>
  cases rx
  cases y with
  |non=>cases ry;exact PySem.EqNone.eq_bool_none (ybc I q (by simp))
  |bl j=>cases ry;exact eq_bool (ybc I q yu4)
  |str j=>obtain ⟨t',rfl⟩:=ry;exact PySem.EqMixed.eq_bool_str (ybc I q (by simp))
  |_=>exact absurd (show false=true from hs) Bool.false_ne_true
 |int i=>
  obtain ⟨t,rfl⟩:=rx
  cases y with
  |non=>cases ry;exact PySem.EqNone.eq_int_none (ybc I q (by simp))
  |int j=>obtain ⟨t',rfl⟩:=ry;exact eq_int (ybc I q yqu)
  |str j=>obtain ⟨t',rfl⟩:=ry;exact PySem.EqMixed.eq_int_str (ybc I q (by simp))
  |_=>exact absurd (show false=true from hs) Bool.false_ne_true
 |str i=>
  obtain ⟨t,rfl⟩:=rx
  cases y with
  |non=>cases ry;exact PySem.EqNone.eq_str_none (ybc I q (by simp))
  |bl j=>cases ry;exact PySem.EqMixed.eq_str_bool (ybc I q (by simp))
  |int j=>obtain ⟨t',rfl⟩:=ry;exact PySem.EqMixed.eq_str_int (ybc I q (by simp))
  |str j=>obtain ⟨t',rfl⟩:=ry;exact eq_str (ybc I q yqv)
  |_=>exact absurd (show false=true from hs) Bool.false_ne_true
 |byt i=>
  obtain ⟨t,rfl⟩:=rx
  cases y with
  |byt j=>obtain ⟨t',rfl⟩:=ry;exact PySem.W.eq_bytes (ybc I q yqw)
  |_=>exact absurd (show false=true from hs) Bool.false_ne_true
 |_=>cases y <;> exact absurd (show false=true from hs) Bool.false_ne_true
theorem yvr:OpR X (compareOp .NotEq) rNe:=by
 intro pins s σ H x y v u Q I rx ry h
 obtain ⟨hs,q⟩:=h
 cases x with
 |non=>
  cases rx
  cases y with
  |non=>cases ry;exact PySem.EqNone.ne_none_none (ybc I q (by simp))
  |bl j=>cases ry;exact PySem.EqNone.ne_none_bool (ybc I q (by simp))
  |int j=>obtain ⟨t',rfl⟩:=ry;exact PySem.EqNone.ne_none_int (ybc I q (by simp))
  |str j=>obtain ⟨t',rfl⟩:=ry;exact PySem.EqNone.ne_none_str (ybc I q (by simp))
  |_=>exact absurd (show false=true from hs) Bool.false_ne_true
 |bl i=>
  cases rx
  cases y with
  |non=>cases ry;exact PySem.EqNone.ne_bool_none (ybc I q (by simp))
  |bl j=>cases ry;exact ne_bool (ybc I q (congrArg not yu4))
  |str j=>obtain ⟨t',rfl⟩:=ry;exact PySem.EqMixed.ne_bool_str (ybc I q (by simp))
  |_=>exact absurd (show false=true from hs) Bool.false_ne_true
 |int i=>
  obtain ⟨t,rfl⟩:=rx
  cases y with
  |non=>cases ry;exact PySem.EqNone.ne_int_none (ybc I q (by simp))
  |int j=>obtain ⟨t',rfl⟩:=ry;exact ne_int (ybc I q (congrArg not yqu))
  |str j=>obtain ⟨t',rfl⟩:=ry;exact PySem.EqMixed.ne_int_str (ybc I q (by simp))
  |_=>exact absurd (show false=true from hs) Bool.false_ne_true
 |str i=>
  obtain ⟨t,rfl⟩:=rx
  cases y with
  |non=>cases ry;exact PySem.EqNone.ne_str_none (ybc I q (by simp))
  |bl j=>cases ry;exact PySem.EqMixed.ne_str_bool (ybc I q (by simp))
  |int j=>obtain ⟨t',rfl⟩:=ry;exact PySem.EqMixed.ne_str_int (ybc I q (by simp))
  |str j=>obtain ⟨t',rfl⟩:=ry;exact ne_str (ybc I q (congrArg not yqv))
  |_=>exact absurd (show false=true from hs) Bool.false_ne_true
 |byt i=>
  obtain ⟨t,rfl⟩:=rx
  cases y with
  |byt j=>obtain ⟨t',rfl⟩:=ry;exact PySem.W.ne_bytes (ybc I q (congrArg not yqw))
  |_=>exact absurd (show false=true from hs) Bool.false_ne_true
 |_=>cases y <;> exact absurd (show false=true from hs) Bool.false_ne_true
theorem yqx:OpR X (compareOp .Lt) (rI0 fun i j=>.bl (decide (i<j))):=yyq fun _ _ _ _ _ _ _ q=>lt_int q
theorem yeh:OpR X (compareOp .LtE) (rI0 fun i j=>.bl (decide (i≤j))):=yyq fun _ _ _ _ _ _ _ q=>le_int q
theorem yvs:OpR X (compareOp .Gt) (rI0 fun i j=>.bl (decide (j<i))):=yyq fun _ _ _ _ _ _ _ q=>gt_int q
theorem ypi:OpR X (compareOp .GtE) (rI0 fun i j=>.bl (decide (j≤i))):=yyq fun _ _ _ _ _ _ _ q=>ge_int q
theorem yu5:OpR X (compareOp .Is) (fun x y H Q=>y = .non∧Q (.bl (decide (x = .non))) H):=by
 intro pins s σ H x y v u Q I rx ry h
 obtain ⟨rfl,q⟩:=h
 cases ry
 refine is_none_gen (ybc I q ?_)
 cases x <;> first
  |(cases rx;rfl)
  |(obtain ⟨t,rfl⟩:=rx;rfl)
theorem yba (b:Expr){op:CmpOp}(h:op≠.In:=by decide)(h2:op≠.NotIn:=by decide):behindInMarks op b=false:=by
 have e1:(op == CmpOp.In)=false:=by cases op <;> first|rfl|exact absurd rfl h
 have e2:(op == CmpOp.NotIn)=false:=by cases op <;> first|rfl|exact absurd rfl h2
 cases b <;> simp [behindInMarks,e1,e2]
theorem yfc {op:CmpOp}{r:R2}(ho:OpR X (compareOp op) r)(ha:PE X a ta)(hb:PE X b tb)(hm:behindInMarks op b=false):PE X (.Compare a [op] [b] pos) (tOp r ta tb):=by
 intro pins s σ H Q I h
 exact wpAny_Compare1 (yy3 ha hb I h fun v u s2 x y H2 I2 rx ry q=>ho pins s2 σ H2 x y v u Q I2 rx ry q) hm
def ygs (t:TE):TT:=fun σ H Q=>t σ H fun x H'=>∃k,x = .bl k∧Q k H'
theorem ya5 {op:CmpOp}{r:R2}(ho:OpR X (compareOp op) r)(ha:PE X a ta)(hb:PE X b tb)(hm:behindInMarks op b=false):PT X (.Compare a [op] [b] pos) (ygs (tOp r ta tb)):=by
 intro pins s σ H Q I h
 refine wpAny_isTrue_Compare1 (thn (ha pins s σ H _ I h) fun v s1 ⟨x,H1,I1,r1,q1⟩=>thn (hb pins s1 σ H1 _ I1 q1) fun u s2 ⟨y,H2,I2,r2,q2⟩=>
  thn (ho pins s2 σ H2 x y v u _ I2 r1 r2 q2) fun c s3 ⟨z,H3,I3,r3,k,e,q3⟩=>?_) hm
 subst e
 cases r3
 exact wpAny_truthy_bool ⟨H3,I3,q3⟩
def yoe (r r':R2)(ta tb tc:TE):TE:=fun σ H Q=>ta σ H fun x H1=>tb σ H1 fun y H2=>r x y H2 fun z H3=>∃k,z = .bl k∧
 (if k=true then tc σ H3 fun w' H4=>r' y w' H4 Q else Q (.bl false) H3)
theorem ytg {op op':CmpOp}{r r':R2}(ho:OpR X (compareOp op) r)(ho':OpR X (compareOp op') r')(ha:PE X a ta)(hb:PE X b tb)(hc:PE X c tc)
 (hm:lastMarks [op,op'] [b,c]=false:=by with_unfolding_all rfl):PE X (.Compare a [op,op'] [b,c] pos) (yoe r r' ta tb tc):=by
 intro pins s σ H Q I h
 refine Compare_chain (thn (ha pins s σ H _ I h) fun v s1 ⟨x,H1,I1,r1,q1⟩=>chain_link (thn (hb pins s1 σ H1 _ I1 q1) fun u s2 ⟨y,H2,I2,r2,q2⟩=>
  thn (ho pins s2 σ H2 x y v u _ I2 r1 r2 q2) fun d s3 ⟨z,H3,I3,r3,k,e,q3⟩=>?_)) hm
 subst e
 cases r3
 refine wpAny_truthy_bool ?_
 cases k with
 |false=>exact ite_ff ⟨.bl false,H3,I3,rfl,q3⟩
 |true=>exact ite_tt (chain_last (thn (hc pins s3 σ H3 _ I3 q3) fun w' s4 ⟨z',H4,I4,r4,q4⟩=>ho' pins s4 σ H4 y z' u w' Q I4 r2 r4 q4))
theorem yfl {op op':CmpOp}{r r':R2}(ho:OpR X (compareOp op) r)(ho':OpR X (compareOp op') r')(ha:PE X a ta)(hb:PE X b tb)(hc:PE X c tc)
 (hm:lastMarks [op,op'] [b,c]=false:=by with_unfolding_all rfl):PT X (.Compare a [op,op'] [b,c] pos) (ygs (yoe r r' ta tb tc)):=by
 intro pins s σ H Q I h
 refine isTrue_chain (thn (ha pins s σ H _ I h) fun v s1 ⟨x,H1,I1,r1,q1⟩=>test_link (thn (hb pins s1 σ H1 _ I1 q1) fun u s2 ⟨y,H2,I2,r2,q2⟩=>
  thn (ho pins s2 σ H2 x y v u _ I2 r1 r2 q2) fun d s3 ⟨z,H3,I3,r3,k,e,q3⟩=>?_)) hm
 subst e
 cases r3
 refine wpAny_truthy_bool ?_
 cases k with
 |false=>
  obtain ⟨k',e',q'⟩:=q3
  cases e'
  exact ite_ff ⟨H3,I3,q'⟩
 |true=>
  refine ite_tt (test_last (thn (hc pins s3 σ H3 _ I3 q3) fun w' s4 ⟨z',H4,I4,r4,q4⟩=>thn (ho' pins s4 σ H4 y z' u w' _ I4 r2 r4 q4) fun d' s5 ⟨z2,H5,I5,r5,k2,e2,q5⟩=>?_))
  subst e2
  cases r5
  exact wpAny_truthy_bool ⟨H5,I5,q5⟩
def yzo (K:PySem.W.Frag)(x:V)(H:Hp)(k:Bool):Prop:=
 match x with
 |.non=>k=false
 |.bl b=>k=b
 |.int i=>k=(i != 0)
 |.str y=>y.length≤sizeLine∧k=((y.length:Int) != 0)
 |.byt y=>y.size≤sizeLine∧k=((y.size:Int) != 0)
 |.ref p=>(∃xs,SqL K H p xs∧k = !xs.isEmpty)∨(∃xs,SqT K H p xs∧k = !xs.isEmpty)∨∃kvs,H p=some (.dK kvs)∧k = !kvs.isEmpty
 |_=>False
theorem ypj {κ:Type}{kvs:List (κ×V)}{vs:List (κ×Value)}(r:KV kvs vs):(!vs.isEmpty) = !kvs.isEmpty:=by
 cases r <;> rfl
theorem yi6 {xs:List V}{its:List Value}(r:Vals xs its):(!its.toArray.isEmpty) = !xs.isEmpty:=by
 cases r <;> simp
theorem yk8:(sizeLine:Nat)<2 ^ 63:=by rw[sizeLine_eq];decide
theorem yxe:yz7 X (fun x H Q=>∃k,yzo X.K x H k∧Q k H):=by
 intro pins s σ H x v Q I rx h
 obtain ⟨k,e,q⟩:=h
 have hl:=yk8
 have hs:sizeLine=16777216:=sizeLine_eq
 cases x with
 |non=>
  cases rx
  have e':k=false:=e
  subst e'
  exact truthy_none ⟨H,I,q⟩
 |bl b=>
  cases rx
  have e':k=b:=e
  subst e'
  exact wpAny_truthy_bool ⟨H,I,q⟩
 |int i=>
  obtain ⟨t,rfl⟩:=rx
  have e':k=(i != 0):=e
  subst e'
  exact PySem.P.truthy_int ⟨H,I,q⟩
 |str y=>
  obtain ⟨t,rfl⟩:=rx
  obtain ⟨hy,e'⟩ : y.length≤sizeLine∧k=((y.length:Int) != 0):=e
  subst e'
  exact PySem.P.truthy_str (by omega) ⟨H,I.tok _,q⟩
 |byt y=>
  obtain ⟨t,rfl⟩:=rx
  obtain ⟨hy,e'⟩ : y.size≤sizeLine∧k=((y.size:Int) != 0):=e
  subst e'
  exact PySem.W.truthy_bytes (by omega) ⟨H,I.tok _,q⟩
 |ref p=>
  cases rx
  have e':(∃xs,SqL X.K H p xs∧k = !xs.isEmpty)∨(∃xs,SqT X.K H p xs∧k = !xs.isEmpty)∨∃kvs,H p=some (.dK kvs)∧k = !kvs.isEmpty:=e
  rcases e' with ⟨xs,hx,e'⟩ | ⟨xs,hx,e'⟩ | ⟨kvs,hx,e'⟩
  ·subst e'
   obtain ⟨its,r,pl,hz⟩:=I.list hx
   have hlen:=r.length
   exact wpAny_truthy_list pl.isList (by simp only[List.size_toArray];omega) ⟨H,I.tok _,by rw[yi6 r];exact q⟩
  ·subst e'
   obtain ⟨its,r,pl,hz⟩:=I.tuple hx
   have hlen:=r.length
   exact truthy_tuple pl (by simp only[List.size_toArray];omega) ⟨H,I.tok _,by rw[yi6 r];exact q⟩
  ·subst e'
   obtain ⟨hz,hS,vs,r,m⟩ : kvs.length≤sizeLine∧(p == sysModules)=false∧∃vs,KV kvs vs∧s.heap.DictOf (yb0 X.prog X.w) p vs:=I.hok p _ hx
   have hlen:kvs.length=vs.length:=Paired.length r
   exact wpAny_truthy_dict hS m (by omega) ⟨H,I.tok _,by rw[ypj r];exact q⟩
 |_=>exact(show False from e).elim
theorem ydq (ha:PE X a ta)(he:∀whole,isTrue a X.env whole=(do let v ← whole;standAt a.pos;holding [v] (truthy v))) :
 PT X a (fun σ H Q=>ta σ H fun x H'=>∃k,yzo X.K x H' k∧Q k H'):=by
 intro pins s σ H Q I h
 exact isTrue_plain (thn (ha pins s σ H _ I h) fun v s1 ⟨x,H1,I1,r1,q1⟩=>yxe pins s1 σ H1 x v Q I1 r1 q1) (he _)
theorem yth {x:V}{us:List Value}(r:Vals [x] us):∃u,us=[u]∧RelV x u:=by
 cases r with
 |cons r1 r2=>cases r2;exact⟨_,rfl,r1⟩
theorem yy4 {x y:V}{us:List Value}(r:Vals [x,y] us):∃u w',us=[u,w']∧RelV x u∧RelV y w':=by
 cases r with
 |cons r1 r2=>
  cases r2 with
  |cons r3 r4=>cases r4;exact⟨_,_,rfl,r1,r3⟩
theorem yqy (hc:X.calm=true):yft X (.builtin "min") (fun xs H Q=>∃i j,xs=[.int i,.int j]∧Q (.int (if j<i then j else i)) H):=by
 intro pins s σ H xs us Q I r h
 obtain ⟨i,j,rfl,q⟩:=h
 obtain ⟨u,w',rfl,⟨t,rfl⟩,⟨t',rfl⟩⟩:=yy4 r
 refine min_two_ints (I.ok.hd hc) fun h' tk k=>⟨_,H,I.kept k,?_,q⟩
 by_cases hj:j<i
 ·rw[if_pos hj,if_pos hj];exact⟨_,rfl⟩
 ·rw[if_neg hj,if_neg hj];exact⟨_,rfl⟩
theorem yqz:yft X (.type "int") (fun xs H Q=>(∃i,xs=[.int i]∧Q (.int i) H)∨∃k,xs=[.bl k]∧Q (.int (if k then 1 else 0)) H):=by
 intro pins s σ H xs us Q I r h
 rcases h with ⟨i,rfl,q⟩ | ⟨k,rfl,q⟩
 ·obtain ⟨u,rfl,t,rfl⟩:=yth r
  exact call_int_int ⟨.int i,H,I,⟨_,rfl⟩,q⟩
 ·obtain ⟨u,rfl,r1⟩:=yth r
  cases r1
  exact call_int_bool ⟨.int (if k then 1 else 0),H,I.tok _,⟨_,rfl⟩,q⟩
end
structure ObjM (h:Heap) (x dx C:Addr) (mA:Str→Option Value):Prop where
 obj:h.get? x=some (PySem.W.instObj C dx)
 ns:h.Ns1 dx mA
 ne:dx≠x
theorem yq0 {h:Heap}{dx:Addr}{mA:Str→Option Value}(n:h.Ns1 dx mA):∃od,h.get? dx=some od∧∀name,PySem.W.lookIn name od=some (mA name):=by
 obtain ⟨o,es,ep,ho,hd,hk,_,hm⟩:=n
 refine⟨o,ho,fun name=>?_⟩
 have e:=hm name
 unfold nsFind findBy at e
 rw[← Array.find?_toList] at e
 unfold PySem.W.lookIn
 rw[hd]
 dsimp only
 split
 ·rename_i y q
  rw[q] at e
  exact congrArg some e
 ·rename_i q
  rw[q] at e
  have a:es.toList.any (·.refKey)=false:=by
   rw[List.any_eq_false]
   intro y hy
   obtain ⟨z,t,hkey⟩:=hk y (Array.mem_toList_iff.mp hy)
   simp [DictEntry.refKey,hkey]
  have a':¬ es.toList.any (·.refKey)=true:=by rw[a];exact Bool.false_ne_true
  rw[if_neg a']
  exact congrArg some e
theorem ObjM.look {h:Heap}{x dx C:Addr}{mA:Str→Option Value}(I:ObjM h x dx C mA):∃od,PySem.W.InstAt h x (PySem.W.instObj C dx) C (some od)∧∀name,PySem.W.lookIn name od=some (mA name):=
 let ⟨od,ho,hl⟩:=yq0 I.ns
 ⟨od,⟨I.obj,rfl,rfl,ho⟩,hl⟩
section
variable {prog:Program}{w:World}{A:Around}{E:Value→Shared→Prop}{s:Shared}{K:PySem.W.Frag}{x dx C f:Addr}{mA:Str→Option Value}{name:Str}{v:Value}
end
theorem RelO.some_of {v:V}{o:Option Value}(r:RelO (some v) o):∃u,o=some u∧RelV v u:=by
 cases o with
 |none=>exact(show False from r).elim
 |some u=>exact⟨u,rfl,r⟩
section
variable {P:Program}{w:World}{H H':Hp}{h h':Heap}{a C dx:Addr}{fs fs':List (Str×V)}
theorem yq1 (hok:HOk P w H h)(e:H a=some (.ins C dx fs)):∃mA,ObjM h a dx C mA∧(∀f,RelO (fs.lookup f) (mA f))∧PySem.Within mA (fs.map (·.1))∧fs.length≤1000∧H dx=some (.own a):=by
 obtain ⟨d,z,ne,ob,mA,n,r,q⟩:=(show ObjOk P w H h a (.ins C dx fs) from hok a _ e)
 exact⟨mA,⟨ob,n,ne⟩,r,q,z,d⟩
end
structure Cls (K:PySem.W.Frag) (C:Addr):Prop where
 pg:PySem.W.plainGet K C Str.empty=true
 hd:PySem.W.hasDictIn K C=true
 po:PySem.W.plainOver K C=true
 sa:PySem.W.findIn K (.ref C) "__setattr__" = some (some (.builtin "object.__setattr__"))
theorem Cls.get {K:PySem.W.Frag}{C:Addr}(c:Cls K C)(f:Str):PySem.W.plainGet K C f=true:=c.pg
section
variable {X:Cx}{pins:List (Addr×Obj)}{σ:St}{H:Hp}{s:Shared}{a C dx:Addr}{fs:List (Str×V)}{f:Str}{v:V}{A:Around}{E:Value→Shared→Prop}
end
section
variable {X:Cx}{o e value:Expr}{f:Str}{pos pos' tpos:Pos}{ta tv:TE}
end
section
variable {X:Cx}{pins:List (Addr×Obj)}{σ:St}{H:Hp}{s:Shared}{A:Around}{E:Value→Shared→Prop}{Q:Value→Shared→Prop}{c:Value}{b:Bool}
inductive TyOf (K:PySem.W.Frag) (H:Hp):V→Value→Prop where
 |non:TyOf K H .non (.type "NoneType")
 |bl (x:Bool):TyOf K H (.bl x) (.type "bool")
 |int (i:Int):TyOf K H (.int i) (.type "int")
 |str (x:Str):TyOf K H (.str x) (.type "str")
 |flt (x:UInt64):TyOf K H (.flt x) (.type "float")
 |lst {a:Addr}{xs:List V} (e:H a=some (.lst xs)):TyOf K H (.ref a) (.type "list")
 |frz {a:Addr}{o:Obj}{xs:List V} (e:H a=some (.frz o (.lst xs))):TyOf K H (.ref a) (.type "list")
 |tup {a:Addr}{xs:List V} (e:H a=some (.tup xs)):TyOf K H (.ref a) (.type "tuple")
 |dK {a:Addr}{kvs:List (Key×V)} (e:H a=some (.dK kvs)):TyOf K H (.ref a) (.type "dict")
 |dT {a:Addr}{kvs:List (List Key×V)} (e:H a=some (.dT kvs)):TyOf K H (.ref a) (.type "dict")
 |ins {a C dx:Addr}{fs:List (Str×V)} (e:H a=some (.ins C dx fs)) (cl:Cls K C) (ha:PySem.W.findIn K (.ref C) "__class__" = some (some (.builtin "object.__class__")))
  (hn:PySem.W.specialIn K (.builtin "object.__class__") "__get__" = some (some (.builtin "getset_descriptor.__get__"))) (htk:PySem.W.takesIn K (.builtin "object.__class__")=some true)
  (hm:PySem.W.mroIn K C (.type "object")=some true):TyOf K H (.ref a) (.ref C)
theorem yq2 {x:V}{u t:Value}(I:Inv X pins σ H s)(rx:RelV x u)(ty:TyOf X.K H x t)(e:PySem.W.kitOne X.K t c=some b)(h:∀tk,Q (.bool b) { s with toks:=tk }) :
 wpAny (model X.prog X.w) A (call (.builtin "isinstance") [u,c]) Q E s:=by
 cases ty with
 |non=>cases (show u=Value.none from rx);exact PySem.W.kia_one PySem.W.kitx_none I.kIn True.intro e (fun z=>nomatch z) h
 |bl y=>cases (show u=Value.bool y from rx);exact PySem.W.kia_one PySem.W.kitx_bool I.kIn True.intro e (fun z=>nomatch z) h
 |int i=>obtain ⟨t,q⟩:=(show ∃t,u=Value.int i t from rx);cases q;exact PySem.W.kia_one PySem.W.kitx_int I.kIn True.intro e (fun z=>nomatch z) h
 |str y=>obtain ⟨t,q⟩:=(show ∃t,u=Value.str y t from rx);cases q;exact PySem.W.kia_one PySem.W.kitx_str I.kIn True.intro e (fun z=>nomatch z) h
 |flt y=>obtain ⟨t,q⟩:=(show ∃t,u=Value.float y t from rx);cases q;exact PySem.W.kia_one PySem.W.kitx_float I.kIn True.intro e (fun z=>nomatch z) h
 |@lst a xs ea=>
  cases (show u=Value.ref a from rx)
  obtain ⟨_,_,n,_,h1⟩:=(show ObjOk X.prog X.w H s.heap a (.lst xs) from I.hok a _ ea)
  exact PySem.W.kia_one PySem.W.kitx_list I.kIn ⟨_,h1,rfl⟩ e (fun z=>nomatch z) h
 |@frz a ob xs ea=>
  cases (show u=Value.ref a from rx)
  obtain ⟨_,_,_,n,_,h1⟩:=(show ObjOk X.prog X.w H s.heap a (.frz ob (.lst xs)) from I.hok a _ ea)
  exact PySem.W.kia_one PySem.W.kitx_list I.kIn ⟨_,h1,rfl⟩ e (fun z=>nomatch z) h
 |@tup a xs ea=>
  cases (show u=Value.ref a from rx)
  obtain ⟨_,_,_,p⟩:=(show ObjOk X.prog X.w H s.heap a (.tup xs) from I.hok a _ ea)
  obtain ⟨o,h1,h2,_⟩:=p
  exact PySem.W.kia_one PySem.W.kitx_tuple I.kIn ⟨o,h1,h2⟩ e (fun z=>nomatch z) h
 |@dK a kvs ea=>
  cases (show u=Value.ref a from rx)
  obtain ⟨_,_,vs,_,p⟩:=(show ObjOk X.prog X.w H s.heap a (.dK kvs) from I.hok a _ ea)
  obtain ⟨o,es,ep,h1,h2,_⟩:=p
  exact PySem.W.kia_one PySem.W.kitx_dict I.kIn ⟨o,h1,h2.1⟩ e (fun z=>nomatch z) h
 |@dT a kvs ea=>
  cases (show u=Value.ref a from rx)
  obtain ⟨_,_,xs,_,o,es,ep,h1,h2,_⟩:=(show ObjOk X.prog X.w H s.heap a (.dT kvs) from I.hok a _ ea)
  exact PySem.W.kia_one PySem.W.kitx_dict I.kIn ⟨o,h1,h2.1⟩ e (fun z=>nomatch z) h
 |@ins a C dx fs ea cl ha hn htk hm=>
  cases (show u=Value.ref a from rx)
  obtain ⟨mA,O,_⟩:=yq1 I.hok ea
  obtain ⟨od,J,_⟩:=O.look
  exact PySem.W.kia_one (PySem.W.kitx_own (cl.get _) cl.hd ha hn htk hm) I.kIn J e (fun z=>nomatch z) h
end
structure Room (k:Nat) (A:Around):Prop where
 hd:A.handled=none
 dp:A.depth+3*k+5<recursionLimit
 un:A.units+16*k+200<cLine
theorem Room.mono {j k:Nat}{A:Around}(r:Room k A)(h:j≤k):Room j A:=⟨r.hd,by have:=r.dp;omega,by have:=r.un;omega⟩
theorem Room.deeper {k:Nat}{A:Around}(r:Room (k+1) A)(env:Env):Room k (A.deeper env):=
 ⟨r.hd,by have:=r.dp;show A.depth+1+3*k+5<_;omega,by have:=r.un;show A.units+3+16*k+200<_;omega⟩
theorem Room.depth {k:Nat}{A:Around}(r:Room k A):A.depth<recursionLimit:=by have:=r.dp;omega
theorem Room.units {k:Nat}{A:Around}(r:Room k A):A.units+64<cLine:=by have:=r.un;omega
def ypk:TA:=fun _ H Q=>Q [] H
def ycp (ta:TE)(tr:TA):TA:=fun σ H Q=>ta σ H fun x H1=>tr σ H1 fun xs H2=>Q (x::xs) H2
section
variable {X:Cx}{e:Expr}{es:List Expr}{te:TE}{t:TA}{pos:Pos}
theorem yae:PA X [] ypk:=fun _ _ _ _ H Q I h=>Calls.spliced_nil ⟨[],H,I,.nil,h⟩
theorem yvt (ha:PE X e te)(hr:PA X es t)(hs:starEach (e::es) X.env=(false,eval e X.env)::starEach es X.env:=by rfl):PA X (e::es) (ycp te t):=by
 intro pos pins s σ H Q I h
 rw[hs]
 show wpAny _ _ (spliced ((false,eval e X.env)::backTo pos (starEach es X.env))) _ _ s
 refine Calls.spliced_cons (thn (ha pins s σ H _ I h) fun u s1 ⟨x,H1,I1,r1,q1⟩=>?_)
 exact thn (hr pos pins s1 σ H1 _ I1 q1) fun us s2 ⟨xs,H2,I2,r2,q2⟩=>⟨x::xs,H2,I2,.cons r1 r2,q2⟩
def yw3 (t:TA):TE:=fun σ H Q=>t σ H fun xs H1=>xs.length≤sizeLine∧∀p,H1 p=none→Q (.ref p) (upd H1 p (.tup xs))
def yz9 (t:TA):TE:=fun σ H Q=>t σ H fun xs H1=>xs.length≤sizeLine∧∀p,H1 p=none→Q (.ref p) (upd H1 p (.lst xs))
theorem ybf {x1}(h:PA X es t):PE X (.Tuple es x1 pos) (yw3 t):=by
 intro pins s σ H Q I hq
 refine wpAny_Tuple_spliced (thn (h pos pins s σ H _ I hq) fun us s1 ⟨xs,H1,I1,r,z,q⟩=>⟨by rw[← r.length];exact z,?_⟩)
 have hf:H1 s1.heap.objs.size=none:=I1.hok.fresh (Nat.le_refl _)
 refine⟨.ref s1.heap.objs.size,upd H1 s1.heap.objs.size (.tup xs),I1.laid (t':=s1.toks) (fun b u e=>Heap.get?_push_of_some _ e) (Nat.le_refl _) ?_,rfl,q _ hf⟩
 exact⟨z,us,r,⟨_,Heap.get?_push_size _ rfl,rfl,_,rfl⟩⟩
theorem yd5 (h:PA X es t):PE X (.List es pos) (yz9 t):=by
 intro pins s σ H Q I hq
 refine wpAny_List_spliced (thn (h pos pins s σ H _ I hq) fun us s1 ⟨xs,H1,I1,r,z,q⟩=>⟨by rw[← r.length];exact z,?_⟩)
 have hf:H1 s1.heap.objs.size=none:=I1.hok.fresh (Nat.le_refl _)
 refine⟨.ref s1.heap.objs.size,upd H1 s1.heap.objs.size (.lst xs),I1.laid (t':=s1.toks) (fun b u e=>Heap.get?_push_of_some _ e) (Nat.le_refl _) ?_,rfl,q _ hf⟩
 exact⟨z,us,0,r,Heap.get?_push_size _ rfl⟩
end
abbrev Sp:=List V→Hp→VK→XK→Prop
abbrev CXT:=List Env→Hp→Shared→XK→Value→Shared→Prop
structure Env0 (P:Program) (w:World) (K:PySem.W.Frag) (mg:Str→Option Value) (base:Heap) (A:Around) (outer:List Env) (s:Shared) (H:Hp):Prop where
 frames:A.frames=some outer
 mod:Mod K mg base
 bs:∀b o,base.get? b=some o→s.heap.get? b=some o∧H b=none
 bsz:base.objs.size≤s.heap.objs.size
 funs:s.heap.FunFrames base outer
 frf:∀b∈frs outer,H b=none
 hok:HOk P w H s.heap
 bare:AllBare s.gens
def CE (outer:List Env)(P:Program)(w:World)(H:Hp)(s:Shared)(Q:VK)(u:Value)(s':Shared):Prop:=
 ∃v H',s'.os=s.os∧AllBare s'.gens∧Un (frs outer) [] H H' s.heap s'.heap∧HOk P w H' s'.heap∧RelV v u∧Q v H'
def CR (CX:CXT)(outer:List Env)(P:Program)(w:World)(H:Hp)(s:Shared)(Q:VK)(E:XK)(r:Result)(s':Shared):Prop:=
 match r with
 |.ok (.ret u)=>CE outer P w H s Q u s'
 |.ok _=>False
 |.error e=>CX outer H s E e s'
structure FnOk (P:Program) (w:World) (K:PySem.W.Frag) (mg:Str→Option Value) (base:Heap) (CX:CXT) (k:Nat) (f:Addr) (fd:FuncData) (ps:List Str) (sp:Sp):Prop where
 len:∀vs H Q E,sp vs H Q E→vs.length=ps.length
 run:∀(A:Around) (outer:List Env) (s:Shared) (H:Hp) (args:Args) (us:List Value) (vs:List V) (Q:VK) (E:XK),Room k A→Env0 P w K mg base A outer s H→BindsTo s fd args (ps.zip us)→Vals vs us→sp vs H Q E→
  codeAny (model P w) A (.call (.ref f) args) (CR CX outer P w H s Q E) s
theorem FnOk.mono {P:Program}{w:World}{K:PySem.W.Frag}{mg:Str→Option Value}{base:Heap}{CX:CXT}{j k:Nat}{f:Addr}{fd:FuncData}{ps:List Str}{sp:Sp}(F:FnOk P w K mg base CX j f fd ps sp)(h:j≤k) :
 FnOk P w K mg base CX k f fd ps sp:=⟨F.len,fun A outer s H args us vs Q E hr=>F.run A outer s H args us vs Q E (hr.mono h)⟩
section
variable {X:Cx}{pins:List (Addr×Obj)}{σ:St}{H:Hp}{s s':Shared}
theorem Inv.env0 (I:Inv X pins σ H s):Env0 X.prog X.w X.K X.mg X.base X.A X.stack s H:=
 ⟨I.ok.frames,I.ok.mod,I.bs,Nat.le_trans I.ok.bsz I.sz,I.stack,I.stkFree,I.hok,I.bare⟩
theorem Inv.after {Q:VK}{u:Value}(I:Inv X pins σ H s)(h:CE X.stack X.prog X.w H s Q u s'):EP X pins σ Q u s':=by
 obtain ⟨v,H',os,bare,un,hok,r,q⟩:=h
 obtain ⟨hh,g,d,t,os'⟩:=s'
 obtain rfl:os'=s.os:=os
 exact⟨v,H',I.call (h':=hh) (g':=g) (d':=d) (t':=t) (ch:=[]) un hok bare (fun b z=>absurd z (by simp)),r,q⟩
end
def ypl (sp:Sp)(dvs:List V)(E:XK)(t:TA):TE:=fun σ H Q=>t σ H fun vs H1=>sp (vs++dvs) H1 Q E
def Binds (K:PySem.W.Frag)(fd:FuncData)(ps:List Str)(ds:List Value):Prop:=
 ∀(s:Shared) (us:List Value),K.In s.heap→(us++ds).length=ps.length→BindsTo s fd ⟨us,[]⟩ (ps.zip (us++ds))
theorem Binds.all {K:PySem.W.Frag}{fd:FuncData}{ps:List Str}(h:∀us:List Value,us.length=ps.length→bindArgs fd ⟨us,[]⟩=pure (ps.zip us)):Binds K fd ps []:=fun s us _ hl=>by
 rw[List.append_nil] at hl ⊢
 exact .of_eq (h us hl)
def yi7 (CX:CXT)(X:Cx)(E:XK):Prop:=∀(pins:List (Addr×Obj)) (σ:St) (H:Hp) (s:Shared) (e:Value) (s':Shared),Inv X pins σ H s→CX X.stack H s E e s'→X.xe e s'
section
variable {X:Cx}{CX:CXT}{k:Nat}{f C:Addr}{fd:FuncData}{ps:List Str}{sp:Sp}{dvs:List V}{ds:List Value}{E:XK}{x m:Str}{p pos apos:Pos}{e o:Expr}{es:List Expr}{ta:TE}{t:TA}
theorem yxf {pins:List (Addr×Obj)}{σ:St}{H:Hp}{s:Shared}{Q:VK}{us:List Value}{vs:List V}(F:FnOk X.prog X.w X.K X.mg X.base CX k f fd ps sp)(hr:Room k X.A)(hb:Binds X.K fd ps ds)(hd:Vals dvs ds)(hx:yi7 CX X E)
 (I:Inv X pins σ H s) (r:Vals vs us) (h:sp (vs++dvs) H Q E):wpAny (model X.prog X.w) X.A (call (.ref f) us) (EP X pins σ Q) X.xe s:=by
 have r2:Vals (vs++dvs) (us++ds):=r.append hd
 have hl:(us++ds).length=ps.length:=by rw[← r2.length];exact F.len _ _ _ _ h
 refine wpAny_call (codeAny_mono (F.run X.A X.stack s H ⟨us,[]⟩ (us++ds) (vs++dvs) Q E hr I.env0 (hb s us I.kIn hl) r2 h) fun r s' hq=>?_)
 cases r with
 |error e=>exact hx pins σ H s e s' I hq
 |ok fl=>
  cases fl with
  |ret u=>exact I.after hq
  |next=>exact False.elim hq
  |brk=>exact False.elim hq
  |cont=>exact False.elim hq
theorem yq3 (F:FnOk X.prog X.w X.K X.mg X.base CX k f fd ps sp)(hr:Room k X.A)(hg:Gl X x)(hm:X.mg x=some (.ref f))(hk:PySem.W.keepIn X.K (.ref f)=true)(hb:Binds X.K fd ps ds)(hd:Vals dvs ds)(hx:yi7 CX X E)
 (ha:PA X (e::es) t) (hdb:(x == ("__debug__" : Str))=false:=by decide) (he:starEach (e::es) X.env=(false,eval e X.env)::starEach es X.env:=by rfl) (hpl:(backTo pos (starEach es X.env)).any (·.1)=false:=by rfl) :
 PE X (.Call (.Name x p) (e::es) [] pos) (ypl sp dvs E t):=by
 intro pins s σ H Q I h
 refine wpAny_Call_Name_kw (ym1 I hg hm ?_ hdb)
 refine PySem.W.callWith_K (h₀:=X.base) I.ok.mod.kin hk (thn (ha pos pins s σ H _ I h) fun us s1 ⟨vs,H1,I1,r,q⟩=>⟨I1.kIn,?_⟩) he hpl
 exact yxf F hr hb hd hx I1 r q
end
section
variable {X:Cx}{CX:CXT}{k:Nat}{f C:Addr}{fd:FuncData}{ps ks:List Str}{sp:Sp}{E:XK}{x m:Str}{p pos apos kpos:Pos}{e o:Expr}{es:List Expr}{kws:List Keyword}{te ta:TE}{t tk:TA}{nm:Option Str}
variable {g:List Value→List Value→List Value}{gV:List V→List V→List V}
end
structure FnScope (N P:List Str) (sc:Scope):Prop where
 kind:sc.kind = .function
 co:sc.isCoroutine=false
 gen:sc.isGenerator=false
 nd:N.Nodup
 pre:N.take P.length=P
 par:∀x∈P,sc.names.lookup x=some .local∨sc.names.lookup x=some .cell
 nofree:∀y∈sc.names,y.2≠.free
theorem yk9 {kindOf:Str→Option NameKind}{x:Str}:∀{binds:List (Str×Value)}{m:Str→Option Value},(∀v,(x,v) ∉ binds)→bindL kindOf binds m x=m x
 |[],_,_=>rfl
 |(n,v)::r,m,h=>by
  unfold bindL
  rw[yk9 fun w hw=>h w (List.mem_cons_of_mem _ hw)]
  split
  ·have:x≠n:=by rintro rfl;exact h v List.mem_cons_self
   simp [this]
  ·rfl
theorem yla {kindOf:Str→Option NameKind}{x:Str}:∀{binds:List (Str×Value)}{m:Str→Option Value},(∀v,(x,v) ∉ binds)→bindC kindOf binds m x=m x
 |[],_,_=>rfl
 |(n,v)::r,m,h=>by
  unfold bindC
  rw[yla fun w hw=>h w (List.mem_cons_of_mem _ hw)]
  split
  ·rfl
  ·have:x≠n:=by rintro rfl;exact h v List.mem_cons_self
   simp [this]
theorem ylb {kindOf:Str→Option NameKind}{x:Str}{v:Value}:∀{P:List Str}{vs:List Value}{i:Nat}{m:Str→Option Value},P.Nodup→P[i]? = some x→vs[i]? = some v→kindOf x=some .local→
 bindL kindOf (P.zip vs) m x=some v
 |[],_,_,_,_,h,_,_=>by simp at h
 |_::_,[],_,_,_,_,h,_=>by simp at h
 |p::P,w::vs,0,m,nd,h1,h2,hk=>by
  simp at h1 h2;subst h1;subst h2
  show bindL kindOf ((p,w)::P.zip vs) m p=_
  unfold bindL
  rw[yk9 fun v hv=>(List.nodup_cons.mp nd).1 (List.of_mem_zip hv).1,if_pos hk]
  simp
 |p::P,w::vs,i+1,m,nd,h1,h2,hk=>by
  show bindL kindOf ((p,w)::P.zip vs) m x=_
  unfold bindL
  exact ylb (i:=i) (List.nodup_cons.mp nd).2 (by simpa using h1) (by simpa using h2) hk
theorem ylc {kindOf:Str→Option NameKind}{x:Str}{v:Value}:∀{P:List Str}{vs:List Value}{i:Nat}{m:Str→Option Value},P.Nodup→P[i]? = some x→vs[i]? = some v→kindOf x≠some .local→
 bindC kindOf (P.zip vs) m x=some v
 |[],_,_,_,_,h,_,_=>by simp at h
 |_::_,[],_,_,_,_,h,_=>by simp at h
 |p::P,w::vs,0,m,nd,h1,h2,hk=>by
  simp at h1 h2;subst h1;subst h2
  show bindC kindOf ((p,w)::P.zip vs) m p=_
  unfold bindC
  rw[yla fun v hv=>(List.nodup_cons.mp nd).1 (List.of_mem_zip hv).1,if_neg hk]
  simp
 |p::P,w::vs,i+1,m,nd,h1,h2,hk=>by
  show bindC kindOf ((p,w)::P.zip vs) m x=_
  unfold bindC
  exact ylc (i:=i) (List.nodup_cons.mp nd).2 (by simpa using h1) (by simpa using h2) hk
def yiw (N:List Str)(vs:List V):St:=vs.map some++List.replicate (N.length-vs.length) none
def yql (CX:CXT)(P:Program)(w:World)(K:PySem.W.Frag)(mg:Str→Option Value)(base:Heap)(N:List Str)(qual:Str)(scope:Scope)(f:Addr)(cd:Value)(A:Around)(outer:List Env)(s:Shared)(H:Hp)(E:XK):Cx where
 prog:=P
 w:=w
 K:=K
 mg:=mg
 base:=base
 A:=A.deeper (envOfC qual scope s.heap.objs.size f cd)
 N:=N
 s₀:=s
 H₀:=H
 env:=envOfC qual scope s.heap.objs.size f cd
 outer:=outer
 stack:=envOfC qual scope s.heap.objs.size f cd::outer
 ex:=[]
 calm:=true
 fn:=fun _=>true
 pn:=[]
 xe:=fun e s'=>wpAny (model P w) (A.deeper (envOfC qual scope s.heap.objs.size f cd)) (leaving (envOfC qual scope s.heap.objs.size f cd) e) (fun _ s''=>CX outer H s E e s'') (fun e' s''=>CX outer H s E e' s'') s'
theorem yof {sc:Scope}{n:Nat}{x:Str}(h:sc.names.lookup x=some .cell):∃c,(cellsFrom n sc.names []).lookup x=some c:=by
 have q:=PySem.W.cellsFrom_some sc.names n [] (.inl h)
 exact Option.isSome_iff_exists.mp q
theorem yq4 {CX:CXT}{P:Program}{w:World}{K:PySem.W.Frag}{mg:Str→Option Value}{base:Heap}{N ps:List Str}{qual:Str}{scope:Scope}{f:Addr}{cd:Value}{A:Around}{outer:List Env}{s s1:Shared}{H:Hp}{E:XK}{us:List Value}{vs:List V}
 (S:FnScope N ps scope) (hd:A.handled=none) (e0:Env0 P w K mg base A outer s H) (hl:vs.length=ps.length) (r:Vals vs us)
 (x:InCallC s s.heap.objs.size (bindL (envOfC qual scope s.heap.objs.size f cd).kindOf (ps.zip us) fun _=>none) (cellsFrom (s.heap.objs.size+1) scope.names []) (bindC (envOfC qual scope s.heap.objs.size f cd).kindOf (ps.zip us) fun _=>none) s1) :
 Inv (yql CX P w K mg base N qual scope f cd A outer s H E) [] (yiw N vs) H s1:=by
 have hpl:ps.length≤N.length:=by have:=congrArg List.length S.pre;rw[List.length_take] at this;omega
 obtain ⟨h1,tk,rfl,hk⟩:=x.done
 have noA:∀b:Addr,b ∉ (yql CX P w K mg base N qual scope f cd A outer s H E).ex:=fun b z=>absurd (show b∈([]:List Addr) from z) (by simp)
 refine⟨⟨e0.mod,S.kind,rfl,rfl,Nat.le_refl _,fun y z c h1 h2=>?_,fun y hy=>?_,fun y c _ h=>?_,fun _=>hd,Around.frames_deeper e0.frames,.inr ⟨rfl,rfl⟩,fun b z=>absurd z (noA b),e0.bs,e0.bsz,fun b _ _=>noA b,fun b z=>absurd z (noA b),e0.funs,e0.frf⟩,
  rfl,e0.bare,Un.kept hk,⟨_,x.toInCall.ns,fun i y v h1 h2 h3=>?_⟩,fun y c h=>⟨_,x.cell y c h⟩,e0.hok.fresh (Nat.le_refl _),fun y c h=>?_,fun p hp=>absurd (show p∈([]:List (Addr×Obj)) from hp) (by simp),e0.hok.kept hk,?_⟩
 ·exact name_of_addr x.apart (PySem.mem_of_lookup h1) (PySem.mem_of_lookup h2)
 ·have hy:scope.names.lookup y=some .cell∨scope.names.lookup y=some .free:=hy
  rcases hy with hy|hy
  ·exact yof hy
  ·exact absurd rfl (S.nofree _ (PySem.mem_of_lookup hy))
 ·exact Nat.le_of_lt (x.above y c (PySem.mem_of_lookup h))
 ·have hi:i<vs.length:=by
   unfold yiw at h2
   by_cases hi:i<vs.length
   ·exact hi
   ·rw[List.getElem?_append_right (by simpa using hi)] at h2
    rw[List.getElem?_replicate] at h2
    split at h2 <;> cases h2
  have ha:vs[i]? = some v:=by
   unfold yiw at h2
   rw[List.getElem?_append_left (by simpa using hi),List.getElem?_map] at h2
   cases e:vs[i]? with
   |none=>rw[e] at h2;cases h2
   |some a=>rw[e] at h2;cases h2;rfl
  obtain ⟨u,hu,rv⟩:=r.get ha
  have hp:ps[i]? = some y:=by
   rw[← S.pre,List.getElem?_take_of_lt (by omega)];exact h1
  have ndP:ps.Nodup:=by rw[← S.pre];exact S.nd.sublist (List.take_sublist _ _)
  refine⟨u,rv,?_⟩
  rcases S.par y (List.mem_of_getElem? hp) with k|k
  ·exact .inl ⟨k,ylb ndP hp hu k⟩
  ·obtain ⟨c,e⟩:=yof (n:=s.heap.objs.size+1) k
   refine .inr ⟨.inl k,c,e,?_⟩
   have q:=x.cell y c e
   rw[ylc ndP hp hu (by show scope.names.lookup y≠_;rw[k];decide)] at q
   exact q
 ·exact e0.hok.fresh (Nat.le_of_lt (x.above y c (PySem.mem_of_lookup h)))
 ·unfold yiw
  show _=N.length
  rw[List.length_append,List.length_map,List.length_replicate]
  omega
theorem yvu {CX:CXT}{P:Program}{w:World}{K:PySem.W.Frag}{mg:Str→Option Value}{base:Heap}{k:Nat}{f:Addr}{name qual:Str}{params:Arguments}{body:List Stmt}{scope:Scope}{dV kV doc pm cdv ct oc:Value}{an od:Option Addr}
 {osl:Array (Option Value)}{N ps:List Str}{sp:Sp} (lk:K.lookup f=some ⟨oc,od,.func (PySem.W.fnOf name qual params body scope dV kV doc pm an cdv ct),osl⟩) (hcd:PySem.W.codeIn K cdv qual=true) (S:FnScope N ps scope)
 (len:∀vs H Q E,sp vs H Q E→vs.length=ps.length)
 (hbody:∀(A:Around) (outer:List Env) (s:Shared) (H:Hp) (vs:List V) (Q:VK) (E:XK),Room k (A.deeper (envOfC qual scope s.heap.objs.size f cdv))→sp vs H Q E→
  ∃t,PSs (yql CX P w K mg base N qual scope f cdv A outer s H E) body t∧t { nx:=fun _ H'=>Q .non H',rt:=Q } (yiw N vs) H) :
 FnOk P w K mg base CX (k+1) f (PySem.W.fnOf name qual params body scope dV kV doc pm an cdv ct) ps sp:=by
 refine⟨len,fun A outer s H args us vs Q E hr e0 hb r hsp=>?_⟩
 have hl:=len _ _ _ _ hsp
 have KX:K.In s.heap:=e0.mod.kin.keeps fun b o e=>(e0.bs b o e).1
 have lim:s.heap.NoLimit:=e0.mod.nolimit.keeps fun b o e=>(e0.bs b o e).1
 have hkind:∀y∈ps.zip us,scope.names.lookup y.1=some .local∨(scope.names.lookup y.1=some .cell∧((cellsFrom (s.heap.objs.size+1) scope.names []).lookup y.1).isSome=true):=fun ⟨n,v⟩ hy=>by
  rcases S.par n (List.of_mem_zip hy).1 with q|q
  ·exact .inl q
  ·exact .inr ⟨q,PySem.W.cellsFrom_some _ _ _ (.inl q)⟩
 refine codeAny_call_function hr.depth (KX _ _ lk) rfl S.co S.gen rfl (PySem.W.codeRec_of KX hcd) (hb _ _ _ _ ?_)
 refine wpAny_newFunctionEnv_cells S.kind hkind fun env he s1 x=>?_
 subst he
 refine⟨lim.keeps x.toInCall.keep,codeAny_func ?_⟩
 obtain ⟨t,ht,hq⟩:=hbody A outer s H vs Q E (hr.deeper _) hsp
 have I:Inv (yql CX P w K mg base N qual scope f cdv A outer s H E) [] (yiw N vs) H s1:=yq4 S hr.hd e0 hl r x
 refine wpAny_mono (ht [] s1 (yiw N vs) H _ I hq) (fun fl s' hs=>?_) fun e s' hs=>hs
 have fin:∀{σ':St}{H':Hp}{v:V}{u:Value},Inv (yql CX P w K mg base N qual scope f cdv A outer s H E) [] σ' H' s'→RelV v u→Q v H'→CE outer P w H s Q u s':=
  fun {σ' H' v u} J rv q=>⟨v,H',J.os,J.bare,J.base,J.hok,rv,q⟩
 cases fl with
 |ret u=>
  obtain ⟨v,σ',H',J,rv,q⟩:=hs
  exact fin J rv q
 |next=>
  obtain ⟨σ',H',J,q⟩:=hs
  exact fin (v:=V.non) (u:=Value.none) J rfl q
 |brk=>
  obtain ⟨_,_,_,q⟩:=hs
  exact False.elim q
 |cont=>
  obtain ⟨_,_,_,q⟩:=hs
  exact False.elim q
section
variable {X:Cx}{x:Str}{p pos:Pos}{e:Expr}{es:List Expr}{t:TA}{id T:String}{r:List V→Hp→VK→Prop}
def tCB (r:List V→Hp→VK→Prop)(t:TA):TE:=fun σ H Q=>t σ H fun vs H1=>r vs H1 Q
theorem yao (hc:yft X (.builtin id) r) (hg:Gl X x) (hm:X.mg x=none) (hv:bootBuiltins x=some (.builtin id)) (ha:PA X (e::es) t) (hn:x ≠ "__name__" := by decide) (hdb:(x == ("__debug__" : Str))=false:=by decide)
 (he:starEach (e::es) X.env=(false,eval e X.env)::starEach es X.env:=by rfl) (hpl:(backTo pos (starEach es X.env)).any (·.1)=false:=by rfl):PE X (.Call (.Name x p) (e::es) [] pos) (tCB r t):=by
 intro pins s σ H Q I h
 refine wpAny_Call_Name_kw (yhs I hg hm hv ?_ hn hdb)
 exact PyProof.Rows.callWith_builtin1 (thn (ha pos pins s σ H _ I h) fun us s1 ⟨vs,H1,I1,r1,q1⟩=>hc pins s1 σ H1 vs us Q I1 r1 q1) he hpl
theorem ycg (hc:yft X (.type T) r) (hg:Gl X x) (hm:X.mg x=none) (hv:bootBuiltins x=some (.type T)) (ha:PA X (e::es) t) (hn:x ≠ "__name__" := by decide) (hdb:(x == ("__debug__" : Str))=false:=by decide)
 (he:starEach (e::es) X.env=(false,eval e X.env)::starEach es X.env:=by rfl) (hpl:(backTo pos (starEach es X.env)).any (·.1)=false:=by rfl):PE X (.Call (.Name x p) (e::es) [] pos) (tCB r t):=by
 intro pins s σ H Q I h
 refine wpAny_Call_Name_kw (yhs I hg hm hv ?_ hn hdb)
 exact PyProof.Rows.callWith_type1 (thn (ha pos pins s σ H _ I h) fun us s1 ⟨vs,H1,I1,r1,q1⟩=>hc pins s1 σ H1 vs us Q I1 r1 q1) he hpl
end
end L2
namespace HT
open PySem PyProof.Rows
section
open PySem.SeqAt
open PySem.AutoSeq1 (wpAny_loadPart')
open PySem.MeetsSeq PySem.MeetsSeq2 PySem.MeetsSeq3
end
section
variable {prog:Program}{w:World}{A:Around}{E:Value→Shared→Prop}{s:Shared}
def sIx (n d:Nat):Option Int→Nat
 |none=>d
 |some v=>if v<0 then (v+(n:Int)).toNat else min v.toNat n
theorem yxg (n d:Nat)(hd:d≤n)(o:Option Int):sIx n d o≤n:=by
 cases o with
 |none=>exact hd
 |some v=>
  show (if v<0 then (v+(n:Int)).toNat else min v.toNat n)≤n
  by_cases hv:v<0
  ·rw[if_pos hv];omega
  ·rw[if_neg hv];exact Nat.min_le_right _ _
theorem yq5 (v:Int)(n d:Nat):(if v<0 then max (v+(n:Int)) 0 else min v (n:Int))=((sIx n d (some v):Nat):Int):=by
 show (if v<0 then max (v+(n:Int)) 0 else min v (n:Int))=(((if v<0 then (v+(n:Int)).toNat else min v.toNat n):Nat):Int)
 by_cases hv:v<0
 ·simp only[if_pos hv];omega
 ·simp only[if_neg hv];omega
theorem ypm (lo hi:Option Int)(n:Nat):Builtin.Slice.sliceAdjust lo hi 1 (n:Int)=(((sIx n 0 lo:Nat):Int),((sIx n n hi:Nat):Int)):=by
 have h1:¬ ((1:Int)<0):=by omega
 unfold Builtin.Slice.sliceAdjust
 simp only[h1,if_false]
 refine Prod.ext ?_ ?_
 ·cases lo with
  |none=>rfl
  |some v=>exact yq5 v n 0
 ·cases hi with
  |none=>rfl
  |some v=>exact yq5 v n n
theorem ypn (i j:Nat):Builtin.Slice.slicePlaces (i:Int) (j:Int) 1=j-i:=by
 unfold Builtin.Slice.slicePlaces
 have h1:(1:Int) > 0:=by omega
 simp only[h1,if_true,Int.ediv_one]
 split <;> omega
theorem yi8 {v:Value}{o:Option Int}{Q:Option Int→Shared→Prop}(p:IsPart v o)(h:Q o s):wpAny (model prog w) A (Builtin.Slice.slicePartIndex v) Q E s:=by
 cases p with
 |none=>exact slicePart_none h
 |int i t=>exact slicePart_int h
theorem yhj {sl:Addr}{vl vu:Value}{lo hi:Option Int}{n:Nat}{Q:Int×Int×Nat→Shared→Prop}(hs:s.heap.IsSliceOf sl vl vu .none)(pl:IsPart vl lo)(pu:IsPart vu hi)
 (h:Q (((sIx n 0 lo:Nat):Int),1,sIx n n hi-sIx n 0 lo) s):wpAny (model prog w) A (Builtin.Slice.sliceApplied (.ref sl) (pure (n:Int))) Q E s:=by
 obtain ⟨os,hos,hcs,hds⟩:=id hs
 unfold Builtin.Slice.sliceApplied Builtin.Slice.sliceFields
 refine zwb0 (zwb0 (wpAny_field hos hds (x:=vl) rfl (zwb0 (wpAny_field hos hds (x:=vu) rfl (zwb0 (wpAny_field hos hds (x:=.none) rfl (zwp0 ?_)))))))
 refine zwb0 (slicePart_none ?_)
 show wpAny _ _ (if ((1:Int) == 0)=true then _ else _) _ _ s
 rw[if_neg (by decide)]
 refine zwb0 (yi8 pl (zwb0 (yi8 pu (zwb0 (zwp0 ?_)))))
 show wpAny _ _ (match Builtin.Slice.sliceAdjust lo hi 1 (n:Int) with|(lo,hi)=>pure (lo,(1:Int),Builtin.Slice.slicePlaces lo hi 1)) _ _ s
 rw[ypm lo hi n]
 show wpAny _ _ (pure (((sIx n 0 lo:Nat):Int),(1:Int),Builtin.Slice.slicePlaces ((sIx n 0 lo:Nat):Int) ((sIx n n hi:Nat):Int) 1)) _ _ s
 rw[ypn]
 exact zwp0 h
theorem yti (xs:Array Value)(i k:Nat):((List.range k).filterMap fun (m:Nat)=>xs[((i:Int)+(m:Int)*1).toNat]?).toArray=((xs.toList.drop i).take k).toArray:=by
 have e:(fun (m:Nat)=>xs[((i:Int)+(m:Int)*1).toNat]?)=fun m=>xs[i+m]?:=by
  funext m
  have:((i:Int)+(m:Int)*1).toNat=i+m:=by omega
  rw[this]
 rw[e]
 have:=pick_run xs i k
 rw[List.filterMap_map] at this
 have e2:((fun x=>xs[x]?) ∘ fun x=>i+x)=fun m=>xs[i+m]?:=rfl
 rw[e2] at this
 rw[this]
theorem getItem_tuple_cut {t sl:Addr}{items:Array Value}{vl vu:Value}{lo hi:Option Int}{Q:Value→Shared→Prop}(ht:IsTup s.heap t items)(hs:s.heap.IsSliceOf sl vl vu .none)(pl:IsPart vl lo)(pu:IsPart vu hi)
 (hw:¬ (sIx items.size 0 lo=0∧sIx items.size items.size hi=items.size))
 (h:Q (.ref s.heap.objs.size) { s with heap:=s.heap.push { cls:=.type "tuple",data:=.seq ((items.toList.drop (sIx items.size 0 lo)).take (sIx items.size items.size hi-sIx items.size 0 lo)).toArray } })
 (hsz:items.size≤sizeLine):wpAny (model prog w) A (getItem (.ref t) (.ref sl)) Q E s:=by
 have htake:sizeOk (.seq ((items.toList.drop (sIx items.size 0 lo)).take (sIx items.size items.size hi-sIx items.size 0 lo)).toArray):=by
  show ((items.toList.drop (sIx items.size 0 lo)).take (sIx items.size items.size hi-sIx items.size 0 lo)).toArray.size≤sizeLine
  rw[List.size_toArray,List.length_take,List.length_drop,Array.length_toList]
  omega
 have hj:sIx items.size items.size hi≤items.size:=yxg _ _ (Nat.le_refl _) hi
 obtain ⟨os,hos,hcs,hds⟩:=id hs
 have hTs:s.TypeIs (.ref sl) "slice" := ⟨os,hos,hcs⟩
 unfold getItem
 try with_reducible refine wpAny_holding ?_
 first|refine zwb0 (zwp0 ?_)|skip
 refine zwb0 (wpAny_sequenceKey ht.typeIs (by decide) ?_)
 refine zwb0 (wpAny_callSpecial?_slot (name:=Str.ofString "__getitem__") ht.typeIs PyProof.Rows.slot_tuple_getitem
  (wpAny_call_entry PyProof.Rows.slot_tuple_getitem ht.typeIs entry_tuple_getitem ?_ (args_tuple_getitem _ _)))
 show wpAny _ _ (Builtin.Tuple.tupleItemsOf (.ref t) >>= _) _ _ s
 refine zwb0 (tupleItemsOf_ ht ?_)
 refine zwb0 (wpAny_typeOf hTs ?_)
 rw[if_pos (by decide)]
 refine zwb0 (yhj hs pl pu ?_)
 have hno:¬ ((((sIx items.size 0 lo:Nat):Int) == 0&&(1:Int) == 1&&(sIx items.size items.size hi-sIx items.size 0 lo) == items.size)=true):=by
  intro q
  rw[Bool.and_eq_true,Bool.and_eq_true] at q
  have q1:((sIx items.size 0 lo:Nat):Int)=0:=eq_of_beq q.1.1
  have q2:sIx items.size items.size hi-sIx items.size 0 lo=items.size:=eq_of_beq q.2
  exact hw ⟨by omega,by omega⟩
 show wpAny _ _ (if (((sIx items.size 0 lo:Nat):Int) == 0&&(1:Int) == 1&&(sIx items.size items.size hi-sIx items.size 0 lo) == items.size)=true then _ else _) _ _ s
 rw[if_neg hno,yti]
 first
  |exact zwb0 (m:=Builtin.Tuple.tupleExact _) (wpAny_newObj_type (zwp0 ⟨_,rfl,zwp0 h⟩) htake)
  |exact zwb0 (m:=Builtin.Tuple.tupleExact _) (wpAny_newObj_type (zwb0 (zwp0 (zwp0 ⟨_,rfl,zwp0 h⟩))) htake)
  |exact zwb0 (zwb0 (m:=Builtin.Tuple.tupleExact _) (wpAny_newObj_type (zwp0 (zwp0 ⟨_,rfl,zwp0 h⟩)) htake))
  |exact zwb0 (zwb0 (m:=Builtin.Tuple.tupleExact _) (wpAny_newObj_type (zwp0 ⟨_,rfl,zwp0 h⟩) htake))
end
end HT
namespace L2
open PySem PySem.Spec PyProof.Rows
abbrev TO:=St→Hp→(Option Int→Hp→Prop)→Prop
def PO (X:Cx)(e:Option Expr)(t:TO):Prop:=
 ∀(pins:List (Addr×Obj)) (s:Shared) (σ:St) (H:Hp) (Q:Option Int→Hp→Prop),Inv X pins σ H s→t σ H Q→
  wpAny (model X.prog X.w) X.A (evalPart e X.env) (fun u s'=>∃o H',Inv X pins σ H' s'∧IsPart u o∧Q o H') X.xe s
def yq6:TO:=fun _ H Q=>Q none H
def yxh (t:TE):TO:=fun σ H Q=>t σ H fun x H1=>∃i,x = .int i∧Q (some i) H1
section
variable {X:Cx}{e:Expr}{te:TE}{lo hi:Option Expr}{tl th:TO}{pos p2:Pos}
theorem yfz:PO X none yq6:=by
 intro pins s σ H Q I h
 rw[evalPart_none]
 exact zwp0 ⟨none,H,I,.none,h⟩
theorem yf0 (h:PE X e te):PO X (some e) (yxh te):=by
 intro pins s σ H Q I hw
 rw[evalPart_some]
 refine thn (h pins s σ H _ I hw) fun u s1 ⟨x,H1,I1,r1,q1⟩=>?_
 obtain ⟨i,rfl,q⟩:=q1
 obtain ⟨t,rfl⟩:=r1
 exact⟨some i,H1,I1,.int i t,q⟩
def SlR (X:Cx)(r:V→Option Int→Option Int→Hp→VK→Prop):Prop:=
 ∀(pins:List (Addr×Obj)) (s:Shared) (σ:St) (H:Hp) (x:V) (v vl vu:Value) (lo hi:Option Int) (sl:Addr) (Q:VK),Inv X pins σ H s→RelV x v→s.heap.IsSliceOf sl vl vu .none→IsPart vl lo→IsPart vu hi→r x lo hi H Q→
  ∃T id,typeLookup (.type T) "__getitem__" = pure (some (.builtin id))∧s.TypeIs v T∧wpAny (model X.prog X.w) X.A (getItem v (.ref sl)) (EP X pins σ Q) X.xe s
def tSl (r:V→Option Int→Option Int→Hp→VK→Prop)(te:TE)(tl th:TO):TE:=fun σ H Q=>te σ H fun x H1=>tl σ H1 fun l H2=>th σ H2 fun u H3=>r x l u H3 Q
theorem ye3 {r:V→Option Int→Option Int→Hp→VK→Prop}(hr:SlR X r)(he:PE X e te)(hl:PO X lo tl)(hu:PO X hi th):PE X (.Subscript e (.Slice lo hi none p2) pos) (tSl r te tl th):=by
 intro pins s σ H Q I h
 refine Subscript_ (thn (he pins s σ H _ I h) fun v s1 ⟨x,H1,I1,r1,q1⟩=>?_)
 refine wpAny_Slice (thn (hl pins s1 σ H1 _ I1 q1) fun vl s2 ⟨l,H2,I2,pl,q2⟩=>thn (hu pins s2 σ H2 _ I2 q2) fun vu s3 ⟨u,H3,I3,pu,q3⟩=>?_)
 rw[evalPart_none]
 refine zwp0 ?_
 have I4:Inv X pins σ H3 { s3 with heap:=s3.heap.push { cls:=.type "slice",data:=.fields #[vl,vu,.none] } }:=I3.kept (t':=s3.toks) fun b ob q=>Heap.get?_push_of_some _ q
 obtain ⟨T,id,hT,ht,hg⟩:=hr pins { s3 with heap:=s3.heap.push { cls:=.type "slice",data:=.fields #[vl,vu,.none] } } σ H3 x v vl vu l u s3.heap.objs.size Q I4 r1 (Heap.IsSliceOf.new ..) pl pu q3
 show wpAny (model X.prog X.w) X.A (subscriptTail e (.Slice lo hi none p2) v (.ref s3.heap.objs.size)) (EP X pins σ Q) X.xe { s3 with heap:=s3.heap.push { cls:=.type "slice",data:=.fields #[vl,vu,.none] } }
 exact tail_any (ops:=[.ref s3.heap.objs.size,v]) ht hT hg (by with_unfolding_all rfl)
def yk1 (xs:List V)(lo hi:Option Int):List V:=(xs.drop (HT.sIx xs.length 0 lo)).take (HT.sIx xs.length xs.length hi-HT.sIx xs.length 0 lo)
theorem yhu (xs:List V)(lo hi:Option Int):(yk1 xs lo hi).length≤xs.length:=by
 unfold yk1
 rw[List.length_take,List.length_drop]
 omega
def yzp (K:PySem.W.Frag):V→Option Int→Option Int→Hp→VK→Prop:=fun x lo hi H Q=>∃a xs,x = .ref a∧SqT K H a xs∧
 ¬ (HT.sIx xs.length 0 lo=0∧HT.sIx xs.length xs.length hi=xs.length)∧∀p,H p=none→Q (.ref p) (upd H p (.tup (yk1 xs lo hi)))
theorem yxi:SlR X (yzp X.K):=by
 intro pins s σ H x v vl vu lo hi sl Q I rx hs pl pu h
 obtain ⟨a,xs,rfl,hx,hw,q⟩:=h
 cases rx
 obtain ⟨its,r,ht,hz⟩:=I.tuple hx
 have hlen:its.toArray.size=xs.length:=by rw[List.size_toArray];exact r.length.symm
 refine⟨"tuple",_,PyProof.Rows.slot_tuple_getitem.lookup,ht.typeIs,?_⟩
 refine HT.getItem_tuple_cut ht hs pl pu (by rw[hlen];exact hw) ?_ (by rw[hlen];exact hz)
 rw[hlen]
 refine⟨.ref s.heap.objs.size,_,I.laid (t':=s.toks) (o:=.tup (yk1 xs lo hi)) (fun b ob q=>Heap.get?_push_of_some _ q) (Nat.le_refl _) ?_,rfl,q _ (I.hok.fresh (Nat.le_refl _))⟩
 exact⟨Nat.le_trans (yhu xs lo hi) hz,_,(r.drop (HT.sIx xs.length 0 lo)).take (HT.sIx xs.length xs.length hi-HT.sIx xs.length 0 lo),IsTup.new _ _⟩
end
def ixN (n:Nat)(i:Int):Option Nat:=if 0≤i then (if i<n then some i.toNat else none) else if -(n:Int)≤i then some (i+n).toNat else none
def atI {α:Type}(xs:List α)(i:Int):Option α:=(ixN xs.length i).bind fun j=>xs[j]?
theorem yq7 {n:Nat}{i:Int}{j:Nat}(h:ixN n i=some j):seqIndex? i n=some j∧j<n∧-(n:Int)≤i∧i<n:=by
 unfold ixN at h
 by_cases h0:0≤i
 ·rw[if_pos h0] at h
  by_cases h1:i<n
  ·rw[if_pos h1] at h
   have e:i.toNat=j:=Option.some.inj h
   exact⟨by rw[seqIndex_of h0 h1,e],by omega,by omega,h1⟩
  ·rw[if_neg h1] at h;cases h
 ·rw[if_neg h0] at h
  by_cases h1:-(n:Int)≤i
  ·rw[if_pos h1] at h
   have e:(i+n).toNat=j:=Option.some.inj h
   exact⟨by rw[seqIndex_neg (by omega) h1,e],by omega,h1,by omega⟩
  ·rw[if_neg h1] at h;cases h
theorem yq8 {α:Type}{xs:List α}{i:Int}{v:α}(h:atI xs i=some v):∃j,seqIndex? i xs.length=some j∧xs[j]? = some v∧j<xs.length∧-(xs.length:Int)≤i∧i<xs.length:=by
 unfold atI at h
 cases e:ixN xs.length i with
 |none=>rw[e] at h;cases h
 |some j=>
  rw[e] at h
  obtain ⟨h1,h2,h3,h4⟩:=yq7 e
  exact⟨j,h1,h,h2,h3,h4⟩
theorem ydy {α:Type}{xs:List α}{j:Nat}{v:α}(h:xs[j]? = some v):atI xs (j:Int)=some v:=by
 have hj:j<xs.length:=(List.getElem?_eq_some_iff.mp h).1
 have e:ixN xs.length (j:Int)=some j:=by
  unfold ixN
  rw[if_pos (by omega),if_pos (by omega)];simp
 unfold atI;rw[e];exact h
def yvv (b:Expr):Prop:=∀o i,subscripted b false o i=operate [o,i] (getItem o i)
def IxR (X:Cx)(r:R2):Prop:=
 ∀(value slice:Expr) (pins:List (Addr×Obj)) (s:Shared) (σ:St) (H:Hp) (x y:V) (v u:Value) (Q:VK),Inv X pins σ H s→RelV x v→RelV y u→r x y H Q→
  subscripted slice false v u=operate [v,u] (getItem v u)→wpAny (model X.prog X.w) X.A (subscriptTail value slice v u) (EP X pins σ Q) X.xe s
def MtR (X:Cx)(id:String)(r:V→List V→Hp→VK→Prop):Prop:=
 ∀(pins:List (Addr×Obj)) (s:Shared) (σ:St) (H:Hp) (x:V) (xs:List V) (v:Value) (us:List Value) (Q:VK),Inv X pins σ H s→RelV x v→Vals xs us→r x xs H Q→
  wpAny (model X.prog X.w) X.A (call (.builtin id) (v::us)) (EP X pins σ Q) X.xe s
section
variable {X:Cx}{a b:Expr}{ta tb:TE}{pos:Pos}
theorem ya3 {r:R2}(hr:IxR X r)(ha:PE X a ta)(hb:PE X b tb)(hs:yvv b):PE X (.Subscript a b pos) (tOp r ta tb):=by
 intro pins s σ H Q I h
 exact Subscript_ (yy3 ha hb I h fun v u s2 x y H2 I2 rx ry q=>hr a b pins s2 σ H2 x y v u Q I2 rx ry q (hs _ _))
def yw4 (K:PySem.W.Frag):R2:=fun x y H Q=>∃p xs i v,x = .ref p∧y = .int i∧SqL K H p xs∧atI xs i=some v∧Q v H
def yq9 (K:PySem.W.Frag):R2:=fun x y H Q=>∃p xs i v,x = .ref p∧y = .int i∧SqT K H p xs∧atI xs i=some v∧Q v H
theorem ya0:IxR X (yw4 X.K):=by
 intro value slice pins s σ H x y v u Q I rx ry h hs
 obtain ⟨p,xs,i,z,rfl,rfl,hq,he,q⟩:=h
 cases rx
 obtain ⟨t,rfl⟩:=ry
 obtain ⟨its,r,pl,hz⟩:=I.list hq
 obtain ⟨j,h1,h2,h3,h4,h5⟩:=yq8 he
 obtain ⟨w,ew,rw'⟩:=r.get h2
 have hl:=r.length
 have hn:=yk8
 have fin:EP X pins σ Q w s:=⟨z,H,I,rw',q⟩
 by_cases h0:0≤i
 ·have hj:i.toNat=j:=by
   rw[seqIndex_of h0 h5] at h1
   exact Option.some.inj h1
  exact item_listR pl.isList h0 (by omega) (by rw[hj];simpa using ew) fin hs
 ·have hj:(i+(its.toArray.size:Int)).toNat=j:=by
   rw[seqIndex_neg (by omega) h4] at h1
   rw[List.size_toArray,← hl]
   exact Option.some.inj h1
  exact subscriptTail_builtinR (x:=w) pl.isList.typeIs slot_list_getitem.lookup
   (wpAny_getItem_list_neg (Q:=fun r s'=>r=w∧EP X pins σ Q r s') pl.isList (by omega) (by rw[List.size_toArray] <;> omega) (by omega) (by rw[hj];simpa using ew) ⟨rfl,fin⟩) hs
theorem ybg:IxR X (yq9 X.K):=by
 intro value slice pins s σ H x y v u Q I rx ry h hs
 obtain ⟨p,xs,i,z,rfl,rfl,hq,he,q⟩:=h
 cases rx
 obtain ⟨t,rfl⟩:=ry
 obtain ⟨its,r,pl,hz⟩:=I.tuple hq
 obtain ⟨j,h1,h2,h3,h4,h5⟩:=yq8 he
 obtain ⟨w,ew,rw'⟩:=r.get h2
 have hl:=r.length
 have hn:=yk8
 have fin:EP X pins σ Q w s:=⟨z,H,I,rw',q⟩
 exact subscriptTail_builtinR (x:=w) pl.typeIs slot_tuple_getitem.lookup
  (getItem_tuple (j:=j) (Q:=fun r s'=>r=w∧EP X pins σ Q r s') pl (by omega) (by omega) (by rw[List.size_toArray,← hl];exact h1) (by simpa using ew) ⟨rfl,fin⟩) hs
theorem ypo (its:List Value) (n j:Nat) (u:Value):Obj.mapSeq (·.setIfInBounds j u) { cls:=.type "list",data:=.seq its.toArray n } = { cls:=.type "list",data:=.seq (its.set j u).toArray n }:=by
 simp [Obj.mapSeq]
theorem Inv.lst {pins:List (Addr×Obj)}{σ:St}{H:Hp}{s:Shared}{p:Addr}{xs:List V}(I:Inv X pins σ H s)(h:H p=some (.lst xs)) :
 ∃(its:List Value) (n:Nat),Vals xs its∧s.heap.get? p=some { cls:=.type "list",data:=.seq its.toArray n }∧xs.length≤sizeLine:=by
 obtain ⟨z,its,n,r,e⟩:=I.hok p _ h
 exact⟨its,n,r,e,z⟩
theorem Inv.lstUpd {pins:List (Addr×Obj)}{σ:St}{H:Hp}{s:Shared}{p:Addr}{xs ys:List V}{its its':List Value}{n n':Nat}{f:Obj→Obj}(I:Inv X pins σ H s)(h:H p=some (.lst xs))
 (ho:s.heap.get? p=some { cls:=.type "list",data:=.seq its.toArray n }) (hf:f { cls:=.type "list",data:=.seq its.toArray n } = { cls:=.type "list",data:=.seq its'.toArray n' }) (r:Vals ys its') (hz:ys.length≤sizeLine) (t:Nat) :
 Inv X pins σ (upd H p (.lst ys)) { s with heap:=s.heap.update p f,toks:=t }:=by
 have e:(s.heap.update p f).get? p=some { cls:=.type "list",data:=.seq its'.toArray n' }:=by
  rw[Heap.get?_update_self f ho (by rw[hf] <;> rfl),hf]
 refine I.write (x:=p) (e:=p) (by rw[h];trivial) (.inl rfl) (fun b u hb q=>(Heap.get?_update_other _ _ (Ne.symm hb)).trans q) ⟨_,e⟩ ?_
 exact⟨hz,its',n',r,e⟩
def yy5:V→V→V→Hp→(Hp→Prop)→Prop:=fun o i v H Q=>∃p xs k j,o = .ref p∧i = .int k∧H p=some (.lst xs)∧ixN xs.length k=some j∧Q (upd H p (.lst (xs.set j v)))
theorem ydr:yzl X yy5:=by
 intro pins s σ H o i v ov iv u Q I ro ri rv h
 obtain ⟨p,xs,k,j,rfl,rfl,hp,hj,q⟩:=h
 cases ro
 obtain ⟨t,rfl⟩:=ri
 obtain ⟨its,n,r,ho,hz⟩:=I.lst hp
 obtain ⟨h1,h2,h3,h4⟩:=yq7 hj
 have hl:=r.length
 have hn:=yk8
 have I':Inv X pins σ (upd H p (.lst (xs.set j v))) { s with heap:=s.heap.update p (Obj.mapSeq (·.setIfInBounds j u)) }:=
  I.lstUpd hp ho (ypo its n j u) (r.set rv j) (by rw[List.length_set];exact hz) s.toks
 by_cases h0:0≤k
 ·have hk:k.toNat=j:=by
   rw[seqIndex_of h0 h4] at h1
   exact Option.some.inj h1
  exact PySem.W.ki_setAt ho h0 (by omega) (by rw[List.size_toArray,← hl];exact h4) (by rw[hk];exact⟨_,I',q⟩)
 ·have hk:(k+(its.toArray.size:Int)).toNat=j:=by
   rw[seqIndex_neg (by omega) h3] at h1
   rw[List.size_toArray,← hl]
   exact Option.some.inj h1
  exact PySem.W.ki_setBack ho (by omega) (by rw[List.size_toArray,← hl];exact h3) (by omega) (by rw[hk];exact⟨_,I',q⟩)
theorem yle (lo hi:Option Int)(n:Nat):(sliceBounds lo hi none n).1=((HT.sIx n 0 lo:Nat):Int)∧(sliceBounds lo hi none n).2.1=((HT.sIx n n hi:Nat):Int)∧(sliceBounds lo hi none n).2.2=1:=by
 refine⟨?_,?_,rfl⟩
 ·cases lo with
  |none=>simp [sliceBounds,HT.sIx]
  |some i=>
   simp only[sliceBounds,HT.sIx,Option.getD_none,show (1:Int) > 0 by decide,if_true]
   by_cases h:i<0
   ·simp only[h,if_true] <;> omega
   ·simp only[h,if_false] <;> omega
 ·cases hi with
  |none=>simp [sliceBounds,HT.sIx]
  |some i=>
   simp only[sliceBounds,HT.sIx,Option.getD_none,show (1:Int) > 0 by decide,if_true]
   by_cases h:i<0
   ·simp only[h,if_true] <;> omega
   ·simp only[h,if_false] <;> omega
theorem yj2 (its:List Value)(lo hi:Option Int):slicePick its.toArray lo hi none=((its.drop (HT.sIx its.length 0 lo)).take (HT.sIx its.length its.length hi-HT.sIx its.length 0 lo)).toArray:=by
 obtain ⟨h1,h2,h3⟩:=yle lo hi its.toArray.size
 unfold slicePick
 rw[h1,h2,h3]
 simp only[sliceRange_one,pick_run,List.size_toArray] <;> rfl
def zaa (K:PySem.W.Frag):V→Option Int→Option Int→Hp→VK→Prop:=fun x lo hi H Q=>∃a xs,x = .ref a∧SqL K H a xs∧∀p,H p=none→Q (.ref p) (upd H p (.lst (yk1 xs lo hi)))
theorem ygt:SlR X (zaa X.K):=by
 intro pins s σ H x v vl vu lo hi sl Q I rx hs pl pu h
 obtain ⟨a,xs,rfl,hx,q⟩:=h
 cases rx
 obtain ⟨its,r,ht,hz⟩:=I.list hx
 have hlen:=r.length
 refine⟨"list",_,slot_list_getitem.lookup,ht.isList.typeIs,?_⟩
 refine wpAny_getItem_list_slice ht.isList hs pl pu .none (by simp) ?_ (by rw[List.size_toArray] <;> omega)
 rw[yj2,← hlen]
 refine⟨.ref s.heap.objs.size,_,I.laid (t':=s.toks) (o:=.lst (yk1 xs lo hi)) (fun b ob q=>Heap.get?_push_of_some _ q) (Nat.le_refl _) ?_,rfl,q _ (I.hok.fresh (Nat.le_refl _))⟩
 exact⟨Nat.le_trans (yhu xs lo hi) hz,_,0,(r.drop (HT.sIx xs.length 0 lo)).take (HT.sIx xs.length xs.length hi-HT.sIx xs.length 0 lo),Heap.get?_push_size _ rfl⟩
def yra:V→Bool
 |.non=>true
 |.bl _=>true
 |.int _=>true
 |.str _=>true
 |_=>false
def eqV:V→V→Bool
 |.non,.non=>true
 |.bl a,.bl b=>a == b
 |.bl a,.int b=>(if a then 1 else 0) == b
 |.int a,.bl b=>a == (if b then 1 else 0)
 |.int a,.int b=>a == b
 |.str a,.str b=>a == b
 |_,_=>false
theorem yxj {A:Around}{s:Shared}{y x:V}{u v:Value}(ry:RelV y u)(rx:RelV x v)(fy:yra y=true)(fx:yra x=true):SeqAt.EqAt A s u v (eqV y x):=by
 cases y with
 |non=>
  cases ry
  cases x with
  |non=>cases rx;exact SeqAt.EqAt.same _
  |bl b=>cases rx;exact SeqAt.EqAt.none_bool b
  |int b=>obtain ⟨t,rfl⟩:=rx;exact SeqAt.EqAt.none_int b t
  |str b=>obtain ⟨t,rfl⟩:=rx;exact SeqAt.EqAt.none_str b t
  |_=>exact absurd (show false=true from fx) Bool.false_ne_true
 |bl a=>
  cases ry
  cases x with
  |non=>cases rx;exact SeqAt.EqAt.bool_none a
  |bl b=>cases rx;exact SeqAt.EqAt.bool_bool a b
  |int b=>obtain ⟨t,rfl⟩:=rx;exact SeqAt.EqAt.bool_int a b t
  |str b=>obtain ⟨t,rfl⟩:=rx;exact SeqAt.EqAt.bool_str a b t
  |_=>exact absurd (show false=true from fx) Bool.false_ne_true
 |int a=>
  obtain ⟨t',rfl⟩:=ry
  cases x with
  |non=>cases rx;exact SeqAt.EqAt.int_none a t'
  |bl b=>cases rx;exact SeqAt.EqAt.int_bool a t' b
  |int b=>obtain ⟨t,rfl⟩:=rx;exact SeqAt.EqAt.int_int a t' b t
  |str b=>obtain ⟨t,rfl⟩:=rx;exact SeqAt.EqAt.int_str a t' b t
  |_=>exact absurd (show false=true from fx) Bool.false_ne_true
 |str a=>
  obtain ⟨t',rfl⟩:=ry
  cases x with
  |non=>cases rx;exact SeqAt.EqAt.str_none a t'
  |bl b=>cases rx;exact SeqAt.EqAt.str_bool a t' b
  |int b=>obtain ⟨t,rfl⟩:=rx;exact SeqAt.EqAt.str_int a t' b t
  |str b=>obtain ⟨t,rfl⟩:=rx;exact SeqAt.EqAt.str_str a t' b t
  |_=>exact absurd (show false=true from fx) Bool.false_ne_true
 |_=>exact absurd (show false=true from fy) Bool.false_ne_true
theorem ybm:yft X (.builtin "len") (fun xs H Q=>∃p ys,xs=[.ref p]∧(SqL X.K H p ys∨SqT X.K H p ys)∧Q (.int ys.length) H):=by
 intro pins s σ H xs us Q I r h
 obtain ⟨p,ys,rfl,hq,q⟩:=h
 obtain ⟨u,rfl,rx⟩:=yth r
 cases rx
 have hn:=yk8
 rcases hq with hq|hq
 ·obtain ⟨its,r',pl,hz⟩:=I.list hq
  have hlen:=r'.length
  exact Calls.call_len_list pl.isList (by simp only[List.size_toArray] <;> omega) ⟨.int ys.length,H,I.tok _,⟨s.toks+1,by rw[List.size_toArray,hlen]⟩,q⟩
 ·obtain ⟨its,r',pl,hz⟩:=I.tuple hq
  have hlen:=r'.length
  exact len_tuple pl (by simp only[List.size_toArray] <;> omega) ⟨.int ys.length,H,I.tok _,⟨s.toks+1,by rw[List.size_toArray,hlen]⟩,q⟩
theorem yei:yft X (.type "list") (fun xs H Q=>∃p ys,xs=[.ref p]∧(SqL X.K H p ys∨SqT X.K H p ys)∧∀l,H l=none→Q (.ref l) (upd H l (.lst ys))):=by
 intro pins s σ H xs us Q I r h
 obtain ⟨p,ys,rfl,hq,q⟩:=h
 obtain ⟨u,rfl,rx⟩:=yth r
 cases rx
 have fin:∀(its:List Value),Vals ys its→ys.length≤sizeLine→∀(h':Heap) (c':Nat),(∀b o',s.heap.get? b=some o'→h'.get? b=some o')→
  h'.get? s.heap.objs.size=some { cls:=.type "list",dict:=none,data:=.seq its.toArray c',slots:=#[] }→EP X pins σ Q (.ref s.heap.objs.size) { s with heap:=h' }:=fun its r' hz h' c' kp e =>
  ⟨.ref s.heap.objs.size,_,I.laid (t':=s.toks) kp (Nat.le_refl _) (show ObjOk X.prog X.w _ h' _ (.lst ys) from ⟨hz,its,c',r',e⟩),rfl,q _ (I.hok.fresh (Nat.le_refl _))⟩
 rcases hq with hq|hq
 ·obtain ⟨its,r',pl,hz⟩:=I.list hq
  have hlen:=r'.length
  obtain ⟨o,ho,hc,n,hd⟩:=pl.isList
  exact call_list_seq p (.inl rfl) ho hc hd (fun h' c' kp e=>fin its r' hz h' c' kp e) (by simp only[List.size_toArray] <;> omega)
 ·obtain ⟨its,r',pl,hz⟩:=I.tuple hq
  have hlen:=r'.length
  obtain ⟨o,ho,hc,n,hd⟩:=pl
  exact call_list_seq p (.inr rfl) ho hc hd (fun h' c' kp e=>fin its r' hz h' c' kp e) (by simp only[List.size_toArray] <;> omega)
def tyV (K:PySem.W.Frag)(T:String)(x:V)(H:Hp):Prop:=match x with
 |.str _=>T = "str"
 |.int _=>T = "int"
 |.ref p=>(T = "list" ∧ ∃xs,SqL K H p xs)∨(T = "tuple" ∧ ∃o,K.lookup p=some o∧o.cls = .type "tuple" ∧ o.dict=none) ∨
  (T = "dict" ∧ ((∃kvs,H p=some (.dK kvs))∨∃kvs,H p=some (.dT kvs)))∨(T = "set" ∧ ∃S n,H p=some (.set S n))
 |_=>False
theorem yu6 {pins:List (Addr×Obj)}{σ:St}{H:Hp}{s:Shared}{T:String}{x:V}{v:Value}(I:Inv X pins σ H s)(r:RelV x v)(ty:tyV X.K T x H) :
 s.TypeIs v T∧∀a,v = .ref a→∃ob,s.heap.get? a=some ob∧ob.dict=none:=by
 cases x with
 |str z=>
  obtain ⟨t,rfl⟩:=r
  cases (show T = "str" from ty)
  exact⟨typeIs_str s z t,fun _ e=>nomatch e⟩
 |int i=>
  obtain ⟨t,rfl⟩:=r
  cases (show T = "int" from ty)
  exact⟨typeIs_int s i t,fun _ e=>nomatch e⟩
 |ref p=>
  cases r
  rcases ty with ⟨rfl,xs,hq⟩ | ⟨rfl,o,hk,hc,hd⟩ | ⟨rfl,hk⟩ | ⟨rfl,S,n,hk⟩
  ·obtain ⟨its,_,pl,_⟩:=I.list hq
   refine⟨pl.isList.typeIs,fun a e=>?_⟩
   cases e
   obtain ⟨o,n,e,c,hd,_⟩:=pl
   exact⟨o,e,hd⟩
  ·refine⟨⟨o,I.kIn p o hk,hc⟩,fun a e=>?_⟩
   cases e
   exact⟨o,I.kIn _ o hk,hd⟩
  ·have z:∃o,s.heap.get? p=some o∧o.ExactDict:=by
    rcases hk with ⟨kvs,hk⟩ | ⟨kvs,hk⟩
    ·obtain ⟨_,_,_,_,o,_,_,e,ex,_⟩:=I.hok p _ hk
     exact⟨o,e,ex⟩
    ·obtain ⟨_,_,_,_,o,_,_,e,ex,_⟩:=I.hok p _ hk
     exact⟨o,e,ex⟩
   obtain ⟨o,e,ex⟩:=z
   refine⟨⟨o,e,ex.1⟩,fun a e2=>?_⟩
   cases e2
   exact⟨o,e,ex.2.1⟩
  ·obtain ⟨o,_,_,_,e,ex,_⟩:=I.hok p _ hk
   refine⟨⟨o,e,ex.1⟩,fun a e2=>?_⟩
   cases e2
   exact⟨o,e,ex.2.1⟩
 |_=>exact False.elim ty
def zab (K:PySem.W.Frag)(T:String)(r:V→List V→Hp→VK→Prop)(to:TE):TE:=fun σ H Q=>to σ H fun x H1=>tyV K T x H1∧r x [] H1 Q
def tBM (K:PySem.W.Frag)(T:String)(r:V→List V→Hp→VK→Prop)(to:TE)(t:TA):TE:=fun σ H Q=>to σ H fun x H1=>tyV K T x H1∧t σ H1 fun xs H2=>r x xs H2 Q
variable {o e:Expr}{es:List Expr}{to:TE}{t:TA}{name:Str}{apos cpos:Pos}{T id:String}{r:V→List V→Hp→VK→Prop}
theorem yu7 (pa:PlainAttrs T) (slot:Slot T name id) (hty:typeOf (.builtin id)=pure (.type "method_descriptor")) (hm:MtR X id r) (ho:PE X o to)
 (hbase:attributeBase o name X.env (eval o X.env)=eval o X.env:=by rfl) (hline:(apos.endLine == cpos.line)=true:=by rfl):PE X (.Call (.Attribute o name apos) [] [] cpos) (zab X.K T r to):=by
 intro pins s σ H Q I h
 refine wpAny_Call_method0_late hbase hline (thn (ho pins s σ H _ I h) fun v s1 ⟨x,H1,I1,r1,ty,q1⟩=>?_)
 obtain ⟨h1,h2⟩:=yu6 I1 r1 ty
 exact⟨T,id,pa,slot,hty,h1,h2,Calls.callWith_builtin rfl (PySem.evalArgs_none (hm pins s1 σ H1 x [] v [] Q I1 r1 .nil q1))⟩
theorem ym3 (pa:PlainAttrs T) (slot:Slot T name id) (hty:typeOf (.builtin id)=pure (.type "method_descriptor")) (hm:MtR X id r) (ho:PE X o to) (ha:PA X (e::es) t)
 (hbase:attributeBase o name X.env (eval o X.env)=eval o X.env:=by rfl)
 (hfew:((backTo cpos (starEach (e::es) X.env)).all (fun x=>!x.1)&&(backToKw cpos (keywordEach [] X.env)).all (fun x=>x.1.isSome)
  && decide ((e::es).length+([]:List Keyword).length+(if ([]:List Keyword).isEmpty then 0 else 1)<30))=true:=by rfl)
 (hline:(apos.endLine == cpos.line)=true:=by rfl) (hs:starEach (e::es) X.env=(false,eval e X.env)::starEach es X.env:=by rfl) (hplain:(backTo cpos (starEach es X.env)).any (·.1)=false:=by rfl) :
 PE X (.Call (.Attribute o name apos) (e::es) [] cpos) (tBM X.K T r to t):=by
 intro pins s σ H Q I h
 refine wpAny_Call_method_late hbase hfew hline rfl (thn (ho pins s σ H _ I h) fun v s1 ⟨x,H1,I1,r1,ty,q1⟩=>?_)
 obtain ⟨h1,h2⟩:=yu6 I1 r1 ty
 refine⟨T,id,pa,slot,hty,h1,h2,?_⟩
 have hA:=ha cpos pins s1 σ H1 _ I1 q1
 rw[hs] at hA ⊢
 refine Calls.callWith_builtin (by show (false || (backTo cpos (starEach es X.env)).any (·.1))=false;rw[hplain] <;> rfl) (Calls.evalArgs_plain ?_)
 exact thn hA fun us s2 ⟨vs,H2,I2,r2,q2⟩=>hm pins s2 σ H2 x vs v us Q I2 r1 r2 q2
end
def MtM (X:Cx)(id:String)(r:V→List V→Hp→VK→Prop):Prop:=
 ∀(pins:List (Addr×Obj)) (s:Shared) (σ:St) (H:Hp) (x:V) (xs:List V) (v:Value) (us:List Value) (Q:VK),Inv X pins σ H s→RelV x v→Vals xs us→r x xs H Q→
  wpAny (model X.prog X.w) X.A (call (.builtin id) (v::us)) (EP X pins σ Q) X.xe s
theorem Vals.one:∀{x:V}{us:List Value},Vals [x] us→∃u,us=[u]∧RelV x u
 |_,_,.cons r .nil=>⟨_,rfl,r⟩
theorem Vals.two:∀{x y:V}{us:List Value},Vals [x,y] us→∃u v,us=[u,v]∧RelV x u∧RelV y v
 |_,_,_,.cons r (.cons q .nil)=>⟨_,_,rfl,r,q⟩
theorem Vals.zero:∀{us:List Value},Vals [] us→us=[]
 |_,.nil=>rfl
theorem Vals.rep {xs:List V}{us:List Value}(h:Vals xs us):∀k:Nat,Vals (List.replicate k xs).flatten (List.replicate k us).flatten
 |0=>.nil
 |k+1=>by
  rw[List.replicate_succ,List.replicate_succ,List.flatten_cons,List.flatten_cons]
  exact Vals.append h (Vals.rep h k)
theorem ylf (its:List Value):∀(k:Nat) (acc:List Value),
 List.foldl (fun x1 x2=>x1++x2) acc.toArray (List.replicate k its.toArray)=(acc++(List.replicate k its).flatten).toArray
 |0,acc=>by simp
 |k+1,acc=>by
  have e:acc.toArray++its.toArray=(acc++its).toArray:=by simp
  have e2:(acc++its)++(List.replicate k its).flatten=acc++(List.replicate (k+1) its).flatten:=by
   rw[List.replicate_succ,List.flatten_cons,List.append_assoc]
  rw[← e2,← ylf its k (acc++its),← e,List.replicate_succ,List.foldl_cons]
section
variable {X:Cx}{pins:List (Addr×Obj)}{σ:St}{H:Hp}{s:Shared}{l b:Addr}{xs ys zs:List V}
theorem Inv.lset {its its':List Value}{n:Nat}{f:Array Value→Array Value}{t':Nat}(I:Inv X pins σ H s)(hH:H l=some (.lst xs))
 (e:s.heap.get? l=some { cls:=.type "list",data:=.seq its.toArray n }) (hf:f its.toArray=its'.toArray) (hv:Vals ys its') (hz:ys.length≤sizeLine) :
 Inv X pins σ (upd H l (.lst ys)) { s with heap:=s.heap.update l (Obj.mapSeq f),toks:=t' }:=by
 have q:=PySem.IsL.update e f
 rw[hf] at q
 refine I.write (x:=l) (e:=l) (by rw[hH];exact trivial) (.inl rfl) (fun b' u hb hu=>(Heap.get?_update_other s.heap (Obj.mapSeq f) (Ne.symm hb)).trans hu) ⟨_,q⟩ ?_
 exact⟨hz,its',_,hv,q⟩
theorem Inv.lnew {its:List Value}{t':Nat}(I:Inv X pins σ H s)(hv:Vals ys its)(hz:ys.length≤sizeLine) :
 Inv X pins σ (upd H s.heap.objs.size (.lst ys)) { s with heap:=s.heap.push { cls:=.type "list",data:=.seq its.toArray },toks:=t' } :=
 I.laid (fun _ _ q=>Heap.get?_push_of_some _ q) (Nat.le_refl _) ⟨hz,its,0,hv,Heap.get?_push_size _ rfl⟩
theorem Inv.fresh (I:Inv X pins σ H s):H s.heap.objs.size=none:=I.hok.fresh (Nat.le_refl _)
theorem Inv.lstM (I:Inv X pins σ H s) (hH:H l=some (.lst xs)):xs.length≤sizeLine∧∃(its:List Value) (n:Nat),Vals xs its∧xs.length=its.length∧s.heap.get? l=some { cls:=.type "list",data:=.seq its.toArray n }:=by
 obtain ⟨z,its,n,r,e⟩:=I.hok l _ hH
 exact⟨z,its,n,r,r.length,e⟩
theorem ytj {n:Nat}(h:n≤sizeLine):Builtin.List.listTooLong n=false:=by
 unfold Builtin.List.listTooLong
 exact decide_eq_false (by omega)
end
section
variable {X:Cx}
def yvw:V→List V→Hp→VK→Prop:=fun x vs H Q=>∃l xs y,x = .ref l∧vs=[y]∧H l=some (.lst xs)∧xs.length<sizeLine∧Q .non (upd H l (.lst (xs++[y])))
theorem yc0:MtM X "list.append" yvw:=by
 intro pins s σ H x vs v us Q I rx rv h
 obtain ⟨l,xs,y,rfl,rfl,hH,hz,q⟩:=h
 cases rx
 obtain ⟨u,rfl,ru⟩:=rv.one
 obtain ⟨z,its,n,r,hl,e⟩:=I.lstM hH
 refine call_meets F.slot_list_append ⟨_,e,rfl⟩ F.entry_list_append (F.args_list_append_2 _ _) (PySem.list_append l its.toArray n u (by rw[List.size_toArray];omega)) ⟨e,?_⟩
 refine⟨.non,_,I.lset (its':=its++[u]) hH e (by simp) (r.append (.cons ru .nil)) ?_,rfl,q⟩
 rw[List.length_append,List.length_singleton]
 omega
def yxk:V→List V→Hp→VK→Prop:=fun x vs H Q=>∃l xs,x = .ref l∧vs=[]∧H l=some (.lst xs)∧Q .non (upd H l (.lst []))
theorem yog:MtM X "list.clear" yxk:=by
 intro pins s σ H x vs v us Q I rx rv h
 obtain ⟨l,xs,rfl,rfl,hH,q⟩:=h
 cases rx
 have hus:=rv.zero
 subst hus
 obtain ⟨z,its,n,r,hl,e⟩:=I.lstM hH
 refine call_meets F.slot_list_clear ⟨_,e,rfl⟩ F.entry_list_clear (F.args_list_clear_1 _) (AutoSeq1.list_clear_list_0 l its.toArray n (by rw[List.size_toArray];omega)) ⟨e,?_⟩
 exact⟨.non,_,I.lset (its':=[]) (ys:=[]) hH e rfl .nil (Nat.zero_le _),rfl,q⟩
def zac:R2:=fun x y H Q=>∃l b xs zs,x = .ref l∧y = .ref b∧H l=some (.lst xs)∧H b=some (.lst zs)∧xs.length+zs.length≤sizeLine∧∀p,H p=none→Q (.ref p) (upd H p (.lst (xs++zs)))
theorem yi9:OpR X (binaryOp .Add) zac:=by
 intro pins s σ H x y v u Q I rx ry h
 obtain ⟨l,b,xs,zs,rfl,rfl,hH,hB,hz,q⟩:=h
 cases rx
 cases ry
 obtain ⟨z,its,n,r,hl,e⟩:=I.lstM hH
 obtain ⟨z2,its2,n2,r2,hl2,e2⟩:=I.lstM hB
 refine PySem.P.add_list e e2 ?_ (by rw[List.size_toArray,List.size_toArray];omega)
 have ea:its.toArray++its2.toArray=(its++its2).toArray:=by simp
 rw[ea]
 exact⟨.ref _,_,I.lnew (t':=s.toks) (r.append r2) (by rw[List.length_append];omega),rfl,q _ I.fresh⟩
def zad:R2:=fun x y H Q=>∃l k xs,x = .ref l∧y = .int k∧H l=some (.lst xs)∧-(2 ^ 63)≤k∧k<2 ^ 63∧xs.length*k.toNat≤sizeLine∧
 ∀p,H p=none→Q (.ref p) (upd H p (.lst (List.replicate k.toNat xs).flatten))
theorem yvx {α:Type}(xs:List α)(k:Nat):(List.replicate k xs).flatten.length=k*xs.length:=by
 induction k with
 |zero=>simp
 |succ k ih=>rw[List.replicate_succ,List.flatten_cons,List.length_append,ih,Nat.succ_mul,Nat.add_comm]
theorem yu8:OpR X (binaryOp .Mult) zad:=by
 intro pins s σ H x y v u Q I rx ry h
 obtain ⟨l,k,xs,rfl,rfl,hH,h1,h2,hz,q⟩:=h
 cases rx
 obtain ⟨t,rfl⟩:=ry
 obtain ⟨z,its,n,r,hl,e⟩:=I.lstM hH
 have hlen:its.toArray.size*k.toNat≤sizeLine:=by rw[List.size_toArray,← hl];exact hz
 have hcap:¬ its.toArray.size*k.toNat > (2 ^ 63-1) / 8:=by
  have:(sizeLine:Nat)≤(2 ^ 63-1) / 8:=by decide
  omega
 have hfit:¬ (!Builtin.List.listFitsIndex k)=true:=by
  rw[fitsIndex_both h1 h2]
  exact Bool.false_ne_true
 have hlong:¬ Builtin.List.listTooLong (its.toArray.size*k.toNat)=true:=by
  rw[ytj hlen]
  exact Bool.false_ne_true
 have hnew:List.foldl (fun x1 x2=>x1++x2) #[] (List.replicate (if its.toArray.isEmpty=true then 0 else k.toNat) its.toArray)=(List.replicate k.toNat its).flatten.toArray:=by
  have f0:∀m:Nat,List.foldl (fun x1 x2=>x1++x2) #[] (List.replicate m its.toArray)=(List.replicate m its).flatten.toArray:=fun m=>by
   have:=ylf its m []
   rw[List.nil_append] at this
   exact this
  rw[f0]
  cases its with
  |nil=>simp
  |cons a r'=>rw[if_neg (by simp)]
 refine wpAny_binaryOp_repeat_ref (T := "list") (U := "int") (by decide) ⟨_,e,rfl⟩ (fun s'=>typeIs_int s' k t) noFill_list_mul F.fills_int_mul F.slot_int_rmul repeat_list F.slot_int_index.lookup
  (call_meets F.slot_int_rmul (typeIs_int s k t) F.entry_int_rmul (F.args_int_rmul_2 _ _) (int___rmul___int_list k t l its.toArray n)
   ⟨e,rfl,⟨_,e,rfl⟩,call_meets F.slot_list_mul ⟨_,e,rfl⟩ F.entry_list_mul (F.args_list_mul_2 _ _) (AutoListH.list___mul___list_int_3 l its.toArray n k t hfit hcap hlong) ⟨e,?_⟩⟩)
 rw[hnew]
 exact⟨.ref _,_,I.lnew (t':=s.toks) (r.rep k.toNat) (by rw[yvx,Nat.mul_comm];exact hz),rfl,q _ I.fresh⟩
end
section
variable {prog:Program}{w:World}{A:Around}{E:Value→Shared→Prop}{s:Shared}
end
section
variable {X:Cx}
end
end L2
namespace Att
open PySem PySem.W PySem.Calls PyProof.Rows
theorem yhv {P:Params}{h:Heap}:∀(ns:List Int) (vs:List Value),WellAll P h vs (ns.map WData.int)→IntsAre vs ns:=by
 intro ns
 induction ns with
 |nil=>
  intro vs w
  rw[List.map_nil] at w
  cases w
  exact .nil
 |cons n ns ih=>
  intro vs w
  rw[List.map_cons] at w
  cases w with
  |cons a b=>
   cases a
   exact .cons _ _ (ih _ b)
theorem yrb {l:OpenLaw}{n:Nat}(hn:l.most=some n){P:Params}{h:Heap}{args:List WData}{vals:List Value}
 (hpre:l.row.toRowW.claim.pre args=true) (hwl:WellAll P h vals args) :
 ∃a vs ns,vals=[Value.ref a]∧args=[WData.list (ns.map WData.int)]∧h.get? a=some { cls:=.type "list",data:=.seq vs.toArray }∧IntsAre vs ns∧ns.length≤n:=by
 have hsh:WShape.hasAll [] args [.list .int]=true:=(pre_splitW hpre).1
 have hc:l.pre.holds [] { args:=args } = true:=(pre_splitW hpre).2
 obtain ⟨d,r,rfl,h1,h2⟩:=hasAllW_cons hsh
 obtain rfl:=hasAllW_nil h2
 obtain ⟨xs,rfl,h3⟩:=hasW_list h1
 obtain ⟨ns,rfl⟩:=items_int h3
 have hlen:ns.length≤n:=by
  unfold OpenLaw.pre at hc
  have h4:(WTm.not (.lt (.lit (.int (n:Int))) (.len (.arg 0)))).holds [] { args:=[.list (ns.map .int)] } = true:=by
   have h4:=(holds_andW hc).1
   rw[hn] at h4
   exact h4
  have h5:=condW_of h4 (w_not (w_lt w_lit (w_len_list (w_arg rfl))))
  rw[List.length_map] at h5
  refine Nat.le_of_not_lt fun q=>?_
  have q':(n:Int)<((ns.length:Nat):Int):=by omega
  first
   |(rw[decide_eq_true q'] at h5;exact absurd h5 (by decide))
   |(simp at h5;omega)
 cases hwl with
 |cons w1 w2=>
  cases w2
  cases w1 with
  |list ho hall=>exact⟨_,_,ns,rfl,rfl,ho,yhv ns _ hall,hlen⟩
theorem yrc (l:OpenLaw)(args:List WData):l.row.toRowW.claim.post args (.bool true) args=true:=
 postW_of (r:=l.row.toRowW) (X:=(true == true))
  (show WShape.has [] (.bool true) .bool=true by first|rfl|decide|simp [WShape.has,WShape.arms,WShape.armsAll])
  (show (WTm.eq .res (.lit (.bool true))).value [] { args:=args,res:=some (.bool true),after:=args } = some (.bool (true == true)) from w_eq_bool (w_res rfl) w_lit) rfl
theorem attach_call {l:OpenLaw}{n:Nat}{q:Program}{loose:List Str}{XP:(Str→Option Value)→Heap→Prop}{YP:World→Heap→Prop}{d:DefRec}
 (hn:l.most=some n) (hdf:d.params.defaults=[])
 (call:∀(w:World) (s₀ s₁:Shared) (mg mb:Str→Option Value) (fa:Addr) (o:Obj) (pm cd doc:Value) (a:Addr) (vs:List Value) (ns:List Int),
  Ground q loose [] XP w s₀ mg mb s₁.heap→YP w s₁.heap→
  s₁.heap.get? fa=some o→o.data = .func (docDef d.name d.params d.body d.scope pm cd doc)→s₁.heap.CodeRec cd d.name→mg d.name=some (.ref fa)→
  s₁.heap.get? a=some { cls:=.type "list",data:=.seq vs.toArray }→IntsAre vs ns→ns.length≤n→s₁.gens = #[] →
  codeAny (model l.prog w) callerA (.call (.ref fa) ⟨[.ref a],[]⟩) (fun r s'=>r = .ok (.ret (.bool true))∧OldK s₁.heap s'.heap∧s'.os=s₁.os∧AllBare s'.gens) s₁) :
 WalkO q loose XP YP l.row.toRowW d [] (fun f vs=>PySem.call f vs):=by
 intro w s₀ s₁ mg mb G Y fa o pm cd doc dV kV ho hd hcd hD hmg hg args vals as hpre hlay hrd hwl hlo
 obtain rfl:dV = .none:=Dflts.none hD hdf
 obtain rfl:kV = .none:=Dflts.noKw hD
 obtain ⟨a,vs,ns,rfl,rfl,hobj,hints,hlen⟩:=yrb hn hpre hwl
 refine enter_call (codeAny_mono (call w s₀ s₁ mg mb fa o pm cd doc a vs ns G Y ho (fd_plain hd) hcd hmg hobj hints hlen hg) fun r s' hq=>?_)
 obtain ⟨rfl,h2,h3,h4⟩:=hq
 exact⟨.inl ⟨.bool true,.bool true,[],rfl,fun _=>rfl,.bool true,yrc l _,fun _=>⟨List.Pairwise.nil,fun _ hm=>(nomatch hm)⟩⟩,h2,h3,h4⟩
section
variable {prog:Program}{w:World}{A:Around}{E:Value→Shared→Prop}{s:Shared}{K:Frag}
end
end Att
namespace L2
open PySem PySem.Spec PyProof.Rows
theorem ylg:∀{vs:List Value}{ns:List Int},IntsAre vs ns→Vals (ns.map V.int) vs
 |_,_,.nil=>.nil
 |_,_,.cons n t h=>.cons ⟨t,rfl⟩ (ylg h)
def yas (s:Stmt):Arguments:=match s with
 |.FunctionDef _ a _ _ _ _ _ _ _ _=>a
 |_=>{ posonlyargs:=[],args:=[],vararg:=none,kwonlyargs:=[],kw_defaults:=[],kwarg:=none,defaults:=[] }
def yap (s:Stmt):List Stmt:=match s with
 |.FunctionDef _ _ b _ _ _ _ _ _ _=>b
 |_=>[]
def yab (s:Stmt):Scope:=match s with
 |.FunctionDef _ _ _ _ _ _ sc _ _ _=>sc
 |_=>{ kind:=.function,names:=[],isGenerator:=false,isCoroutine:=false }
abbrev CX0:CXT:=fun _ _ _ _ _ _=>False
abbrev E0:XK:=fun _ _ _=>False
theorem ybe {X:Cx}:yi7 CX0 X E0:=fun _ _ _ _ _ _ _ h=>h.elim
structure Fun (K:PySem.W.Frag) (x qual:Str) (st:Stmt) (f:Addr) (fd:FuncData):Prop where
 ex:∃(oc:Value) (od:Option Addr) (kV doc pm:Value) (an:Option Addr) (cdv ct:Value) (osl:Array (Option Value)),
  fd=PySem.W.fnOf x qual (yas st) (yap st) (yab st) .none kV doc pm an cdv ct∧K.lookup f=some ⟨oc,od,.func fd,osl⟩∧PySem.W.codeIn K cdv qual=true
 kp:PySem.W.keepIn K (.ref f)=true
section
variable {P:Program}{w:World}{K:PySem.W.Frag}{mg:Str→Option Value}{base:Heap}
theorem Fun.ok {x qual:Str}{st:Stmt}{f:Addr}{fd:FuncData}{N ps:List Str}{k:Nat}{sp:Sp}(F:Fun K x qual st f fd)(S:FnScope N ps (yab st))(len:∀vs H Q E,sp vs H Q E→vs.length=ps.length)
 (hbody:∀(cdv:Value) (A:Around) (outer:List Env) (s:Shared) (H:Hp) (vs:List V) (Q:VK) (E:XK),Room k (A.deeper (envOfC qual (yab st) s.heap.objs.size f cdv))→sp vs H Q E→
  ∃t,PSs (yql CX0 P w K mg base N qual (yab st) f cdv A outer s H E).nox (yap st) t∧t { nx:=fun _ H'=>Q .non H',rt:=Q } (yiw N vs) H):FnOk P w K mg base CX0 (k+1) f fd ps sp:=by
 obtain ⟨oc,od,kV,doc,pm,an,cdv,ct,osl,rfl,lk,hcd⟩:=F.ex
 refine yvu lk hcd S len fun A outer s H vs Q E hr hsp=>?_
 obtain ⟨t,h,q⟩:=hbody cdv A outer s H vs Q E hr hsp
 exact⟨t,h.nox,q⟩
theorem Fun.binds {x qual:Str}{st:Stmt}{f:Addr}{fd:FuncData}{ps:List Str}(F:Fun K x qual st f fd)
 (h:∀(kV doc pm:Value) (an:Option Addr) (cdv ct:Value) (us:List Value),us.length=ps.length→bindArgs (PySem.W.fnOf x qual (yas st) (yap st) (yab st) .none kV doc pm an cdv ct) ⟨us,[]⟩=pure (ps.zip us)):Binds K fd ps []:=by
 obtain ⟨oc,od,kV,doc,pm,an,cdv,ct,osl,rfl,lk,hcd⟩:=F.ex
 exact .all (h kV doc pm an cdv ct)
theorem ya6 {x qual:Str}{st:Stmt}{f:Addr}{oc:Value}{od an:Option Addr}{osl:Array (Option Value)}{kV doc pm cdv ct:Value}(l:K.lookup f=some ⟨oc,od,.func (PySem.W.fnOf x qual (yas st) (yap st) (yab st) .none kV doc pm an cdv ct),osl⟩)
 (c:PySem.W.codeIn K cdv qual=true) (k:PySem.W.keepIn K (.ref f)=true):Fun K x qual st f (PySem.W.fnOf x qual (yas st) (yap st) (yab st) .none kV doc pm an cdv ct):=⟨⟨oc,od,kV,doc,pm,an,cdv,ct,osl,rfl,l,c⟩,k⟩
end
theorem yxl {A:Around}{k:Nat}(hr:Room k A):A.units+1<cLine:=Nat.lt_of_le_of_lt (Nat.add_le_add_left (by decide:1≤64) _) hr.units
theorem yaq {n:Nat}(h:n≤1000):n<sizeLine:=Nat.lt_of_le_of_lt h (by decide)
section
variable {X:Cx}
theorem pv (i:Nat) {x:Str}{pos:Pos} (hN:X.N[i]? = some x:=by rfl) (hv:Vis X.env.scope x:=by first|exact Or.inl rfl|exact Or.inr (Or.inl rfl)|exact Or.inr (Or.inr rfl)) (hd:(x == ("__debug__" : Str))=false:=by decide)
 (hcd:(x == ("__classdict__" : Str))=false:=by decide):PE X (.Name x pos) (ybv i):=yw9 hN hv hd hcd
end
theorem ycd {A B:Prop}(h:B):if false=true then A else B:=by
 rw[if_neg Bool.false_ne_true]
 exact h
theorem yem {A B:Prop}(h:A):if true=true then A else B:=by
 rw[if_pos rfl]
 exact h
theorem yxm {c A B:Prop}[Decidable c](h1:c→A)(h2:¬ c→B):if c then A else B:=by
 by_cases h:c
 ·rw[if_pos h]
  exact h1 h
 ·rw[if_neg h]
  exact h2 h
theorem yxn {c A B:Prop}[Decidable c](hc:c)(h:B):if (!decide c)=true then A else B:=by
 rw[decide_eq_true hc]
 exact ycd h
def Same (H H':Hp):Prop:=∀b o,H b=some o→H' b=some o
theorem Same.refl (H:Hp):Same H H:=fun _ _ h=>h
theorem Same.trans {H H1 H2:Hp}(a:Same H H1)(b:Same H1 H2):Same H H2:=fun c o h=>b c o (a c o h)
theorem Same.free {H H':Hp}(e:Same H H'){l:Addr}(h:H' l=Option.none):H l=Option.none:=by
 cases q:H l with
 |none=>rfl
 |some o=>
  rw[e l o q] at h
  cases h
end L2
set_option maxHeartbeats 4000000
namespace L2
open PySem PySem.Spec PyProof.Rows
theorem ytk {P:Program}{w:World}{H:Hp}{h:Heap}{a:Addr}{o:HO}(x:ObjOk P w H h a o):∃ob,h.get? a=some ob:=by
 induction o with
 |lst xs=>obtain ⟨_,_,_,_,e⟩:=x;exact⟨_,e⟩
 |tup xs=>obtain ⟨_,_,_,ob,e,_⟩:=x;exact⟨_,e⟩
 |dK kvs=>obtain ⟨_,_,_,_,o,_,_,e,_⟩:=x;exact⟨_,e⟩
 |dT kvs=>obtain ⟨_,_,_,_,o,_,_,e,_⟩:=x;exact⟨_,e⟩
 |set S n=>obtain ⟨o,_,_,_,e,_⟩:=x;exact⟨_,e⟩
 |ins C dx fs=>obtain ⟨_,_,_,e,_⟩:=x;exact⟨_,e⟩
 |own y=>obtain ⟨_,e⟩:=x;exact⟨_,e⟩
 |xd fs=>obtain ⟨_,⟨_,_,_,e,_⟩,_⟩:=x;exact⟨_,e⟩
 |rng lo hi=>obtain ⟨_,_,_,e⟩:=x;exact⟨_,e⟩
 |frz ob u _=>obtain ⟨e,_⟩:=x;exact⟨_,e⟩
 |tbl ps=>exact⟨_,(show h.get? a=some _ from x)⟩
 |met f y=>exact⟨_,(show h.get? a=some _ from x)⟩
 |ext φ=>obtain ⟨_,e,_⟩:=x;exact e
 |cod q pos=>rcases x with e|⟨_,e,_⟩ <;> exact⟨_,e⟩
structure UnB (fs:List Addr) (H H':Hp) (h B h':Heap):Prop where
 keep:∀b o,h.get? b=some o→H b=none→b ∉ fs→B.get? b=some o
 slot:∀b o,h.get? b=some o→H b=none→b∈fs→∃sl,h'.get? b=some { o with slots:=sl }
 free:∀b o,h.get? b=some o→H b=none→H' b=none
 there:∀b o,h.get? b=some o→b∈fs∨∃o',B.get? b=some o'
 tups:∀b xs,H b=some (.tup xs)→H' b=some (.tup xs)
 frzs:∀b o u,H b=some (.frz o u)→H' b=some (.frz o u)
 tbls:∀b ps,H b=some (.tbl ps)→∃more,H' b=some (.tbl (ps++more))
def CXE (P:Program)(w:World):CXT:=fun outer H s E e s'=>∃(a:Addr) (cls a0:Value) (H':Hp) (B:Heap),e = .ref a∧s'.os=s.os∧AllBare s'.gens∧E cls none H'∧HOk P w H' B∧H' a=none∧s.heap.get? a=none∧
 Heap.FlyingW B outer a cls a0 s'.heap∧UnB (frs outer) H H' s.heap B s'.heap
section
variable {X:Cx}{pins:List (Addr×Obj)}{σ:St}{H:Hp}{s s':Shared}{E:XK}
theorem ylh {CX:CXT}{P:Program}{w:World}{K:PySem.W.Frag}{mg:Str→Option Value}{base:Heap}{N:List Str}{qual:Str}{scope:Scope}{f:Addr}{cd:Value}{A:Around}{outer:List Env}{s₀:Shared}{H₀:Hp}
 {pins:List (Addr×Obj)}{σ:St}{H:Hp}{s:Shared}{h':Heap}{e:Addr}{cls:Value}{args:List Value}
 (I:Inv (yql (CXE P w) P w K mg base N qual scope f cd A outer s₀ H₀ E) pins σ H s) (hx:Heap.MadeExcOf s.heap h' e cls args) (hE:E cls none H) :
 (yql (CXE P w) P w K mg base N qual scope f cd A outer s₀ H₀ E).xe (.ref e) { s with heap:=h' }:=by
 have hst:=I.stack
 have hlt:=I.lt
 have hnoex:∀b:Addr,b ∉ ([]:List Addr):=fun b z=>nomatch z
 show wpAny (model P w) (A.deeper (envOfC qual scope s₀.heap.objs.size f cd)) (leaving (envOfC qual scope s₀.heap.objs.size f cd) (.ref e)) (fun _ s''=>CXE P w outer H₀ s₀ E (.ref e) s'') (fun e' s''=>CXE P w outer H₀ s₀ E e' s'') { s with heap:=h' }
 refine wpAny_leaves_madeW (base:=PySem.W.hideAll s.heap (frs (envOfC qual scope s₀.heap.objs.size f cd::outer))) (h:=s.heap) (L:=s₀.heap.objs.size) I.ok.frames rfl (fun b o q=>PySem.W.of_hideAll _ q)
  (PySem.W.funFrames_hide hst fun env he b hb=>List.mem_filterMap.mpr ⟨env,he,hb⟩) hx fun h'' t fly _ _ upto=>?_
 have hsub:∀b,b∈frs outer→b∈frs (envOfC qual scope s₀.heap.objs.size f cd::outer):=fun b hb=>by
  obtain ⟨env,he,hf⟩:=List.mem_filterMap.mp hb
  exact List.mem_filterMap.mpr ⟨env,.tail _ he,hf⟩
 have hnot:∀b o,s₀.heap.get? b=some o→b ∉ frs outer→b ∉ frs (envOfC qual scope s₀.heap.objs.size f cd::outer):=fun b o q nb hb=>by
  rcases List.mem_cons.mp (I.stkSub b hb) with z|z
  ·exact absurd (Heap.lt_size q) (by rw[z];exact Nat.lt_irrefl _)
  ·exact nb z
 have hfree:∀b∈frs (envOfC qual scope s₀.heap.objs.size f cd::outer),H b=none:=I.stkFree
 have nohid:∀b u,H b=some u→b ∉ frs (envOfC qual scope s₀.heap.objs.size f cd::outer):=fun b u q hb=>by rw[hfree b hb] at q;cases q
 refine⟨e,cls,.ref t,H,_,rfl,I.os,I.bare,hE,fun b u q=>?_,?_,?_,fly,?_⟩
 ·refine(I.hok b u q).stay (fun c v hc r=>PySem.W.hideAll_get _ r ?_) (fun _ r=>r) fun _ _ r=>r
  rcases hc with z|z
  ·rw[z];exact nohid b u q
  ·exact nohid c _ z
 ·cases q:H e with
  |none=>rfl
  |some u=>
   obtain ⟨ob,e1⟩:=ytk (I.hok e u q)
   rw[hx.new] at e1;cases e1
 ·cases q:s₀.heap.get? e with
  |none=>rfl
  |some o=>
   obtain ⟨o',e1⟩:=I.base.there e o q (hnoex e)
   rw[hx.new] at e1;cases e1
 ·refine⟨fun b o q n nb=>PySem.W.hideAll_get _ (I.base.keep b o q n nb (hnoex b)) (hnot b o q nb),fun b o q n hb=>?_,fun b o q n=>I.base.free b o q n (hnoex b),fun b o q=>?_,I.base.tups,I.base.frzs,I.base.tbls⟩
  ·obtain ⟨sl,e1⟩:=I.base.slot b o q n hb (hnoex b)
   obtain ⟨_,ob,e2,nf⟩:=hst.mem (hsub b hb)
   rw[e1] at e2;cases e2
   have e3:=hx.keeps b _ e1
   obtain ⟨sl',e4⟩:=upto b _ e3 nf
   exact⟨sl',e4⟩
  ·by_cases hb:b∈frs outer
   ·exact .inl hb
   ·obtain ⟨o',e1⟩:=I.base.there b o q (hnoex b)
    exact .inr ⟨o',PySem.W.hideAll_get _ e1 (hnot b o q hb)⟩
theorem yhw {P:Program}{w:World}{K:PySem.W.Frag}{mg:Str→Option Value}{base:Heap}{N:List Str}{qual:Str}{scope:Scope}{f:Addr}{cd:Value}{A:Around}{outer:List Env}{s₀:Shared}{H₀:Hp}{E E':XK}
 (hE:∀cls H,E' cls none H→E cls none H):yi7 (CXE P w) (yql (CXE P w) P w K mg base N qual scope f cd A outer s₀ H₀ E) E':=by
 intro pins σ H s e s' I h
 obtain ⟨a,cls,a0,H',B,rfl,hos,hb,hE',hok,hna,hfr,fly,u⟩:=h
 have hnoex:∀b:Addr,b ∉ ([]:List Addr):=fun b z=>nomatch z
 have hsub:∀b,b∈frs outer→b∈frs (envOfC qual scope s₀.heap.objs.size f cd::outer):=fun b hb=>by
  obtain ⟨env,he,hf⟩:=List.mem_filterMap.mp hb
  exact List.mem_filterMap.mpr ⟨env,.tail _ he,hf⟩
 have hnot:∀b o,s₀.heap.get? b=some o→b ∉ frs outer→b ∉ frs (envOfC qual scope s₀.heap.objs.size f cd::outer):=fun b o q nb hb=>by
  rcases List.mem_cons.mp (I.stkSub b hb) with z|z
  ·exact absurd (Heap.lt_size q) (by rw[z];exact Nat.lt_irrefl _)
  ·exact nb z
 show wpAny (model P w) (A.deeper (envOfC qual scope s₀.heap.objs.size f cd)) (leaving (envOfC qual scope s₀.heap.objs.size f cd) (.ref a)) (fun _ s''=>CXE P w outer H₀ s₀ E (.ref a) s'') (fun e' s''=>CXE P w outer H₀ s₀ E e' s'') s'
 refine wpAny_leaves_onW (L:=s₀.heap.objs.size) I.ok.frames rfl fly fun h'' fly' upto=>?_
 refine⟨a,cls,a0,H',B,rfl,hos.trans I.os,hb,hE cls H' hE',hok,hna,?_,fly',?_⟩
 ·cases q:s₀.heap.get? a with
  |none=>rfl
  |some o=>
   obtain ⟨o',e1⟩:=I.base.there a o q (hnoex a)
   rw[hfr] at e1;cases e1
 ·refine⟨fun b o q n nb=>u.keep b o (I.base.keep b o q n nb (hnoex b)) (I.base.free b o q n (hnoex b)) (hnot b o q nb),fun b o q n hb=>?_,fun b o q n=>?_,fun b o q=>?_,fun b xs q=>u.tups b xs (I.base.tups b xs q),fun b o x q=>u.frzs b o x (I.base.frzs b o x q),fun b ps q=>?_⟩
  ·obtain ⟨sl,e1⟩:=I.base.slot b o q n hb (hnoex b)
   obtain ⟨sl',e2⟩:=u.slot b _ e1 (I.base.free b o q n (hnoex b)) (hsub b hb)
   obtain ⟨_,ob,e3,nf⟩:=fly.2.2.1.mem (hsub b hb)
   rw[e2] at e3;cases e3
   obtain ⟨sl'',e4⟩:=upto b _ e2 nf
   exact⟨sl'',e4⟩
  ·obtain ⟨o',e1⟩:=I.base.there b o q (hnoex b)
   exact u.free b o' e1 (I.base.free b o q n (hnoex b))
  ·by_cases hb:b∈frs outer
   ·exact .inl hb
   ·obtain ⟨o',e1⟩:=I.base.there b o q (hnoex b)
    rcases u.there b o' e1 with z|z
    ·exact absurd z (hnot b o q hb)
    ·exact .inr z
  ·obtain ⟨m1,e1⟩:=I.base.tbls b ps q
   obtain ⟨m2,e2⟩:=u.tbls b _ e1
   exact⟨m1++m2,by rw[e2,Array.append_assoc]⟩
end
end L2
namespace L2
open PySem PySem.Spec PyProof.Rows PySem.Builtin.ObjectAttr PySem.Builtin.Getset_descriptor
section
variable {prog:Program}{w:World}{A:Around}{E:Value→Shared→Prop}{K:PySem.W.Frag}{x D:Addr}{s:Shared}
end
end L2
namespace L2
open PySem PySem.Spec PyProof.Rows
theorem yvy {K:PySem.W.Frag}{h:Heap}{C:Addr}{bmB:List Value}{newId:String}(X:K.In h)(q:PySem.W.excIn K C bmB newId=true) :
 ∃bm N nm qn bs hd sn sub ab col dd k0 k1 k2 k3 k5 mN,h.get? C=some (excClassObj nm qn C N bs bm hd sn sub ab col dd k0 k1 k2 k3 k5 newId)∧h.Ns N mN∧mN "__init__" = none∧OwnTail h bmB bm:=by
 unfold PySem.W.excIn at q
 split at q
 ·rename_i dd cd sl look
  split at q
  ·rename_i C2 bm k0 k1 k2 k3 n k5 hmro hsl
   simp only[Bool.and_eq_true,beq_iff_eq,Bool.not_eq_true'] at q
   obtain ⟨⟨⟨⟨⟨rfl,rfl⟩,hde⟩,htl⟩,hns⟩,hin⟩:=q
   obtain ⟨nm,bs,mro,ns,qn,hd,sn,sub,ab,col,del⟩:=cd
   dsimp only at hmro hde hns hin
   subst hmro hde
   have es:sl = #[k0,k1,k2,k3,some (.builtin n),k5]:=by
    obtain ⟨ls⟩:=sl
    have e1:ls=[k0,k1,k2,k3,some (.builtin n),k5]:=hsl
    rw[e1]
   subst es
   exact⟨bm,ns,nm,qn,bs,hd,sn,sub,ab,col,dd,k0,k1,k2,k3,k5,_,X _ _ look,.of_isNs (PySem.W.isNs_of_in X hns),PySem.W.nsMap_none_of_in X hns hin,PySem.W.tail_of_in X htl⟩
  ·cases q
 ·cases q
section
variable {X:Cx}
def yxo (C:Addr)(E:XK)(t:TA):TS:=fun D σ H=>t σ H fun vs H1=>vs.length≤sizeLine∧E (.ref C) none H1
def yxp (X:Cx)(E:XK):Prop:=∀(pins:List (Addr×Obj)) (σ:St) (H:Hp) (s:Shared) (h':Heap) (e:Addr) (cls:Value) (args:List Value),Inv X pins σ H s→Heap.MadeExcOf s.heap h' e cls args→E cls none H→X.xe (.ref e) { s with heap:=h' }
theorem yli {P:Program}{w:World}{K:PySem.W.Frag}{mg:Str→Option Value}{base:Heap}{N:List Str}{qual:Str}{scope:Scope}{f:Addr}{cd:Value}{A:Around}{outer:List Env}{s₀:Shared}{H₀:Hp}{E:XK} :
 yxp (yql (CXE P w) P w K mg base N qual scope f cd A outer s₀ H₀ E) E:=fun _ _ _ _ _ _ _ _ I hx hE=>ylh (CX:=CXE P w) I hx hE
theorem yf8 {x:Str}{C:Addr}{B newId initId:String}{bmB:List Value}{e₀:Expr}{rest:List Expr}{np cpos pos:Pos}{t:TA}{E:XK}(hg:Gl X x)(hm:X.mg x=some (.ref C))(hq:PySem.W.excIn X.K C bmB newId=true)
 (FB:ExcBaseFacts B newId initId bmB) (hcalm:X.calm=true) (hxe:yxp X E) (ha:PA X (e₀::rest) t) (hd:(x == ("__debug__" : Str))=false:=by decide)
 (he:starEach (e₀::rest) X.env=(false,eval e₀ X.env)::starEach rest X.env:=by rfl) (hpl:(backTo cpos (starEach rest X.env)).any (·.1)=false:=by rfl) :
 PS X (.Raise (some (.Call (.Name x np) (e₀::rest) [] cpos)) none pos) (yxo C E t):=by
 intro pins s σ H D I h
 obtain ⟨bm,N,nm,qn,bs,hdd,sn,sub,ab,col,dd,k0,k1,k2,k3,k5,mN,hC,hN,hni,T⟩:=yvy (bmB:=bmB) I.mod.kin hq
 refine wpAny_Raise_call_subT (C:=C) (N:=N) (bm:=bm) (nm:=nm) (q:=qn) (bs:=bs) (hdct:=hdd) (sn:=sn) (sub:=sub) (ab:=ab) (col:=col) (dd:=dd) (k0:=k0) (k1:=k1) (k2:=k2) (k3:=k3) (k5:=k5) FB (mN:=mN) (T.hasType FB.hasBase) (I.ok.hd hcalm)
  (by rw[he];show (false || (backTo cpos (starEach rest X.env)).any (·.1))=false;rw[hpl];rfl) hni (ym1 I hg hm ⟨rfl,?_⟩ hd)
 have h1:=ha cpos pins s σ H _ I h
 rw[he] at h1 ⊢
 refine Calls.evalArgs_plain (thn h1 fun us s1 ⟨vs,H1,I1,r1,q1⟩=>?_)
 exact⟨rfl,(by rw[← r1.length];exact q1.1),I1.bk _ _ hC,hN.keeps I1.bk,T.keeps I1.bk,fun h' e hx=>hxe pins σ H1 s1 h' e _ _ I1 hx q1.2⟩
theorem Inv.track {pins:List (Addr×Obj)}{σ:St}{H:Hp}{s:Shared}{a:Addr}{o:HO}(I:Inv X pins σ H s)(hs:X.s₀.heap.get? a=none)(hn:H a=none)(hL:a≠X.env.locals)(hc:∀x c,X.env.cells.lookup x=some c→c≠a)
 (hp:∀p∈X.pn++pins,p.1≠a) (new:ObjOk X.prog X.w (upd H a o) s.heap a o):Inv X pins σ (upd H a o) s:=by
 have ne:∀b ob,X.s₀.heap.get? b=some ob→b≠a:=fun b ob e z=>by rw[z,hs] at e;cases e
 have nt:∀b u,H b=some u→b≠a:=fun b u e z=>by rw[z,hn] at e;cases e
 refine⟨I.ok,I.os,I.bare,⟨I.base.keep,I.base.slot,fun b ob e n hx=>by rw[yal (ne b ob e)];exact I.base.free b ob e n hx,I.base.there,fun b xs e=>?_,fun b ob xs e=>?_,fun b ps e=>?_⟩,I.loc,I.cell,by rw[yal hL.symm];exact I.free,fun x c e=>by rw[yal (hc x c e)];exact I.freeC x c e,fun p hp'=>?_,fun b u e=>?_,I.len⟩
 ·have e1:=I.base.tups b xs e
  rw[yal (nt b _ e1)];exact e1
 ·have e1:=I.base.frzs b ob xs e
  rw[yal (nt b _ e1)];exact e1
 ·obtain ⟨more,e1⟩:=I.base.tbls b ps e
  exact⟨more,by rw[yal (nt b _ e1)];exact e1⟩
 ·obtain ⟨e,n,r⟩:=I.pin p hp'
  exact⟨e,by rw[yal (hp p hp')];exact n,r⟩
 ·by_cases z:b=a
  ·subst z
   rw[yaa] at e
   cases e
   exact new
  ·rw[yal z] at e
   exact(I.hok b u e).stay (fun _ _ _ q=>q) (fun c q=>by rw[yal (nt c _ q)];exact q) fun c xs q=>by rw[yal (nt c _ q)];exact q
end
def ygu (env:Env):List (Str×NameKind)→List (Str×Addr)→List (Str×Addr)
 |[],cs=>cs
 |(n,k)::r,cs=>ygu env r (if k == .free then (n,(env.cells.lookup n).getD 0)::cs else cs)
theorem yf9 {scope:Scope}{env:Env}(h:∀y∈scope.names,y.2 = .free→∃c,env.cells.lookup y.1=some c):closureFor scope env=pure (ygu env scope.names []):=by
 have all:∀(l:List (Str×NameKind)) (cs:List (Str×Addr)),(∀y∈l,y.2 = .free→∃c,env.cells.lookup y.1=some c)→
  (forIn l cs fun (x:Str×NameKind) r=>(if (x.2 == NameKind.free)=true then do let a ← cellOf env x.1;pure (ForInStep.yield ((x.1,a)::r)) else pure (ForInStep.yield r):Sem (ForInStep (List (Str×Addr)))))=pure (ygu env l cs):=by
  intro l
  induction l with
  |nil=>intro cs _;rfl
  |cons x r ih=>
   intro cs hl
   obtain ⟨n,k⟩:=x
   rw[List.forIn_cons]
   by_cases hk:(k == NameKind.free)=true
   ·obtain ⟨c,hc⟩:=hl (n,k) (.head _) (by simpa using hk)
    have e:cellOf env n=pure c:=by unfold cellOf;rw[show env.cells.lookup n=some c from hc]
    simp only[hk,if_true,e,pure_bind]
    rw[ih _ fun y hy=>hl y (.tail _ hy)]
    show _=pure (ygu env r (if k == .free then _ else _))
    rw[if_pos hk,show env.cells.lookup n=some c from hc]
    rfl
   ·simp only[hk,Bool.false_eq_true,if_false,pure_bind]
    rw[ih _ fun y hy=>hl y (.tail _ hy)]
    show _=pure (ygu env r (if k == .free then _ else _))
    rw[if_neg hk]
 unfold closureFor
 have:=all scope.names [] h
 simp only[bind_pure] at this ⊢
 exact this
theorem yj3 {env:Env}:∀(l:List (Str×NameKind)) (cs:List (Str×Addr)) {p:Str×Addr},p∈ygu env l cs→p∈cs∨((p.1,NameKind.free)∈l∧p.2=(env.cells.lookup p.1).getD 0)
 |[],cs,p,h=>.inl h
 |(n,k)::r,cs,p,h=>by
  unfold ygu at h
  rcases yj3 r _ h with z|⟨z1,z2⟩
  ·split at z
   ·rename_i hk
    have hk':k = .free:=by simpa using hk
    rcases List.mem_cons.mp z with rfl|z
    ·exact .inr ⟨by rw[hk'];exact .head _,rfl⟩
    ·exact .inl z
   ·exact .inl z
  ·exact .inr ⟨.tail _ z1,z2⟩
theorem yja {env:Env}:∀(l:List (Str×NameKind)) (cs:List (Str×Addr)) {p:Str×Addr},p∈cs→p∈ygu env l cs
 |[],cs,p,h=>h
 |(n,k)::r,cs,p,h=>by
  unfold ygu
  refine yja r _ ?_
  split
  ·exact .tail _ h
  ·exact h
theorem yga {env:Env}:∀(l:List (Str×NameKind)) (cs:List (Str×Addr)) {x:Str},(x,NameKind.free)∈l→(x,(env.cells.lookup x).getD 0)∈ygu env l cs
 |(n,k)::r,cs,x,h=>by
  unfold ygu
  rcases List.mem_cons.mp h with e|h
  ·cases e
   refine yja r _ ?_
   rw[if_pos (by decide)]
   exact .head _
  ·exact yga r _ h
theorem yc1 {α:Type}:∀{l:List (Str×α)}{x:Str}{v:α},(x,v)∈l→∃u,l.lookup x=some u
 |(n,k)::r,x,v,h=>by
  by_cases e:x=n
  ·exact⟨k,by rw[List.lookup_cons,e];simp⟩
  ·rcases List.mem_cons.mp h with z|z
   ·cases z;exact absurd rfl e
   ·obtain ⟨u,hu⟩:=yc1 z
    exact⟨u,by rw[List.lookup_cons];rw[show (x == n)=false from by simpa using e];exact hu⟩
def yay (X:Cx)(N':List Str)(scope:Scope)(C:Addr)(s:Shared)(H:Hp)(fp:List Addr):Cx where
 prog:=X.prog
 w:=X.w
 K:=X.K
 mg:=X.mg
 base:=X.base
 A:=X.A
 N:=N'
 s₀:=s
 H₀:=H
 env:=compEnvC scope (ygu X.env scope.names []) C X.env
 outer:=X.stack
 stack:=X.stack
 ex:=fp
 fn:=fun _=>false
 calm:=true
 pn:=[]
 xe:=fun _ _=>False
structure CompScope (X:Cx) (N':List Str) (ix:List (Option Nat)) (scope:Scope):Prop where
 kind:scope.kind = .function
 nocell:∀y∈scope.names,y.2≠.cell
 loc:∀y∈scope.names,y.2 = .local→scope.names.lookup y.1=some .local
 nd:N'.Nodup
 len:ix.length=N'.length
 free:∀y∈scope.names,y.2 = .free→X.env.kindOf y.1=some .cell
 out:∀(k j:Nat) (x:Str),N'[k]? = some x→ix[k]? = some (some j)→X.N[j]? = some x∧(x,NameKind.free)∈scope.names∧(relabel scope X.env).names.lookup x=some .cell
def ybq (ix:List (Option Nat))(σ:St):St:=ix.map fun o=>o.bind fun j=>(σ[j]?).join
theorem yha {scope:Scope}{env:Env}{x:Str}{k:NameKind}(hc:∀y∈scope.names,y.2≠.cell)(h:(relabel scope env).names.lookup x=some k)(hk:k = .cell∨k = .free):(x,NameKind.free)∈scope.names:=by
 have m:=PySem.mem_of_lookup h
 unfold relabel at m
 obtain ⟨⟨n,k0⟩,h1,h2⟩:=List.mem_map.mp m
 dsimp only at h2
 split at h2
 ·rename_i q
  cases h2
  have:k0 = .free:=by
   simp only[Bool.and_eq_true,beq_iff_eq] at q
   exact q.1.1
  rw[this] at h1
  exact h1
 ·cases h2
  rcases hk with rfl|rfl
  ·exact absurd rfl (hc _ h1)
  ·exact h1
section
variable {X:Cx}{N':List Str}{ix:List (Option Nat)}{scope:Scope}
theorem yfm {pins:List (Addr×Obj)}{σ:St}{H:Hp}{s:Shared}(I:Inv X pins σ H s)(S:CompScope X N' ix scope){x:Str}{c:Addr}(h:(ygu X.env scope.names []).lookup x=some c):X.env.cells.lookup x=some c:=by
 rcases yj3 _ _ (PySem.mem_of_lookup h) with z|⟨z1,z2⟩
 ·cases z
 ·obtain ⟨c',hc⟩:=I.ok.has x (.inl (S.free _ z1 rfl))
  dsimp only at z2
  rw[hc] at z2
  rw[hc,z2]
  rfl
theorem yhl {pins:List (Addr×Obj)}{σ:St}{H:Hp}{s:Shared}{h':Heap}{tk:Nat}{fp:List Addr}(I:Inv X pins σ H s)(hcalm:X.calm=true)(S:CompScope X N' ix scope)(hf:∀b∈fp,yfy X pins H b)(hlt:∀b∈fp,b<s.heap.objs.size)
 (hns:h'.Ns s.heap.objs.size (fun _=>none)) (hk:∀b o,s.heap.get? b=some o→h'.get? b=some o):Inv (yay X N' scope s.heap.objs.size s H fp) [] (ybq ix σ) H { s with heap:=h',toks:=tk }:=by
 have noL:H s.heap.objs.size=none:=I.hok.fresh (Nat.le_refl _)
 refine⟨⟨I.ok.mod,S.kind,I.ok.glob,I.ok.blt,Nat.le_refl _,fun x y c h1 h2=>I.ok.inj x y c (yfm I S h1) (yfm I S h2),fun x hx=>?_,(fun x c z=>nomatch z),fun _=>I.ok.hd hcalm,I.ok.frames,.inl rfl,fun b hb=>⟨Nat.ne_of_lt (hlt b hb),fun x c h=>?_⟩,I.bs,Nat.le_trans I.ok.bsz I.sz,fun b o q hb=>?_,fun b hb=>?_,I.stack,I.stkFree⟩,
  rfl,I.bare,Un.kept hk,⟨_,hns,fun k x v h1 h2 h3=>?_⟩,fun x c h=>?_,noL,fun x c h=>I.freeC x c (yfm I S h),(fun p hp=>absurd (show p∈([]:List (Addr×Obj)) from hp) (by simp)),I.hok.kept hk,?_⟩
 ·have hx':(relabel scope X.env).names.lookup x=some .cell∨(relabel scope X.env).names.lookup x=some .free:=hx
  have m:(x,NameKind.free)∈scope.names:=by
   rcases hx' with z|z
   ·exact yha S.nocell z (.inl rfl)
   ·exact yha S.nocell z (.inr rfl)
  exact yc1 (yga (env:=X.env) scope.names [] m)
 ·exact(hf b hb).2.2.2.2.1 x c (yfm I S h)
 ·rcases (hf b hb).2.2.2.1 with z|z
  ·exact I.ok.noex b o q z
  ·exact absurd (Nat.lt_of_lt_of_le (Heap.lt_size (I.ok.bs b o q).1) z) (Nat.lt_irrefl _)
 ·intro z
  rcases List.mem_cons.mp (I.stkSub b z) with e|e
  ·exact(hf b hb).2.1 e
  ·exact(hf b hb).2.2.1 e
 ·have e2:(ybq ix σ)[k]? = some (some v):=h2
  unfold ybq at e2
  rw[List.getElem?_map] at e2
  cases e3:ix[k]? with
  |none=>rw[e3] at e2;cases e2
  |some o=>
   rw[e3] at e2
   cases o with
   |none=>cases e2
   |some j=>
    obtain ⟨n1,n2,n3⟩:=S.out k j x h1 e3
    have e4:σ[j]? = some (some v):=by
     have:(σ[j]?).join=some v:=Option.some.inj e2
     cases e5:σ[j]? with
     |none=>rw[e5] at this;cases this
     |some w=>rw[e5] at this;exact congrArg some this
    have kc:=S.free _ n2 rfl
    obtain ⟨m,hn,hl⟩:=I.loc
    obtain ⟨u,r,l⟩:=hl j x v n1 e4 (.inr (.inl kc))
    refine⟨u,r,?_⟩
    rcases l with ⟨z,_⟩ | ⟨_,c,hc,hcell⟩
    ·dsimp only at kc
     rw[kc] at z;cases z
    ·obtain ⟨c',hc'⟩:=yc1 (yga (env:=X.env) scope.names [] n2)
     have ec:=yfm I S hc'
     rw[hc] at ec
     cases ec
     exact .inr ⟨.inl n3,c,hc',hcell.keeps hk⟩
 ·obtain ⟨v,q⟩:=I.cell x c (yfm I S h)
  exact⟨v,q.keeps hk⟩
 ·unfold ybq
  rw[List.length_map]
  exact S.len
end
def ymu (X:Cx)(ifs:List Expr)(t:TT):Prop:=
 ∀(pins:List (Addr×Obj)) (s:Shared) (σ:St) (H:Hp) (Q:Bool→Hp→Prop),Inv X pins σ H s→t σ H Q→
  wpAny (model X.prog X.w) X.A (forIn ifs true fun c r=>if r=true then do let ok ← isTrue c X.env (eval c X.env);pure (ForInStep.yield ok) else pure (ForInStep.yield r)) (TP X pins σ Q) X.xe s
def ylj:TT:=fun _ H Q=>Q true H
theorem ycn {X:Cx}:ymu X [] ylj:=fun pins s σ H Q I h=>zwp0 ⟨H,I,h⟩
theorem yd2 {X:Cx}{c:Expr}{t:TT}(h:PT X c t):ymu X [c] t:=fun pins s σ H Q I q=>wpAny_tests_one (h pins s σ H Q I q)
def yvz (ix:List (Option Nat))(wi:TI)(g:TG)(ti:TT)(te:TE):TE:=fun σ H Q=>wi σ H fun J H1=>∀D,H1 D=none→∃W:Nat→Nat→Hp→Prop,(∃m,W 0 m (upd H1 D (.lst [])))∧∀i m H,W i m H→
 (J.stop i H∧Q (.ref D) H)∨(J.go i H∧∀x H',J.yld i H x H'→g x (ybq ix σ) H' fun σ2 H2=>(∀(k:Nat) v,(ybq ix σ)[k]? = some (some v)→σ2[k]? = some (some v))∧ti σ2 H2 fun b H3=>
  if b=true then te σ2 H3 fun y H4=>∃zs,H4 D=some (.lst zs)∧zs.length<sizeLine∧∃m',m' < m∧W (i+1) m' (upd H4 D (.lst (zs++[y]))) else ∃m',m' < m∧W (i+1) m' H3)
section
variable {X:Cx}{N':List Str}{ix:List (Option Nat)}{scope:Scope}{elt tg iter:Expr}{ifs:List Expr}{pos:Pos}{wi:TI}{g:TG}{ti:TT}{te:TE}
def yj4 (X:Cx)(pins:List (Addr×Obj))(σ:St)(Q:VK)(acc:Value)(C:Addr)(r:Result)(s':Shared):Prop:=
 ∃D H',acc = .ref D∧(∃f,r = .ok f)∧Inv X pins σ H' s'∧yfy X pins H' C∧(∃m,s'.heap.Ns C m)∧Q (.ref D) H'
theorem yrd {X':Cx}{σ₀:St}{H:Hp}{s:Shared}{Q:VK}{it D:Addr}{fp:List Addr}{tn:Nat→Heap→Prop}{J:It}{W:Nat→Nat→Hp→Prop}{m0:Nat}(I:Inv X' [] σ₀ H s)(hcalm:X'.calm=true)(hxe:X'.xe=fun _ _=>False)
 (T:Turn X'.prog X'.w X'.K tg J fp it tn) (st:tn 0 s.heap) (hf:∀b∈fp,yfy X' [] H b) (hg:PG X' tg g) (hi:ymu X' ifs ti) (he:PE X' elt te) (w0:W 0 m0 H)
 (turn:∀i m H,W i m H→(J.stop i H∧Q (.ref D) H)∨(J.go i H∧∀x H',J.yld i H x H'→g x σ₀ H' fun σ2 H2=>(∀(k:Nat) v,σ₀[k]? = some (some v)→σ2[k]? = some (some v))∧ti σ2 H2 fun b H3=>
  if b=true then te σ2 H3 fun y H4=>∃zs,H4 D=some (.lst zs)∧zs.length<sizeLine∧∃m',m' < m∧W (i+1) m' (upd H4 D (.lst (zs++[y]))) else ∃m',m' < m∧W (i+1) m' H3)) :
 codeAny (model X'.prog X'.w) X'.A (.compStart (.ListComp elt [⟨tg,iter,ifs,0⟩] scope pos) 0 (.ref it) (.ref D) X'.env) (fun r s'=>(∃f,r = .ok f)∧∃H',Inv X' [] σ₀ H' s'∧Q (.ref D) H') s:=by
 have stat:∀{H':Hp},(∀b∈fp,H' b=none)→∀b∈fp,yfy X' [] H' b:=fun hn b hb=>⟨hn b hb,(hf b hb).2⟩
 have loop:codeAny (model X'.prog X'.w) X'.A (.compLoop (.ListComp elt [⟨tg,iter,ifs,0⟩] scope pos) 0 (.ref it) (.ref D) X'.env) (fun r s'=>(∃f,r = .ok f)∧∃H',Inv X' [] σ₀ H' s'∧Q (.ref D) H') s:=by
  refine codeAny_loop rfl (fun n s'=>∃i H',Inv X' [] σ₀ H' s'∧tn i s'.heap∧(∀b∈fp,H' b=none)∧W i n H') ?_ m0 ⟨0,H,I,st,fun b hb=>(hf b hb).1,w0⟩
  rintro n s1 ⟨i,H1,I1,st1,fr1,w1⟩
  show wpAny _ X'.A ((compTurn (.ListComp elt [⟨tg,iter,ifs,0⟩] scope pos) 0 (.ref it) (.ref D) X'.env).onRaise (fun x=>do noteFrame x X'.env;theTreesLotGoes x)) _ _ s1
  refine wpAny_noted ?_
  have noE:∀{α:Type}{t:Sem α}{P:α→Shared→Prop}{F:Value→Shared→Prop}{s:Shared},wpAny (model X'.prog X'.w) X'.A t P X'.xe s→wpAny (model X'.prog X'.w) X'.A t P F s:=fun h=>wpAny_mono h (fun _ _ x=>x) fun e s' x=>by rw[hxe] at x;exact x.elim
  rw[compTurn_list]
  refine zwb0 (wpAny_standAt (zwb0 ?_))
  rcases turn i n H1 w1 with ⟨stop,qn⟩ | ⟨go,step⟩
  ·refine thn (T.done X' rfl rfl rfl hcalm i [] s1 σ₀ H1 _ I1 (stat fr1) st1 stop) fun r s2 ⟨hr,I2⟩=>?_
   subst hr
   exact zwp0 ⟨⟨_,rfl⟩,H1,I2,qn⟩
  ·refine thn (T.item X' rfl rfl rfl hcalm i [] s1 σ₀ H1 _ I1 (stat fr1) st1 go) fun r s2 ⟨u,hr,h2⟩=>?_
   subst hr
   refine zwb0 (thn h2 fun _ s3 ⟨x,H3,I3,r3,y3,st3,fr3⟩=>?_)
   have I3':=I3.pinned (stat fr3) (T.obj _ _ st3)
   refine zwb0 (noE (thn (hg _ s3 σ₀ H3 x u _ I3' r3 (step x H3 y3)) fun _ s4 ⟨σ4,H4,I4,hk4,q4⟩=>?_))
   refine zwb0 (noE (thn (hi _ s4 σ4 H4 _ I4 q4) fun ok s5 ⟨H5,I5,q5⟩=>?_))
   have again':∀{s7:Shared}{H7:Hp}{m':Nat},Inv X' ([]++yf7 fp s3.heap) σ4 H7 s7→m' < n→W (i+1) m' H7→∃m,m<n∧∃i H',Inv X' [] σ₀ H' s7∧tn i s7.heap∧(∀b∈fp,H' b=none)∧W i m H':=fun {s7 H7 m'} I7 hm w7=>by
    refine⟨m',hm,i+1,H7,I7.unpinned.weak (by rw[I3.len,I7.len]) hk4,T.keep _ _ _ st3 fun b hb o e=>(I7.pin (b,o) (List.mem_append_right _ (List.mem_append_right _ (ybk hb e)))).1,fun b hb=>?_,w7⟩
    obtain ⟨o,e,d⟩:=T.obj _ _ st3 b hb
    exact(I7.pin (b,o) (List.mem_append_right _ (List.mem_append_right _ (ybk hb e)))).2.1
   cases ok with
   |false=>
    obtain ⟨m',hm,w7⟩:=q5
    exact zwp0 ⟨rfl,again' I5 hm w7⟩
   |true=>
    refine zwb0 (zwb0 (noE (thn (he _ s5 σ4 H5 _ I5 q5) fun y s6 ⟨yv,H6,I6,r6,zs,hD,hz,m',hm,w7⟩=>?_)))
    refine zwb0 (noE (thn (yc0 (X:=X') _ s6 σ4 H6 (.ref D) [yv] (.ref D) [y] (fun v H7=>H7=upd H6 D (.lst (zs++[yv]))) I6 rfl (.cons r6 .nil) ⟨D,zs,yv,rfl,rfl,hD,hz,rfl⟩) fun v s7 ⟨vv,H7,I7,_,e7⟩=>?_))
    subst e7
    exact zwp0 (zwp0 ⟨rfl,again' I7 hm w7⟩)
 refine codeAny_compStart_list loop (T.self _ 0 s _ _ st loop)
theorem yjb {pins:List (Addr×Obj)}{σ:St}{H:Hp}{s:Shared}{Q:VK}{it:Addr}{fp:List Addr}{tn:Nat→Heap→Prop}{J:It}{E:Value→Shared→Prop}(I:Inv X pins σ H s)(hcalm:X.calm=true)(S:CompScope X N' ix scope)
 (T:Turn X.prog X.w X.K tg J fp it tn) (st:tn 0 s.heap) (hf:∀b∈fp,yfy X pins H b)
 (hg:∀C s H fp,PG (yay X N' scope C s H fp) tg g) (hi:∀C s H fp,ymu (yay X N' scope C s H fp) ifs ti) (he:∀C s H fp,PE (yay X N' scope C s H fp) elt te)
 (h:∀D,H D=none→∃W:Nat→Nat→Hp→Prop,(∃m,W 0 m (upd H D (.lst [])))∧∀i m H,W i m H→
  (J.stop i H∧Q (.ref D) H)∨(J.go i H∧∀x H',J.yld i H x H'→g x (ybq ix σ) H' fun σ2 H2=>(∀(k:Nat) v,(ybq ix σ)[k]? = some (some v)→σ2[k]? = some (some v))∧ti σ2 H2 fun b H3=>
   if b=true then te σ2 H3 fun y H4=>∃zs,H4 D=some (.lst zs)∧zs.length<sizeLine∧∃m',m' < m∧W (i+1) m' (upd H4 D (.lst (zs++[y]))) else ∃m',m' < m∧W (i+1) m' H3)) :
 wpAny (model X.prog X.w) X.A (newList []) (fun acc s3=>wpAny (model X.prog X.w) X.A (newFunctionEnv scope X.env.globals (ygu X.env scope.names []) [] X.env.qual none .none (some X.env)) (fun cenv s4=>
  codeAny (model X.prog X.w) X.A (.compStart (.ListComp elt [⟨tg,iter,ifs,0⟩] scope pos) 0 (.ref it) acc { cenv with scope:=relabel scope X.env }) (yj4 X pins σ Q acc cenv.locals) s4) E s3) E s:=by
 refine wpAny_newList ?_
 have fresh0:H s.heap.objs.size=none:=I.hok.fresh (Nat.le_refl _)
 have I3:Inv X pins σ (upd H s.heap.objs.size (.lst [])) { s with heap:=s.heap.push { cls:=.type "list",data:=.seq ([]:List Value).toArray } } :=
  I.laid (t':=s.toks) (fun b u e=>Heap.get?_push_of_some _ e) (Nat.le_refl _) ⟨by show 0≤sizeLine;exact Nat.zero_le _,[],0,.nil,Heap.get?_push_size _ rfl⟩
 obtain ⟨W,⟨m0,w0⟩,turn⟩:=h s.heap.objs.size fresh0
 generalize hD:s.heap.objs.size=D at *
 have lt0:∀b∈fp,b<s.heap.objs.size:=fun b hb=>by obtain ⟨o,e,_⟩:=T.obj 0 _ st b hb;exact Heap.lt_size e
 have hf3:∀b∈fp,yfy X pins (upd H D (.lst [])) b:=fun b hb=>by
  have nb:b≠D:=by rw[← hD];exact Nat.ne_of_lt (lt0 b hb)
  obtain ⟨f0,fr⟩:=hf b hb
  exact⟨by rw[yal nb];exact f0,fr⟩
 have st3:tn 0 (s.heap.push { cls:=.type "list",data:=.seq ([]:List Value).toArray }):=T.keep _ _ _ st fun b hb o e=>Heap.get?_push_of_some _ e
 revert I3 st3
 generalize (s.heap.push { cls:=.type "list",data:=.seq ([]:List Value).toArray })=h3
 intro I3 st3
 have lt3:∀b∈fp,b<h3.objs.size:=fun b hb=>by obtain ⟨o,e,_⟩:=T.obj 0 _ st3 b hb;exact Heap.lt_size e
 refine wpAny_newFunctionEnv S.nocell (fun x hx=>nomatch hx) (fun h4 hns hsb=>?_) S.kind
 have k4:∀b o,h3.get? b=some o→h4.get? b=some o:=fun b o e=>(hsb.2 b (Nat.ne_of_lt (Heap.lt_size e))).trans (Heap.get?_push_of_some _ e)
 have J4:Inv (yay X N' scope h3.objs.size { s with heap:=h3 } (upd H D (.lst [])) fp) [] (ybq ix σ) (upd H D (.lst [])) { s with heap:=h4,toks:=s.toks+([]:List (Str×Value)).length }:=
  yhl (s:={ s with heap:=h3 }) (tk:=s.toks+([]:List (Str×Value)).length) I3 hcalm S hf3 lt3 hns k4
 have st4:tn 0 ({ s with heap:=h4,toks:=s.toks+([]:List (Str×Value)).length }:Shared).heap:=T.keep _ _ _ st3 fun b hb o e=>k4 b o e
 have fr4:∀b∈fp,upd H D (.lst []) b=none:=fun b hb=>(hf3 b hb).1
 revert J4 st4
 generalize ({ s with heap:=h4,toks:=s.toks+([]:List (Str×Value)).length }:Shared)=s4
 intro J4 st4
 have hf4:∀b∈fp,yfy (yay X N' scope h3.objs.size { s with heap:=h3 } (upd H D (.lst [])) fp) [] (upd H D (.lst [])) b:=fun b hb=>
  ⟨fr4 b hb,Nat.ne_of_lt (lt3 b hb),J4.ok.exfs b hb,.inl hb,fun x c e=>(J4.ok.exf b hb).2 x c e,fun p hp=>nomatch hp⟩
 refine codeAny_mono (yrd (X':=yay X N' scope h3.objs.size { s with heap:=h3 } (upd H D (.lst [])) fp) (Q:=Q) (D:=D) J4 rfl rfl T st4 hf4 (hg _ _ _ _) (hi _ _ _ _) (he _ _ _ _) w0 turn) fun r s' ⟨hr,H',J',q'⟩=>?_
 refine⟨D,H',rfl,hr,I3.call' J'.os J'.base J'.hok J'.bare fun b hb=>?_,?_,?_,q'⟩
 ·obtain ⟨_,f1,_,f3,f4,f5⟩:=hf3 b hb
  exact⟨f3,f1,f4,f5⟩
 ·exact I3.fpOk (H':=H') (Nat.le_refl _) J'.free
 ·obtain ⟨m,hn,_⟩:=J'.loc
  exact⟨m,hn⟩
end
section
variable {X:Cx}{N':List Str}{ix:List (Option Nat)}{scope:Scope}{elt tg iter:Expr}{ifs:List Expr}{pos:Pos}{wi:TI}{g:TG}{ti:TT}{te:TE}
theorem yds {pins:List (Addr×Obj)}{σ:St}{H:Hp}{s:Shared}(I:Inv X pins σ H s)(S:CompScope X N' ix scope):closureFor scope X.env=pure (ygu X.env scope.names []):=
 yf9 fun y hy e=>I.ok.has y.1 (.inl (S.free y hy e))
theorem yc2 (hcalm:X.calm=true)(S:CompScope X N' ix scope)(hit:PI X tg iter wi)
 (hg:∀C s H fp,PG (yay X N' scope C s H fp) tg g) (hi:∀C s H fp,ymu (yay X N' scope C s H fp) ifs ti) (he:∀C s H fp,PE (yay X N' scope C s H fp) elt te)
 (hs:∀x,foldedSetIterable iter X.env x=pure x:=by intro _;rfl):PE X (.ListComp elt [⟨tg,iter,ifs,0⟩] scope pos) (yvz ix wi g ti te):=by
 intro pins s σ H Q I h
 rw[eval_ListComp]
 refine wpAny_comprehension_free (use:=none) rfl hs (yds I S) S.kind S.loc (thn (hit pins s σ H _ I h) fun v s1 h1=>thn h1 fun itv s2 h2=>?_)
 obtain ⟨it,fp,tn,J,H2,rfl,I2,T,st2,f2,q2⟩:=h2
 refine thn (yjb (E:=X.xe) (elt:=elt) (iter:=iter) (pos:=pos) I2 hcalm S T st2 f2 hg hi he q2) fun acc s3 h3=>thn h3 fun cenv s4 h4=>codeAny_mono h4 fun r s' hr=>?_
 obtain ⟨D,H',rfl,⟨f,rfl⟩,I',⟨g0,g1,_,g3,g4,g5⟩,⟨m,hm⟩,q'⟩:=hr
 exact⟨m,hm,fun h' hsb=>⟨.ref D,H',I'.turned (t':=s'.toks) (fun b o hb e=>(hsb.2 b hb).trans e) g0 g1 g3 g4 g5,rfl,q'⟩⟩
theorem ygv {i:Nat}{y:Str}{py spos:Pos}(hN:X.N.Nodup)(hy:X.N[i]? = some y)(hly:Loc X.env.scope y)(hcalm:X.calm=true)(S:CompScope X N' ix scope)(hit:PI X tg iter wi)
 (hg:∀C s H fp,PG (yay X N' scope C s H fp) tg g) (hi:∀C s H fp,ymu (yay X N' scope C s H fp) ifs ti) (he:∀C s H fp,PE (yay X N' scope C s H fp) elt te)
 (hsw:swapsWith (.ListComp elt [⟨tg,iter,ifs,0⟩] scope pos) (some (.Name y py)) spos.line X.env=pure true:=by rfl) (hs:∀x,foldedSetIterable iter X.env x=pure x:=by intro _;rfl)
 (hf:X.fn y=true∨X.env.scope.names.lookup y=some .local:=by first|exact .inl rfl|exact .inr rfl|assumption) :
 PS X (.Assign [.Name y py] (.ListComp elt [⟨tg,iter,ifs,0⟩] scope pos) spos) (yy1 (yvz ix wi g ti te) (ybi i)):=by
 intro pins s σ H D I h
 rw[exec_Assign_Name_used _ _ _ _ hsw]
 refine zwb0 (wpAny_standAt (zwb0 ?_))
 show wpAny _ X.A (do let _ ← comprehension (.ListComp elt [⟨tg,iter,ifs,0⟩] scope pos) scope X.env _ (newList []) false (eval iter X.env) (some (assign (.Name y py) X.env))) _ _ s
 refine zwb0 (thn (wpAny_comprehension_free (use:=some (assign (.Name y py) X.env)) (Q:=fun _ s'=>SP X pins D .next s') rfl hs (yds I S) S.kind S.loc (thn (hit pins s σ H _ I h) fun v s1 h1=>thn h1 fun itv s2 h2=>?_)) fun _ s' hq=>zwp0 (zwp0 hq))
 obtain ⟨it,fp,tn,J,H2,rfl,I2,T,st2,f2,q2⟩:=h2
 refine thn (yjb (E:=X.xe) (Q:=fun x H1=>ybi i x σ H1 D.nx) (elt:=elt) (iter:=iter) (pos:=pos) I2 hcalm S T st2 f2 hg hi he q2) fun acc s3 h3=>thn h3 fun cenv s4 h4=>codeAny_mono h4 fun r s' hr=>?_
 obtain ⟨A,H',rfl,⟨f,rfl⟩,I',⟨g0,g1,g2,g3,g4,g5⟩,⟨m,hm⟩,q'⟩:=hr
 show wpAny _ X.A (assign (.Name y py) X.env (.ref A)) _ _ _
 refine wpAny_assign_Name (yk2 I' hN hy hly (v:=.ref A) rfl (fun s5 I5 ⟨a,hsb,ha⟩=>?_) hf)
 have na:cenv.locals≠a:=by
  rcases ha with z|z
  ·rw[z];exact g1
  ·exact(g4 y a z).symm
 exact⟨m,hm.sameBut hsb na,fun h' hsb'=>⟨_,H',I5.turned (t':=s5.toks) (fun b o hb e=>(hsb'.2 b hb).trans e) g0 g1 g3 g4 g5,q'⟩⟩
end
end L2
namespace L2
open PySem PySem.Spec PyProof.Rows PySem.Builtin.SmallTypes
def SqI (h:Heap)(b:Bool)(it a:Addr)(k:Nat):Prop:=match b with
 |true=>h.IsListIter it a k
 |false=>h.IsTupleIter it a k
def SqH (h:Heap)(b:Bool)(a:Addr)(its:Array Value):Prop:=match b with
 |true=>h.IsList a its
 |false=>h.IsTuple a its
theorem SqI.ext {h h':Heap}{b:Bool}{it a c:Addr}{k:Nat}(x:SqI h b it a k)(e:Heap.ExtBut c h h')(n:it≠c):SqI h' b it a k:=by
 cases b with
 |true=>exact Heap.IsListIter.at (h:=h) x fun o q=>e it o n q
 |false=>exact Heap.IsTupleIter.at (h:=h) x fun o q=>e it o n q
theorem SqI.keep {h h':Heap}{b:Bool}{it a:Addr}{k:Nat}(x:SqI h b it a k)(e:∀o,h.get? it=some o→h'.get? it=some o):SqI h' b it a k:=by
 cases b with
 |true=>exact Heap.IsListIter.at (h:=h) x e
 |false=>exact Heap.IsTupleIter.at (h:=h) x e
theorem SqH.ext {h h':Heap}{b:Bool}{a c:Addr}{its:Array Value}(x:SqH h b a its)(e:Heap.ExtBut c h h')(n:a≠c):SqH h' b a its:=by
 cases b with
 |true=>exact Heap.IsList.at (h:=h) x fun o q=>e a o n q
 |false=>
  obtain ⟨o,h1,h2⟩:=(show h.IsTuple a its from x)
  exact(show h'.IsTuple a its from ⟨o,e a o n h1,h2⟩)
theorem SqI.obj {h:Heap}{b:Bool}{it a:Addr}{k:Nat}(x:SqI h b it a k):∃o,h.get? it=some o∧∃vs,o.data = .fields vs:=by
 cases b with
 |true=>obtain ⟨o,h1,_,h3⟩:=(show h.IsListIter it a k from x);exact⟨o,h1,_,h3⟩
 |false=>obtain ⟨o,h1,_,h3⟩:=(show h.IsTupleIter it a k from x);exact⟨o,h1,_,h3⟩
section
variable {prog:Program}{w:World}{A:Around}{E:Value→Shared→Prop}{s:Shared}
theorem ypp {it t:Addr}{i:Nat}{its:Array Value}{x:Value}{Q:Value→Shared→Prop}(hi:s.heap.IsTupleIter it t i)(ht:s.heap.IsTuple t its)(hx:its[i]? = some x)
 (hq:∀h',h'.IsTupleIter it t (i+1)→Heap.SameBut it s.heap h'→Q x { s with heap:=h' }):wpAny (model prog w) A (nextOf (.ref it)) Q E s:=by
 obtain ⟨oi,e1,ec,ed⟩:=id hi
 obtain ⟨ot,e2,_,nt,et⟩:=ht
 (unfold nextOf;refine zwb0 (wpAny_callSpecial?_slot (name:=Str.ofString "__next__") hi.typeIs F.slot_tuple_iterator_next (wpAny_call_entry F.slot_tuple_iterator_next hi.typeIs F.entry_tuple_iterator_next ?_ (F.args_tuple_iterator_next_1 _))))
 (show wpAny _ _ (field (.ref it) 0 >>= _) _ _ s;refine zwb0 (wpAny_field e1 ed (x:=.ref t) rfl ?_))
 (show wpAny _ _ (if (Value.ref t == Value.none)=true then _ else _) _ _ s;rw[if_neg (show ¬ ((Value.ref t == Value.none)=true) from Bool.false_ne_true)])
 (show wpAny _ _ (field (.ref it) 1 >>= _) _ _ s;refine zwb0 (wpAny_field e1 ed (x:=.int i 0) rfl ?_))
 (show wpAny _ _ (seqItems? (.ref t) >>= _) _ _ s;refine zwb0 (wpAny_seqItems e2 et ?_))
 simp only[Int.toNat_natCast,hx]
 refine zwb0 (wpAny_setField e1 ed (by simp) (zwp0 ⟨x,rfl,zwp0 (hq _ ?_ (Heap.SameBut.update ..))⟩))
 exact⟨_,Heap.get?_update_self _ e1 (Obj.isFreed_of_fields (Obj.data_mapFields ed _)),(Obj.cls_mapFields ..).trans ec,by rw[Obj.data_mapFields ed];simp [rawInt]⟩
theorem yre {it t:Addr}{i:Nat}{its:Array Value}{Q:Value→Shared→Prop}(hh:A.handled=none)(hi:s.heap.IsTupleIter it t i)(ht:s.heap.IsTuple t its)(hx:its[i]? = none)
 (hE:∀h' e,Heap.ExtBut it s.heap h'→(∃o,h'.get? e=some o∧o.cls = .type "StopIteration")→E (.ref e) { s with heap:=h' }):wpAny (model prog w) A (nextOf (.ref it)) Q E s:=by
 obtain ⟨oi,e1,ec,ed⟩:=id hi
 obtain ⟨ot,e2,_,nt,et⟩:=ht
 (unfold nextOf;refine zwb0 (wpAny_callSpecial?_slot (name:=Str.ofString "__next__") hi.typeIs F.slot_tuple_iterator_next (wpAny_call_entry F.slot_tuple_iterator_next hi.typeIs F.entry_tuple_iterator_next ?_ (F.args_tuple_iterator_next_1 _))))
 (show wpAny _ _ (field (.ref it) 0 >>= _) _ _ s;refine zwb0 (wpAny_field e1 ed (x:=.ref t) rfl ?_))
 (show wpAny _ _ (if (Value.ref t == Value.none)=true then _ else _) _ _ s;rw[if_neg (show ¬ ((Value.ref t == Value.none)=true) from Bool.false_ne_true)])
 (show wpAny _ _ (field (.ref it) 1 >>= _) _ _ s;refine zwb0 (wpAny_field e1 ed (x:=.int i 0) rfl ?_))
 (show wpAny _ _ (seqItems? (.ref t) >>= _) _ _ s;refine zwb0 (wpAny_seqItems e2 et ?_))
 simp only[Int.toNat_natCast,hx]
 refine zwb0 (wpAny_rule (zwb0 (wpAny_setField e1 ed (by simp) ?_)))
 (show wpAny _ _ (newExc (.type "StopIteration") [] >>= _) _ _ _;refine zwb0 ?_)
 (simp only[newExc,newTuple];refine zwb0 (wpAny_newObj_type ?_ (by size_fits)))
 refine zwb0 (m:=firstArgMember _ _) (wpAny_of_eq (a:=Value.none) (by rfl) ?_)
 refine wpAny_newObj_type ?_ (by size_fits)
 (simp only[raiseNew];refine zwb0 (wpAny_handled ?_))
 rw[show A.in1.handled=none from hh]
 refine zwb0 (zwp0 (wpAny_throw ?_))
 exact hE _ _ (((Heap.SameBut.update ..).extBut.push _).push _) ⟨_,Heap.get?_push_size _ rfl,rfl⟩
theorem ym4 {b:Bool}{it a:Addr}{i:Nat}{its:Array Value}{x:Value}{Q:Value→Shared→Prop}(hi:SqI s.heap b it a i)(ha:SqH s.heap b a its)(hx:its[i]? = some x)
 (hq:∀h',SqI h' b it a (i+1)→Heap.SameBut it s.heap h'→Q x { s with heap:=h' }):wpAny (model prog w) A (nextOf (.ref it)) Q E s:=by
 cases b with
 |true=>exact wpAny_nextOf_list_item hi ha hx hq
 |false=>exact ypp hi ha hx hq
theorem yu9 {b:Bool}{it a:Addr}{i:Nat}{its:Array Value}{Q:Value→Shared→Prop}(hh:A.handled=none)(hi:SqI s.heap b it a i)(ha:SqH s.heap b a its)(hx:its[i]? = none)
 (hE:∀h' e,Heap.ExtBut it s.heap h'→(∃o,h'.get? e=some o∧o.cls = .type "StopIteration")→E (.ref e) { s with heap:=h' }):wpAny (model prog w) A (nextOf (.ref it)) Q E s:=by
 cases b with
 |true=>exact wpAny_nextOf_list_end hh hi ha hx hE
 |false=>exact yre hh hi ha hx hE
variable {z TI TO i1 i2 l1 l2:Addr}{b1 b2:Bool}{k1 k2:Nat}{xs ys:Array Value}{x y a b:Value}
theorem yrf {Q:Value→Shared→Prop}(D:ZipApart z TI TO i1 i2 l1 l2)(hz:IsZip s.heap z TI TO .none)(hTI:IsPair s.heap TI (.ref i1) (.ref i2))(hTO:IsPair s.heap TO a b)
 (h1:SqI s.heap b1 i1 l1 k1) (h2:SqI s.heap b2 i2 l2 k2) (hl1:SqH s.heap b1 l1 xs) (hl2:SqH s.heap b2 l2 ys) (hx:xs[k1]? = some x) (hy:ys[k2]? = some y)
 (hq:∀h',IsZip h' z TI TO (rawInt s.heap.objs.size)→IsPair h' TO x y→SqI h' b1 i1 l1 (k1+1)→SqI h' b2 i2 l2 (k2+1)→IsPair h' s.heap.objs.size x y→h'.objs.size=s.heap.objs.size+1→
  (∀c o,c≠z→c≠TO→c≠i1→c≠i2→s.heap.get? c=some o→h'.get? c=some o)→Q (.ref s.heap.objs.size) { s with heap:=h' }) :
 wpAny (model prog w) A (Builtin.«zip.__next__» ⟨[.ref z],[]⟩) (fun fin s'=>∃v,fin = .done (.ret v)∧Q v s') E s:=by
 (show wpAny _ _ (field (.ref z) 2 >>= _) _ _ _;refine zwb0 (wpAny_field hz rfl (x:=.bool false) rfl ?_))
 (show wpAny _ _ (field (.ref z) 3 >>= _) _ _ _;refine zwb0 (wpAny_field hz rfl (x:=.ref TI) rfl (zwb0 (wpAny_seqItems hTI rfl ?_))))
 (show wpAny _ _ (ownedTupleIsFree (.ref z) >>= _) _ _ _;refine zwb0 ?_)
 (unfold ownedTupleIsFree;refine zwb0 (wpAny_field hz rfl (x:=.none) rfl (zwp0 ?_)))
 (simp only[if_true];refine zwb0 (wpAny_rule (zwb0 (wpAny_field hz rfl (x:=.ref TO) rfl ?_))))
 refine zwb0 (wpAny_setField_rec hz (by simp) fun g1 z1 s1=>?_)
 replace z1:IsZip g1 z TI TO .ellipsis:=z1
 (refine zwb0 ?_;simp only[List.zipIdx_cons,List.zipIdx_nil,List.forIn_cons,List.forIn_nil])
 (refine zwb0 (zwb0 (wpAny_onRaise ?_));show wpAny _ _ (nextOf (.ref i1) >>= _) _ _ _)
 refine zwb0 (ym4 (h1.ext s1.extBut D.i1z) (hl1.ext s1.extBut D.l1z) hx fun g2 p2 s2=>zwp0 ?_)
 have t2:IsPair g2 TO a b:=s2.extBut _ _ D.TOi1 (s1.extBut _ _ D.TOz hTO)
 refine zwb0 (wpAny_seqItems t2 rfl (zwb0 (wpAny_updateSeq_pair t2 fun g3 t3 s3=>?_)))
 replace t3:IsPair g3 TO x b:=t3
 (refine zwb0 (wpAny_letGo (zwp0 ?_));refine zwb0 (zwb0 (wpAny_onRaise ?_));show wpAny _ _ (nextOf (.ref i2) >>= _) _ _ _)
 refine zwb0 (ym4 (((h2.ext s1.extBut D.i2z).ext s2.extBut D.i12.symm).ext s3.extBut D.TOi2.symm) (((hl2.ext s1.extBut D.l2z).ext s2.extBut D.l2i1).ext s3.extBut D.l2TO) hy fun g4 p4 s4=>zwp0 ?_)
 have t4:IsPair g4 TO x b:=s4.extBut _ _ D.TOi2 t3
 refine zwb0 (wpAny_seqItems t4 rfl (zwb0 (wpAny_updateSeq_pair t4 fun g5 t5 s5=>?_)))
 replace t5:IsPair g5 TO x y:=t5
 (refine zwb0 (wpAny_letGo (zwp0 (zwp0 ?_)));refine zwb0 (wpAny_seqItems t5 rfl (zwb0 (wpAny_newTuple ?_))))
 have ez:g5.objs.size=s.heap.objs.size:=by rw[s5.1,s4.1,s3.1,s2.1,s1.1]
 have z5:IsZip g5 z TI TO .ellipsis:=s5.extBut _ _ D.TOz.symm (s4.extBut _ _ D.i2z.symm (s3.extBut _ _ D.TOz.symm (s2.extBut _ _ D.i1z.symm z1)))
 have kp:∀c o,c≠z→c≠TO→c≠i1→c≠i2→s.heap.get? c=some o→g5.get? c=some o:=fun c o c1 c2 c3 c4 e=>s5.extBut _ _ c2 (s4.extBut _ _ c4 (s3.extBut _ _ c2 (s2.extBut _ _ c3 (s1.extBut _ _ c1 e))))
 have p1:SqI g5 b1 i1 l1 (k1+1):=((p2.ext s3.extBut D.TOi1.symm).ext s4.extBut D.i12).ext s5.extBut D.TOi1.symm
 have p5:SqI g5 b2 i2 l2 (k2+1):=p4.ext s5.extBut D.TOi2.symm
 have q1:i1<g5.objs.size:=let ⟨_,e,_⟩:=p1.obj;Heap.lt_size e
 have q2:i2<g5.objs.size:=let ⟨_,e,_⟩:=p5.obj;Heap.lt_size e
 (show wpAny _ _ (ownedTupleHandOut (.ref z) (.ref g5.objs.size) >>= _) _ _ _;refine zwb0 ?_;unfold ownedTupleHandOut)
 have z6:IsZip (g5.push { cls:=.type "tuple",data:=.seq #[x,y] }) z TI TO .ellipsis:=Heap.get?_push_of_some _ z5
 refine zwb0 (wpAny_setField_rec z6 (by simp) fun g7 z7 s7=>?_)
 replace z7:IsZip g7 z TI TO (rawInt g5.objs.size):=z7
 refine wpAny_setField_rec z7 (by simp) fun g8 z8 s8=>?_
 replace z8:IsZip g8 z TI TO (rawInt g5.objs.size):=z8
 have up:∀c o,c≠z→g5.get? c=some o→g8.get? c=some o:=fun c o c1 e=>s8.extBut _ _ c1 (s7.extBut _ _ c1 (Heap.get?_push_of_some _ e))
 have nT:g5.objs.size≠z:=Nat.ne_of_gt (Heap.lt_size z5)
 have T8:IsPair g8 g5.objs.size x y:=s8.extBut _ _ nT (s7.extBut _ _ nT (Heap.get?_push_size _ rfl))
 have e8:g8.objs.size=g5.objs.size+1:=by rw[s8.1,s7.1,Heap.size_push]
 refine zwp0 ⟨_,rfl,?_⟩
 rw[ez] at z8 T8 e8 ⊢
 exact hq g8 z8 (up _ _ D.TOz t5) (p1.keep fun o e=>up _ o D.i1z e) (p5.keep fun o e=>up _ o D.i2z e) T8 e8 fun c o c1 c2 c3 c4 e=>up c o c1 (kp c o c1 c2 c3 c4 e)
theorem ytl {Q:Fin→Shared→Prop}(hh:A.handled=none)(D:ZipApart z TI TO i1 i2 l1 l2)(hz:IsZip s.heap z TI TO .none)(hTI:IsPair s.heap TI (.ref i1) (.ref i2))(hTO:IsPair s.heap TO a b)
 (h1:SqI s.heap b1 i1 l1 k1) (h2:SqI s.heap b2 i2 l2 k2) (hl1:SqH s.heap b1 l1 xs) (hl2:SqH s.heap b2 l2 ys) (hend:xs[k1]? = none∨ys[k2]? = none)
 (hE:∀h' e,(∀c o,c≠z→c≠TO→c≠i1→c≠i2→s.heap.get? c=some o→h'.get? c=some o)→(∃o,h'.get? e=some o∧o.cls = .type "StopIteration")→E (.ref e) { s with heap:=h' }) :
 wpAny (model prog w) A (Builtin.«zip.__next__» ⟨[.ref z],[]⟩) Q E s:=by
 (show wpAny _ _ (field (.ref z) 2 >>= _) _ _ _;refine zwb0 (wpAny_field hz rfl (x:=.bool false) rfl ?_))
 (show wpAny _ _ (field (.ref z) 3 >>= _) _ _ _;refine zwb0 (wpAny_field hz rfl (x:=.ref TI) rfl (zwb0 (wpAny_seqItems hTI rfl ?_))))
 (show wpAny _ _ (ownedTupleIsFree (.ref z) >>= _) _ _ _;refine zwb0 ?_)
 (unfold ownedTupleIsFree;refine zwb0 (wpAny_field hz rfl (x:=.none) rfl (zwp0 ?_)))
 (simp only[if_true];refine zwb0 (wpAny_rule (zwb0 (wpAny_field hz rfl (x:=.ref TO) rfl ?_))))
 refine zwb0 (wpAny_setField_rec hz (by simp) fun g1 z1 s1=>?_)
 replace z1:IsZip g1 z TI TO .ellipsis:=z1
 (refine zwb0 ?_;simp only[List.zipIdx_cons,List.zipIdx_nil,List.forIn_cons,List.forIn_nil])
 (refine zwb0 (zwb0 (wpAny_onRaise ?_));show wpAny _ _ (nextOf (.ref i1) >>= _) _ _ _)
 cases ex:xs[k1]? with
 |none=>
  refine zwb0 (yu9 hh (h1.ext s1.extBut D.i1z) (hl1.ext s1.extBut D.l1z) ex fun g2 e s2 ⟨oe,he,ce⟩=>?_)
  have z2:IsZip g2 z TI TO .ellipsis:=s2 _ _ D.i1z.symm z1
  have nez:e≠z:=fun q=>by subst q;rw[z2] at he;cases he;simp at ce
  exact wpAny_setField_rec z2 (by simp) fun g3 _ s3=>hE g3 e (fun c o c1 _ c3 _ q=>s3.extBut _ _ c1 (s2 _ _ c3 (s1.extBut _ _ c1 q))) ⟨oe,s3.extBut _ _ nez he,ce⟩
 |some x=>
  have ey:ys[k2]? = none:=by rcases hend with q|q;rw[ex] at q;cases q;exact q
  refine zwb0 (ym4 (h1.ext s1.extBut D.i1z) (hl1.ext s1.extBut D.l1z) ex fun g2 p2 s2=>zwp0 ?_)
  have t2:IsPair g2 TO a b:=s2.extBut _ _ D.TOi1 (s1.extBut _ _ D.TOz hTO)
  refine zwb0 (wpAny_seqItems t2 rfl (zwb0 (wpAny_updateSeq_pair t2 fun g3 t3 s3=>?_)))
  (refine zwb0 (wpAny_letGo (zwp0 ?_));refine zwb0 (zwb0 (wpAny_onRaise ?_));show wpAny _ _ (nextOf (.ref i2) >>= _) _ _ _)
  refine zwb0 (yu9 hh (((h2.ext s1.extBut D.i2z).ext s2.extBut D.i12.symm).ext s3.extBut D.TOi2.symm) (((hl2.ext s1.extBut D.l2z).ext s2.extBut D.l2i1).ext s3.extBut D.l2TO) ey fun g4 e s4 ⟨oe,he,ce⟩=>?_)
  have z4:IsZip g4 z TI TO .ellipsis:=s4 _ _ D.i2z.symm (s3.extBut _ _ D.TOz.symm (s2.extBut _ _ D.i1z.symm z1))
  have nez:e≠z:=fun q=>by subst q;rw[z4] at he;cases he;simp at ce
  exact wpAny_setField_rec z4 (by simp) fun g5 _ s5=>hE g5 e (fun c o c1 c2 c3 c4 q=>s5.extBut _ _ c1 (s4 _ _ c4 (s3.extBut _ _ c2 (s2.extBut _ _ c3 (s1.extBut _ _ c1 q))))) ⟨oe,s5.extBut _ _ nez he,ce⟩
end
def yrg:Bool→String
 |true => "list_iterator"
 |false => "tuple_iterator"
abbrev zg1 (h:Heap)(b1:Bool)(l1:Addr):Heap:=h.push { cls:=.type (yrg b1),data:=.fields #[.ref l1,.int 0 0] }
abbrev zg2 (h:Heap)(b1 b2:Bool)(l1 l2:Addr):Heap:=(zg1 h b1 l1).push { cls:=.type (yrg b2),data:=.fields #[.ref l2,.int 0 0] }
abbrev zg3 (h:Heap) (b1 b2:Bool) (l1 l2:Addr):Heap:=(zg2 h b1 b2 l1 l2).push { cls:=.type "tuple",data:=.seq #[.ref h.objs.size,.ref (zg1 h b1 l1).objs.size] }
abbrev zg4 (h:Heap) (b1 b2:Bool) (l1 l2:Addr):Heap:=(zg3 h b1 b2 l1 l2).push { cls:=.type "tuple",data:=.seq #[.none,.none] }
abbrev zg5 (h:Heap) (b1 b2:Bool) (l1 l2:Addr):Heap:=(zg4 h b1 b2 l1 l2).push { cls:=.type "zip",data:=.fields #[.none,.bool false,.bool false,.ref (zg2 h b1 b2 l1 l2).objs.size,.ref (zg3 h b1 b2 l1 l2).objs.size] }
theorem ytm (b1 b2:Bool)(l1 l2:Addr)(xs ys:Array Value) :
 Meets (Builtin.«zip.__new__» ⟨[.type "zip",.ref l1,.ref l2],[]⟩) (fun _ R s=>SqH s.heap b1 l1 xs∧SqH s.heap b2 l2 ys ∧
  R (.ok (.ret (.ref (zg4 s.heap b1 b2 l1 l2).objs.size))) { s with heap:=zg5 s.heap b1 b2 l1 l2 }):=
 .of_wp fun prog w A R s h=>by
  obtain ⟨hp,g,d,tk,os⟩:=s;obtain ⟨q1,q2,h⟩:=h
  have hsub:=sub_zip
  cases b1 with
  |true=>
   have g1:Heap.IsList (Shared.heap ⟨hp,g,d,tk,os⟩) l1 xs:=q1
   cases b2 with
   |true=>
    have g2:Heap.IsList (Shared.heap ⟨hp.push { cls:=.type "list_iterator",data:=.fields #[.ref l1,.int 0 0] },g,d,tk,os⟩) l2 ys:=Heap.IsList.push (show hp.IsList l2 ys from q2) _
    wp_walk using wpAny_pyIter_list g1,wpAny_pyIter_list g2
    exact⟨_,rfl,h⟩
   |false=>
    have g2:Heap.IsTuple (Shared.heap ⟨hp.push { cls:=.type "list_iterator",data:=.fields #[.ref l1,.int 0 0] },g,d,tk,os⟩) l2 ys:=Heap.IsTuple.push (show hp.IsTuple l2 ys from q2) _
    wp_walk using wpAny_pyIter_list g1,wpAny_pyIter_tuple g2
    exact⟨_,rfl,h⟩
  |false=>
   have g1:Heap.IsTuple (Shared.heap ⟨hp,g,d,tk,os⟩) l1 xs:=q1
   cases b2 with
   |true=>
    have g2:Heap.IsList (Shared.heap ⟨hp.push { cls:=.type "tuple_iterator",data:=.fields #[.ref l1,.int 0 0] },g,d,tk,os⟩) l2 ys:=Heap.IsList.push (show hp.IsList l2 ys from q2) _
    wp_walk using wpAny_pyIter_tuple g1,wpAny_pyIter_list g2
    exact⟨_,rfl,h⟩
   |false=>
    have g2:Heap.IsTuple (Shared.heap ⟨hp.push { cls:=.type "tuple_iterator",data:=.fields #[.ref l1,.int 0 0] },g,d,tk,os⟩) l2 ys:=Heap.IsTuple.push (show hp.IsTuple l2 ys from q2) _
    wp_walk using wpAny_pyIter_tuple g1,wpAny_pyIter_tuple g2
    exact⟨_,rfl,h⟩
theorem yrh {h:Heap}{b:Bool}{it a:Addr}(e:h.get? it=some { cls:=.type (yrg b),data:=.fields #[.ref a,.int 0 0] }):SqI h b it a 0:=by
 cases b with
 |true=>exact(show h.IsListIter it a 0 from ⟨_,e,rfl,rfl⟩)
 |false=>exact(show h.IsTupleIter it a 0 from ⟨_,e,rfl,rfl⟩)
section
variable {prog:Program}{w:World}{A:Around}{E:Value→Shared→Prop}{s:Shared}
theorem yri {b1 b2:Bool}{l1 l2:Addr}{xs ys:Array Value}{Q:Value→Shared→Prop}(q1:SqH s.heap b1 l1 xs)(q2:SqH s.heap b2 l2 ys)
 (hq:∀h',IsZip h' (s.heap.objs.size+4) (s.heap.objs.size+2) (s.heap.objs.size+3) .none→IsPair h' (s.heap.objs.size+2) (.ref s.heap.objs.size) (.ref (s.heap.objs.size+1))→IsPair h' (s.heap.objs.size+3) .none .none→
  SqI h' b1 s.heap.objs.size l1 0→SqI h' b2 (s.heap.objs.size+1) l2 0→(∀c o,s.heap.get? c=some o→h'.get? c=some o)→Q (.ref (s.heap.objs.size+4)) { s with heap:=h' }) :
 wpAny (model prog w) A (call (.type "zip") [.ref l1,.ref l2]) Q E s:=by
 refine callType_new F.called_zip (by decide) (F.typeCall_zip_2 _ _) (F.newCall_zip_2 _ _) (fun obj=>F.args_object_init_3 obj _ _) F.entry_zip_new (ytm b1 b2 l1 l2 xs ys) ⟨q1,q2,?_⟩
 have n1:(zg1 s.heap b1 l1).objs.size=s.heap.objs.size+1:=Heap.size_push ..
 have n2:(zg2 s.heap b1 b2 l1 l2).objs.size=s.heap.objs.size+2:=by rw[Heap.size_push,n1]
 have n3:(zg3 s.heap b1 b2 l1 l2).objs.size=s.heap.objs.size+3:=by rw[Heap.size_push,n2]
 have n4:(zg4 s.heap b1 b2 l1 l2).objs.size=s.heap.objs.size+4:=by rw[Heap.size_push,n3]
 have p5:(zg5 s.heap b1 b2 l1 l2).get? (zg4 s.heap b1 b2 l1 l2).objs.size=some _:=Heap.get?_push_size _ rfl
 have p4:(zg5 s.heap b1 b2 l1 l2).get? (zg3 s.heap b1 b2 l1 l2).objs.size=some _:=Heap.get?_push_of_some _ (Heap.get?_push_size _ rfl)
 have p3:(zg5 s.heap b1 b2 l1 l2).get? (zg2 s.heap b1 b2 l1 l2).objs.size=some _:=Heap.get?_push_of_some _ (Heap.get?_push_of_some _ (Heap.get?_push_size _ rfl))
 have p2:(zg5 s.heap b1 b2 l1 l2).get? (zg1 s.heap b1 l1).objs.size=some _:=Heap.get?_push_of_some _ (Heap.get?_push_of_some _ (Heap.get?_push_of_some _ (Heap.get?_push_size _ rfl)))
 have p1:(zg5 s.heap b1 b2 l1 l2).get? s.heap.objs.size=some _:=Heap.get?_push_of_some _ (Heap.get?_push_of_some _ (Heap.get?_push_of_some _ (Heap.get?_push_of_some _ (Heap.get?_push_size _ rfl))))
 rw[n2,n3,n4] at p5
 rw[n1,n2] at p3
 rw[n3] at p4
 rw[n1] at p2
 show _∧_
 rw[n4]
 exact⟨⟨_,p5,rfl⟩,hq _ p5 p3 p4 (yrh p1) (yrh p2) fun c o e=>Heap.get?_push_of_some _ (Heap.get?_push_of_some _ (Heap.get?_push_of_some _ (Heap.get?_push_of_some _ (Heap.get?_push_of_some _ e))))⟩
variable {z TI TO i1 i2 l1 l2:Addr}{b1 b2:Bool}{k1 k2:Nat}{xs ys:Array Value}{x y a b:Value}
theorem ylk {Q:Option Value→Shared→Prop}(D:ZipApart z TI TO i1 i2 l1 l2)(hz:IsZip s.heap z TI TO .none)(hTI:IsPair s.heap TI (.ref i1) (.ref i2))(hTO:IsPair s.heap TO a b)
 (h1:SqI s.heap b1 i1 l1 k1) (h2:SqI s.heap b2 i2 l2 k2) (hl1:SqH s.heap b1 l1 xs) (hl2:SqH s.heap b2 l2 ys) (hx:xs[k1]? = some x) (hy:ys[k2]? = some y)
 (hq:∀h',IsZip h' z TI TO (rawInt s.heap.objs.size)→IsPair h' TO x y→SqI h' b1 i1 l1 (k1+1)→SqI h' b2 i2 l2 (k2+1)→IsPair h' s.heap.objs.size x y→
  (∀c o,c≠z→c≠TO→c≠i1→c≠i2→s.heap.get? c=some o→h'.get? c=some o)→Q (some (.ref s.heap.objs.size)) { s with heap:=h' }):wpAny (model prog w) A (pyNext (.ref z)) Q E s:=by
 have ty:s.TypeIs (.ref z) "zip" := ⟨_,hz,rfl⟩
 (unfold pyNext;exact zwb0 (wpAny_attempt (wpAny_callSpecial?_slot (name:=Str.ofString "__next__") ty F.slot_zip_next (wpAny_call_entry F.slot_zip_next ty F.entry_zip_next (yrf D hz hTI hTO h1 h2 hl1 hl2 hx hy fun h' a1 a2 a3 a4 a5 _ a7=>zwp0 (hq h' a1 a2 a3 a4 a5 a7)) (F.args_zip_next_1 _)))))
theorem ym5 {Q:Option Value→Shared→Prop}(hh:A.handled=none)(D:ZipApart z TI TO i1 i2 l1 l2)(hz:IsZip s.heap z TI TO .none)(hTI:IsPair s.heap TI (.ref i1) (.ref i2))(hTO:IsPair s.heap TO a b)
 (h1:SqI s.heap b1 i1 l1 k1) (h2:SqI s.heap b2 i2 l2 k2) (hl1:SqH s.heap b1 l1 xs) (hl2:SqH s.heap b2 l2 ys) (hend:xs[k1]? = none∨ys[k2]? = none)
 (hq:∀h',(∀c o,c≠z→c≠TO→c≠i1→c≠i2→s.heap.get? c=some o→h'.get? c=some o)→Q none { s with heap:=h' }):wpAny (model prog w) A (pyNext (.ref z)) Q E s:=by
 have ty:s.TypeIs (.ref z) "zip" := ⟨_,hz,rfl⟩
 (unfold pyNext;refine zwb0 (wpAny_attempt (wpAny_callSpecial?_slot (name:=Str.ofString "__next__") ty F.slot_zip_next (wpAny_call_entry F.slot_zip_next ty F.entry_zip_next (ytl hh D hz hTI hTO h1 h2 hl1 hl2 hend fun h' e hk ⟨o,ho,hc⟩=>?_) (F.args_zip_next_1 _)))))
 exact zwb0 (wpAny_isInstance (T := "StopIteration") (b:=true) ⟨o,ho,hc⟩ isSubtype_stop (zwp0 (hq _ hk)))
end
end L2
namespace L2
open PySem PySem.Spec PyProof.Rows
def SqB (K:PySem.W.Frag)(H:Hp)(b:Bool)(a:Addr)(xs:List V):Prop:=match b with
 |true=>SqL K H a xs
 |false=>SqT K H a xs
section
variable {X:Cx}{pins:List (Addr×Obj)}{σ:St}{H:Hp}{s:Shared}
theorem Inv.sqB {b:Bool}{a:Addr}{xs:List V}(I:Inv X pins σ H s)(h:SqB X.K H b a xs):∃its:List Value,Vals xs its∧SqH s.heap b a its.toArray:=by
 cases b with
 |true=>obtain ⟨its,r,p,_⟩:=I.list h;exact⟨its,r,p.isList⟩
 |false=>obtain ⟨its,r,p,_⟩:=I.tuple h;exact⟨its,r,p⟩
theorem Inv.sqB_inj {b:Bool}{a:Addr}{xs ys:List V}(I:Inv X pins σ H s)(h:SqB X.K H b a xs)(h':SqB X.K H b a ys):xs=ys:=by
 cases b with
 |true=>exact I.list_inj h h'
 |false=>exact I.tuple_inj h h'
theorem Inv.turnedL {h':Heap}{t':Nat}{ch:List Addr}(I:Inv X pins σ H s)(hf:∀b∈ch,yfy X pins H b)(k:∀b o,b ∉ ch→s.heap.get? b=some o→h'.get? b=some o):Inv X pins σ H { s with heap:=h',toks:=t' }:=by
 have nt:∀b u,H b=some u→b ∉ ch:=fun b u e z=>by rw[(hf b z).1] at e;cases e
 have hL:X.env.locals ∉ ch:=fun z=>(hf _ z).2.1 rfl
 refine I.step (g':=s.gens) (d':=s.drawn) (ch:=ch) (fun b hb=>⟨(hf b hb).2.2.2.1,(hf b hb).2.1,(hf b hb).2.2.2.2.1,(hf b hb).2.2.2.2.2⟩) (fun b o _ _ hc e _=>k b o hc e) (fun b o _ _ hc e _=>⟨o.slots,k b o hc e⟩) (fun _ _ _ _ n=>n)
  (fun b o hc e=>⟨o,k b o hc e⟩) (fun _ _ e=>e) (fun _ _ _ e=>e) (fun b ps e=>⟨#[],by rw[e];simp⟩) (fun m hm=>?_) (fun b u e=>?_) I.bare
 ·obtain ⟨o,es,ep,ho,r⟩:=hm
  exact⟨o,es,ep,k _ o hL ho,r⟩
 ·refine(I.hok b u e).stay (fun c v hc q=>k c v ?_ q) (fun _ q=>q) fun _ _ q=>q
  rcases hc with z|z
  ·rw[z];exact nt b u e
  ·exact nt c _ z
theorem Inv.trackNew {h':Heap}{t':Nat}{a:Addr}{o:HO}(I0:Inv X pins σ H s)(I:Inv X pins σ H { s with heap:=h',toks:=t' })(ha:s.heap.objs.size≤a)(new:ObjOk X.prog X.w (upd H a o) h' a o):Inv X pins σ (upd H a o) { s with heap:=h',toks:=t' }:=by
 refine I.track (Heap.get?_none_of_le (Nat.le_trans I0.sz ha)) (I0.hok.fresh ha) (Nat.ne_of_gt (Nat.lt_of_lt_of_le I0.lt ha)) (fun x c e z=>?_) (fun p hp z=>?_) new
 ·obtain ⟨v,q⟩:=I0.cell x c e
  exact absurd (Nat.lt_of_lt_of_le q.lt (by rw[z];exact ha)) (Nat.lt_irrefl _)
 ·exact absurd (Nat.lt_of_lt_of_le (Heap.lt_size (I0.pin p hp).1) (by rw[z];exact ha)) (Nat.lt_irrefl _)
end
def Itz (K:PySem.W.Frag)(b1 b2:Bool)(l1 l2:Addr):It:=
 ⟨fun i H=>∃xs ys x y,SqB K H b1 l1 xs∧SqB K H b2 l2 ys∧xs[i]? = some x∧ys[i]? = some y,
  fun i H v H'=>∃p x y,v = .ref p∧H p=none∧H' = upd H p (.tup [x,y])∧∀xs ys,SqB K H b1 l1 xs→SqB K H b2 l2 ys→xs[i]? = some x∧ys[i]? = some y,
  fun i H=>∃xs ys,SqB K H b1 l1 xs∧SqB K H b2 l2 ys∧(xs.length≤i∨ys.length≤i)⟩
def yy6 (z TI TO i1 i2 l1 l2:Addr)(b1 b2:Bool)(i:Nat)(h:Heap):Prop:=IsZip h z TI TO .none∧IsPair h TI (.ref i1) (.ref i2)∧(∃a b,IsPair h TO a b)∧SqI h b1 i1 l1 i∧SqI h b2 i2 l2 i
theorem ytn {P:Program}{w:World}{K:PySem.W.Frag}{es:List Expr}{x1:Nat}{tp:Pos}{z TI TO i1 i2 l1 l2:Addr}{b1 b2:Bool}(D:ZipApart z TI TO i1 i2 l1 l2) :
 Turn P w K (.Tuple es x1 tp) (Itz K b1 b2 l1 l2) [z,TI,TO,i1,i2] z (yy6 z TI TO i1 i2 l1 l2 b1 b2) where
 mem:=by simp
 obj:=fun i h ⟨t1,t2,⟨a,b,t3⟩,t4,t5⟩ c hc=>by
  simp only[List.mem_cons,List.not_mem_nil,or_false] at hc
  rcases hc with rfl|rfl|rfl|rfl|rfl
  ·exact⟨_,t1,fun v q=>by cases q⟩
  ·exact⟨_,t2,fun v q=>by cases q⟩
  ·exact⟨_,t3,fun v q=>by cases q⟩
  ·obtain ⟨o,e,vs,d⟩:=t4.obj;exact⟨o,e,fun v q=>by rw[d] at q;cases q⟩
  ·obtain ⟨o,e,vs,d⟩:=t5.obj;exact⟨o,e,fun v q=>by rw[d] at q;cases q⟩
 keep:=fun i h h' ⟨t1,t2,⟨a,b,t3⟩,t4,t5⟩ k=>⟨k z (by simp) _ t1,k TI (by simp) _ t2,⟨a,b,k TO (by simp) _ t3⟩,t4.keep fun o e=>k i1 (by simp) o e,t5.keep fun o e=>k i2 (by simp) o e⟩
 item:=by
  intro X hP hw hK hc i pins s σ H E I hf st hg
  subst hP hw hK
  obtain ⟨t1,t2,⟨a,b,t3⟩,t4,t5⟩:=st
  obtain ⟨xs,ys,x,y,q1,q2,e1,e2⟩:=hg
  obtain ⟨us,r1,p1⟩:=I.sqB q1
  obtain ⟨vs,r2,p2⟩:=I.sqB q2
  obtain ⟨u,eu,ru⟩:=r1.get e1
  obtain ⟨v,ev,rv⟩:=r2.get e2
  refine ylk (x:=u) (y:=v) D t1 t2 t3 t4 t5 p1 p2 (by simpa using eu) (by simpa using ev) fun h' a1 a2 a3 a4 a5 a7=>?_
  refine⟨_,rfl,wpAny_letOwnedTupleGo_zip a1 fun h'' c1 c2=>?_⟩
  have nz:s.heap.objs.size≠z:=Nat.ne_of_gt (Heap.lt_size t1)
  have I1:Inv X pins σ H { s with heap:=h'',toks:=s.toks }:=I.turnedL hf fun c o hc q=>by
   simp only[List.mem_cons,List.not_mem_nil,or_false,not_or] at hc
   exact c2.extBut c o hc.1 (a7 c o hc.1 hc.2.2.1 hc.2.2.2.1 hc.2.2.2.2 q)
  have I2:=I.trackNew (t':=s.toks) (o:=.tup [x,y]) I1 (Nat.le_refl _) ⟨by show 2≤sizeLine;decide,[u,v],.cons ru (.cons rv .nil),⟨_,c2.extBut _ _ nz a5,rfl,_,rfl⟩⟩
  have fr:H s.heap.objs.size=none:=I.hok.fresh (Nat.le_refl _)
  refine⟨.ref s.heap.objs.size,_,I2,rfl,⟨s.heap.objs.size,x,y,rfl,fr,rfl,fun xs' ys' q1' q2'=>⟨by rw[I.sqB_inj q1' q1];exact e1,by rw[I.sqB_inj q2' q2];exact e2⟩⟩,⟨c1,c2.extBut _ _ D.TIz (a7 TI _ D.TIz D.TITO D.TIi1 D.TIi2 t2),⟨u,v,c2.extBut _ _ D.TOz a2⟩,a3.ext c2.extBut D.i1z,a4.ext c2.extBut D.i2z⟩,fun c hc=>?_⟩
  obtain ⟨o,eo⟩ : ∃o,s.heap.get? c=some o:=by
   simp only[List.mem_cons,List.not_mem_nil,or_false] at hc
   rcases hc with rfl|rfl|rfl|rfl|rfl
   ·exact⟨_,t1⟩
   ·exact⟨_,t2⟩
   ·exact⟨_,t3⟩
   ·obtain ⟨o,e,_⟩:=t4.obj;exact⟨o,e⟩
   ·obtain ⟨o,e,_⟩:=t5.obj;exact⟨o,e⟩
  rw[yal (Nat.ne_of_lt (Heap.lt_size eo))]
  exact(hf c hc).1
 done:=by
  intro X hP hw hK hc i pins s σ H E I hf st hg
  subst hP hw hK
  obtain ⟨t1,t2,⟨a,b,t3⟩,t4,t5⟩:=st
  obtain ⟨xs,ys,q1,q2,hl⟩:=hg
  obtain ⟨us,r1,p1⟩:=I.sqB q1
  obtain ⟨vs,r2,p2⟩:=I.sqB q2
  have n1:=r1.length
  have n2:=r2.length
  refine ym5 (I.ok.hd hc) D t1 t2 t3 t4 t5 p1 p2 ?_ fun h' kk=>⟨rfl,I.turnedL (t':=s.toks) hf fun c o hc q=>?_⟩
  ·rcases hl with z|z
   ·exact .inl (by simp;omega)
   ·exact .inr (by simp;omega)
  ·simp only[List.mem_cons,List.not_mem_nil,or_false,not_or] at hc
   exact kk c o hc.1 hc.2.2.1 hc.2.2.2.1 hc.2.2.2.2 q
 self:=fun _ _ _ _ _ st h=>wpAny_pyIter_zip st.1 h
section
variable {X:Cx}{es:List Expr}{x1:Nat}{tp:Pos}
def yzq (K:PySem.W.Frag)(ta:TA):TI:=fun σ H R=>ta σ H fun vs H1=>∃b1 b2 l1 l2 xs ys,vs=[.ref l1,.ref l2]∧SqB K H1 b1 l1 xs∧SqB K H1 b2 l2 ys∧R (Itz K b1 b2 l1 l2) H1
theorem yva {a b:Expr}{ta:TA}{p pos:Pos} (hg:Gl X "zip") (hm:X.mg "zip" = none) (ha:PA X [a,b] ta) (hs:starEach [a,b] X.env=[(false,eval a X.env),(false,eval b X.env)]:=by rfl) (hs2:starEach [b] X.env=[(false,eval b X.env)]:=by rfl) :
 PI X (.Tuple es x1 tp) (.Call (.Name "zip" p) [a,b] [] pos) (yzq X.K ta):=by
 intro pins s σ H R I h
 refine Call_ (yhs I hg hm boot_zip (PyProof.Rows.callWith_type1 (thn (ha pos pins s σ H _ I h) fun us s1 ⟨vs,H1,I1,r1,q1⟩=>?_) (by rw[hs,hs2]) (by rw[hs2];rfl)))
 obtain ⟨b1,b2,l1,l2,xs,ys,rfl,q1,q2,q⟩:=q1
 obtain ⟨u,v,rfl,ru,rv⟩:=r1.two
 cases ru;cases rv
 obtain ⟨us1,_,p1⟩:=I1.sqB q1
 obtain ⟨us2,_,p2⟩:=I1.sqB q2
 have n1:l1<s1.heap.objs.size:=by
  cases b1 with
  |true=>obtain ⟨o,e,_⟩:=(show s1.heap.IsList l1 _ from p1);exact Heap.lt_size e
  |false=>obtain ⟨o,e,_⟩:=(show s1.heap.IsTuple l1 _ from p1);exact Heap.lt_size e
 have n2:l2<s1.heap.objs.size:=by
  cases b2 with
  |true=>obtain ⟨o,e,_⟩:=(show s1.heap.IsList l2 _ from p2);exact Heap.lt_size e
  |false=>obtain ⟨o,e,_⟩:=(show s1.heap.IsTuple l2 _ from p2);exact Heap.lt_size e
 refine yri p1 p2 fun h' a1 a2 a3 a4 a5 kk=>?_
 refine wpAny_pyIter_zip a1 ?_
 have I2:Inv X pins σ H1 { s1 with heap:=h',toks:=s1.toks }:=I1.kept kk
 refine⟨_,[s1.heap.objs.size+4,s1.heap.objs.size+2,s1.heap.objs.size+3,s1.heap.objs.size,s1.heap.objs.size+1],_,_,H1,rfl,I2,ytn (zipApart_new n1 n2),⟨a1,a2,⟨_,_,a3⟩,a4,a5⟩,fun c hc=>?_,q⟩
 have hge:s1.heap.objs.size≤c:=by
  simp only[List.mem_cons,List.not_mem_nil,or_false] at hc
  rcases hc with rfl|rfl|rfl|rfl|rfl <;> omega
 exact I1.fpOk (H':=H1) hge (I1.hok.fresh hge)
end
section
variable {X:Cx}
theorem yjc:∀{bs:List Bool}{us:List Value},Vals (bs.map V.bl) us→us=bs.map Value.bool
 |[],_,.nil=>rfl
 |b::r,_,.cons x t=>by rw[show _=Value.bool b from x,yjc t];rfl
theorem yrj {bs:List Bool}:(List.range bs.length).all (fun i=>bs.getD i false)=bs.all id:=by
 rw[Bool.eq_iff_iff,List.all_eq_true,List.all_eq_true]
 constructor
 ·intro h b hb
  obtain ⟨i,hi,rfl⟩:=List.mem_iff_getElem.mp hb
  have:=h i (List.mem_range.mpr hi)
  simpa [List.getD_eq_getElem?_getD,hi] using this
 ·intro h i hi
  have hi':=List.mem_range.mp hi
  have:=h _ (List.getElem_mem hi')
  simpa [List.getD_eq_getElem?_getD,hi'] using this
theorem yto {bs:List Bool}{i:Nat}{v:Value}(h:(bs.map Value.bool).toArray[i]? = some v):v = .bool (bs.getD i false):=by
 have h':(bs.map Value.bool)[i]? = some v:=by simpa using h
 rw[List.getElem?_map] at h'
 cases e:bs[i]? with
 |none=>rw[e] at h';cases h'
 |some b=>
  rw[e] at h'
  rw[List.getD_eq_getElem?_getD,e]
  exact(Option.some.inj h').symm
theorem yll (hc:X.calm=true):yft X (.builtin "all") (fun xs H Q=>∃(p:Addr) (bs:List Bool),xs=[.ref p]∧SqL X.K H p (bs.map V.bl)∧Q (.bl (bs.all id)) H):=by
 intro pins s σ H xs us Q I r h
 obtain ⟨p,bs,rfl,hq,q⟩:=h
 obtain ⟨u,rfl,ru⟩:=r.one
 cases ru
 obtain ⟨its,rv,pl,hz⟩:=I.list hq
 have e:=yjc rv
 subst e
 have nl:p≠s.heap.objs.size:=by obtain ⟨o,e,_⟩:=pl.isList;exact Nat.ne_of_lt (Heap.lt_size e)
 refine call_all_walk (wpAny_pyIter_list pl.isList ?_)
 refine⟨s.heap.objs.size,_,_,_,_,_,fun i=>bs.getD i false,rfl,Walks.list (A:=X.A.in1) (I.ok.hd hc) s.heap.objs.size p nl (bs.map Value.bool).toArray,⟨⟨_,Heap.get?_push_size _ rfl,rfl,rfl⟩,pl.isList.push _⟩,?_,fun h' tk k=>?_⟩
 ·intro i v s' Q' E' hP hq'
  rw[yto hP]
  exact zwp0 hq'
 ·have e2:(bs.map Value.bool).toArray.size=bs.length:=by simp
  rw[e2,yrj]
  refine⟨.bl _,H,I.kept (t':=tk) (h':=h') fun b o e=>k b o ?_ (Heap.get?_push_of_some _ e),rfl,q⟩
  intro z
  have z':b=s.heap.objs.size:=by simpa using z
  exact absurd (Heap.lt_size e) (by rw[z'];exact Nat.lt_irrefl _)
def yy7 (i j:Int):Prop:=0<j∧j<18446744073709551616
theorem yj5:OpR X (binaryOp .FloorDiv) (rI yy7 fun i j=>.int (i / j)):=opI fun i j _ _ _ _ _ hc q=>by
 have hj:j.natAbs.log2<9000:=by
  have h0:j.natAbs≠0:=by have:=hc.1;omega
  have h1:j.natAbs<2 ^ 64:=by
   have h2:=hc.1
   have h3:j<2 ^ 64:=hc.2
   omega
  have:=(Nat.log2_lt h0).mpr h1
  omega
 have e:i / j=i.fdiv j:=(Int.fdiv_eq_ediv_of_nonneg i (Int.le_of_lt hc.1)).symm
 rw[e] at q
 exact floordiv_int (by have:=hc.1;omega) q (.inl (PyProof.noPylong_of_log2 hj))
def yyr:V→Option Value
 |.ty n=>some (.type n)
 |.ref a=>some (.ref a)
 |_=>none
theorem yoh {c:V}{u w:Value}(r:RelV c u)(h:yyr c=some w):u=w:=by
 cases c with
 |ty n=>cases h;exact r
 |ref a=>cases h;exact r
 |_=>cases h
def yzr (K:PySem.W.Frag):List V→Hp→VK→Prop:=fun xs H Q=>∃x c t w b,xs=[x,c]∧yyr c=some w∧TyOf K H x t∧PySem.W.kitOne K t w=some b∧Q (.bl b) H
theorem yb4:yft X (.builtin "isinstance") (yzr X.K):=by
 intro pins s σ H xs us Q I r h
 obtain ⟨x,c,t,w,b,rfl,hw,ty,e,q⟩:=h
 obtain ⟨u,v,rfl,ru,rv⟩:=r.two
 rw[yoh rv hw]
 exact yq2 I ru ty e fun tk=>⟨.bl b,H,I.tok tk,rfl,q⟩
end
section
variable {X:Cx}{pins:List (Addr×Obj)}{σ:St}{H:Hp}{s:Shared}
theorem ytp {x:V}{u t:Value} (I:Inv X pins σ H s) (rx:RelV x u) (ty:TyOf X.K H x t):∃φ:Heap→Prop,PySem.W.KitX X.K u t φ∧φ s.heap∧u≠.builtin "__main__.__loader__#opaque" := by
 cases ty with
 |non=>cases (show u=Value.none from rx);exact⟨_,PySem.W.kitx_none,True.intro,(fun z=>nomatch z)⟩
 |bl y=>cases (show u=Value.bool y from rx);exact⟨_,PySem.W.kitx_bool,True.intro,(fun z=>nomatch z)⟩
 |int i=>obtain ⟨t,q⟩:=(show ∃t,u=Value.int i t from rx);cases q;exact⟨_,PySem.W.kitx_int,True.intro,(fun z=>nomatch z)⟩
 |str y=>obtain ⟨t,q⟩:=(show ∃t,u=Value.str y t from rx);cases q;exact⟨_,PySem.W.kitx_str,True.intro,(fun z=>nomatch z)⟩
 |flt y=>obtain ⟨t,q⟩:=(show ∃t,u=Value.float y t from rx);cases q;exact⟨_,PySem.W.kitx_float,True.intro,(fun z=>nomatch z)⟩
 |@lst a xs ea=>
  cases (show u=Value.ref a from rx)
  obtain ⟨_,_,n,_,h1⟩:=(show ObjOk X.prog X.w H s.heap a (.lst xs) from I.hok a _ ea)
  exact⟨_,PySem.W.kitx_list,⟨_,h1,rfl⟩,(fun z=>nomatch z)⟩
 |@frz a ob xs ea=>
  cases (show u=Value.ref a from rx)
  obtain ⟨_,_,_,n,_,h1⟩:=(show ObjOk X.prog X.w H s.heap a (.frz ob (.lst xs)) from I.hok a _ ea)
  exact⟨_,PySem.W.kitx_list,⟨_,h1,rfl⟩,(fun z=>nomatch z)⟩
 |@tup a xs ea=>
  cases (show u=Value.ref a from rx)
  obtain ⟨_,_,_,p⟩:=(show ObjOk X.prog X.w H s.heap a (.tup xs) from I.hok a _ ea)
  obtain ⟨o,h1,h2,_⟩:=p
  exact⟨_,PySem.W.kitx_tuple,⟨o,h1,h2⟩,(fun z=>nomatch z)⟩
 |@dK a kvs ea=>
  cases (show u=Value.ref a from rx)
  obtain ⟨_,_,vs,_,p⟩:=(show ObjOk X.prog X.w H s.heap a (.dK kvs) from I.hok a _ ea)
  obtain ⟨o,es,ep,h1,h2,_⟩:=p
  exact⟨_,PySem.W.kitx_dict,⟨o,h1,h2.1⟩,(fun z=>nomatch z)⟩
 |@dT a kvs ea=>
  cases (show u=Value.ref a from rx)
  obtain ⟨_,_,xs,_,o,es,ep,h1,h2,_⟩:=(show ObjOk X.prog X.w H s.heap a (.dT kvs) from I.hok a _ ea)
  exact⟨_,PySem.W.kitx_dict,⟨o,h1,h2.1⟩,(fun z=>nomatch z)⟩
 |@ins a C dx fs ea cl ha hn htk hm=>
  cases (show u=Value.ref a from rx)
  obtain ⟨mA,O,_⟩:=yq1 I.hok ea
  obtain ⟨od,J,_⟩:=O.look
  exact⟨_,PySem.W.kitx_own (cl.get _) cl.hd ha hn htk hm,J,(fun z=>nomatch z)⟩
theorem yrk:∀{cs:List V}{us ws:List Value},Vals cs us→cs.map yyr=ws.map some→us=ws
 |[],_,[],.nil,_=>rfl
 |c::cs,_,w::ws,.cons r t,e=>by
  rw[List.map_cons,List.map_cons] at e
  injection e with e1 e2
  rw[yoh r e1,yrk t e2]
def zae (K:PySem.W.Frag):List V→Hp→VK→Prop:=fun xs H Q=>∃x p cs t ws b,xs=[x,.ref p]∧H p=some (.tup cs)∧cs.map yyr=ws.map some∧TyOf K H x t∧PySem.W.kitAny K t ws=some b∧Q (.bl b) H
theorem yoi:yft X (.builtin "isinstance") (zae X.K):=by
 intro pins s σ H xs us Q I r h
 obtain ⟨x,p,cs,t,ws,b,rfl,hp,hc,ty,e,q⟩:=h
 obtain ⟨u,v,rfl,ru,rv⟩:=r.two
 cases rv
 obtain ⟨φ,Z,hφ,hne⟩:=ytp I ru ty
 obtain ⟨_,its,rs,⟨ob,h1,h2,n,h3⟩⟩:=(show ObjOk X.prog X.w H s.heap p (.tup cs) from I.hok p _ hp)
 have ei:=yrk rs hc
 subst ei
 obtain ⟨oc,od,dt,sl⟩:=ob
 dsimp only at h2 h3
 subst h2 h3
 exact PySem.W.kia_tup Z I.kIn hφ h1 e hne fun tk=>⟨.bl b,H,I.tok tk,rfl,q⟩
end
inductive EqD (H:Hp):Nat→V→V→Prop
 |flat {n:Nat}{v:V} (h:yra v=true):EqD H n v v
 |tup {n:Nat}{p q:Addr}{xs ys:List V} (h1:H p=some (.tup xs)) (h2:H q=some (.tup ys)) (hl:xs.length=ys.length) (hs:xs.length≤1000) (h:∀(i:Nat) x y,xs[i]? = some x→ys[i]? = some y→EqD H n x y):EqD H (n+1) (.ref p) (.ref q)
 |lst {n:Nat}{p q:Addr}{xs ys:List V} (h1:H p=some (.lst xs)) (h2:H q=some (.lst ys)) (hl:xs.length=ys.length) (hs:xs.length≤1000) (h:∀(i:Nat) x y,xs[i]? = some x→ys[i]? = some y→EqD H n x y):EqD H (n+1) (.ref p) (.ref q)
theorem EqD.same {H H':Hp}(s:Same H H'):∀{n:Nat}{v u:V},EqD H n v u→EqD H' n v u:=by
 intro n v u h
 induction h with
 |flat h=>exact .flat h
 |tup h1 h2 hl hs _ ih=>exact .tup (s _ _ h1) (s _ _ h2) hl hs fun i x y a b=>ih i x y a b
 |lst h1 h2 hl hs _ ih=>exact .lst (s _ _ h1) (s _ _ h2) hl hs fun i x y a b=>ih i x y a b
theorem yac {H:Hp}{p:Addr}(h:H p=none)(o:HO):Same H (upd H p o):=fun b u q=>by rw[yal (yaj q h)];exact q
def yvb:Expr→Bool
 |.Starred ..=>false
 |_=>true
theorem ypq {e:Expr}{es:List Expr}{env:Env}(h:yvb e=true):starEach (e::es) env=(false,eval e env)::starEach es env:=by
 cases e <;> first|rfl|cases h
theorem yam {X:Cx}{e:Expr}{es:List Expr}{te:TE}{t:TA}(ha:PE X e te)(hr:PA X es t)(hn:yvb e=true:=by rfl):PA X (e::es) (ycp te t):=yvt ha hr (ypq hn)
inductive EqB (K:PySem.W.Frag) (H:Hp):Nat→V→V→Bool→Prop
 |flat {n:Nat}{x y:V} (hx:yra x=true) (hy:yra y=true):EqB K H n x y (eqV x y)
 |same {n:Nat}{p:Addr}:EqB K H n (.ref p) (.ref p) true
 |tup {n:Nat}{a b:Addr}{xs ys:List V} (e:Nat→Bool) (hn:a≠b) (h1:SqT K H a xs) (h2:SqT K H b ys) (he:∀j x y,xs[j]? = some x→ys[j]? = some y→EqB K H n x y (e j)):EqB K H (n+1) (.ref a) (.ref b) ((List.range (min xs.length ys.length)).all e&&xs.length == ys.length)
 |lst {n:Nat}{a b:Addr}{xs ys:List V} (e:Nat→Bool) (hn:a≠b) (hl:xs.length=ys.length) (h1:SqL K H a xs) (h2:SqL K H b ys) (he:∀j x y,xs[j]? = some x→ys[j]? = some y→EqB K H n x y (e j)):EqB K H (n+1) (.ref a) (.ref b) ((List.range xs.length).all e)
 |lsn {n:Nat}{a b:Addr}{xs ys:List V} (hl:xs.length≠ys.length) (h1:SqL K H a xs) (h2:SqL K H b ys):EqB K H (n+1) (.ref a) (.ref b) false
theorem ygb {A:Around}:A.in1.units=A.units+1:=rfl
section
variable {X:Cx}{pins:List (Addr×Obj)}{σ:St}{H:Hp}{s:Shared}
theorem yfn {A:Around}{n:Nat}{xs ys:List V}{us vs:List Value}{e:Nat→Bool}(rx:Vals xs us)(ry:Vals ys vs)(h:∀j x y u v,xs[j]? = some x→ys[j]? = some y→RelV x u→RelV y v→SeqAt.EqAt A s u v (e j)) :
 ∀j (h1:j<us.toArray.size) (h2:j<vs.toArray.size),SeqAt.EqAt A s us.toArray[j] vs.toArray[j] (e j):=fun j h1 h2=>by
 have l1:=rx.length
 have l2:=ry.length
 have g1:j<xs.length:=by simp at h1;omega
 have g2:j<ys.length:=by simp at h2;omega
 obtain ⟨u,eu,ru⟩:=rx.get (List.getElem?_eq_getElem g1)
 obtain ⟨v,ev,rv⟩:=ry.get (List.getElem?_eq_getElem g2)
 have e1:us.toArray[j]=u:=by
  have:=List.getElem?_eq_some_iff.mp eu
  obtain ⟨_,e⟩:=this
  simpa using e
 have e2:vs.toArray[j]=v:=by
  have:=List.getElem?_eq_some_iff.mp ev
  obtain ⟨_,e⟩:=this
  simpa using e
 rw[e1,e2]
 exact h j _ _ u v (List.getElem?_eq_getElem g1) (List.getElem?_eq_getElem g2) ru rv
theorem EqB.eqAt (I:Inv X pins σ H s){n:Nat}{x y:V}{b:Bool}(h:EqB X.K H n x y b):∀(A:Around) (u v:Value),A.units+n<cLine→RelV x u→RelV y v→SeqAt.EqAt A s u v b:=by
 induction h with
 |flat hx hy=>exact fun A u v _ rx ry=>yxj rx ry hx hy
 |same=>intro A u v _ rx ry;cases rx;cases ry;exact SeqAt.EqAt.same _
 |@tup n a b xs ys e hn h1 h2 he ih=>
  intro A u v hu rx ry
  cases rx;cases ry
  obtain ⟨us,r1,p1,_⟩:=I.tuple h1
  obtain ⟨vs,r2,p2,_⟩:=I.tuple h2
  refine SeqAt.EqAt.of_refs hn ?_
  have:=SeqAt.RcAt.tuples (s:=s) (A:=A) (e:=e) p1 p2 (by omega) (yfn (n:=n) r1 r2 fun j x y u v e1 e2 ru rv=>ih j x y e1 e2 A.in1 u v (by rw[ygb];omega) ru rv)
  have l1:=r1.length
  have l2:=r2.length
  simpa [l1,l2] using this
 |@lst n a b xs ys e hn hl h1 h2 he ih=>
  intro A u v hu rx ry
  cases rx;cases ry
  obtain ⟨us,r1,p1,_⟩:=I.list h1
  obtain ⟨vs,r2,p2,_⟩:=I.list h2
  have l1:=r1.length
  have l2:=r2.length
  refine SeqAt.EqAt.of_refs hn ?_
  have:=SeqAt.RcAt.lists (s:=s) (A:=A) (e:=e) p1.isList p2.isList (by simp;omega) (by omega) (yfn (n:=n) r1 r2 fun j x y u v e1 e2 ru rv=>ih j x y e1 e2 A.in1 u v (by rw[ygb];omega) ru rv)
  simpa [l1,l2] using this
 |@lsn n a b xs ys hl h1 h2=>
  intro A u v hu rx ry
  cases rx;cases ry
  have hn:a≠b:=fun z=>by subst z;exact hl (by rw[I.list_inj h1 h2])
  obtain ⟨us,r1,p1,_⟩:=I.list h1
  obtain ⟨vs,r2,p2,_⟩:=I.list h2
  have l1:=r1.length
  have l2:=r2.length
  refine SeqAt.EqAt.of_refs hn ?_
  exact SeqAt.RcAt.lists_lengths (s:=s) (A:=A) p1.isList p2.isList (by simp;omega) (by omega)
def yxq (K:PySem.W.Frag)(neg:Bool):R2:=fun x y H Q=>∃a b xs ys,x = .ref a∧y = .ref b∧SqL K H a xs∧SqL K H b ys∧
 ((xs.length≠ys.length∧Q (.bl neg) H)∨(xs.length=ys.length∧∃(n:Nat) (e:Nat→Bool),n≤32∧(∀j x y,xs[j]? = some x→ys[j]? = some y→EqB K H n x y (e j))∧Q (.bl (neg != (List.range xs.length).all e)) H))
def yy8 (K:PySem.W.Frag)(neg:Bool):R2:=fun x y H Q=>∃a b xs ys,x = .ref a∧y = .ref b∧SqT K H a xs∧SqT K H b ys∧
 ∃(n:Nat) (e:Nat→Bool),n≤32∧(∀j x y,xs[j]? = some x→ys[j]? = some y→EqB K H n x y (e j))∧Q (.bl (neg != ((List.range (min xs.length ys.length)).all e&&xs.length == ys.length))) H
theorem yxr (hu:X.A.units+64<cLine):OpR X (compareOp .Eq) (yxq X.K false):=by
 intro pins s σ H x y v u Q I rx ry h
 obtain ⟨a,b,xs,ys,rfl,rfl,h1,h2,h⟩:=h
 cases rx;cases ry
 obtain ⟨us,r1,p1,_⟩:=I.list h1
 obtain ⟨vs,r2,p2,_⟩:=I.list h2
 have l1:=r1.length
 have l2:=r2.length
 rcases h with ⟨hl,q⟩ | ⟨hl,n,e,hn,he,q⟩
 ·exact SeqAt.RcAt.lists_lengths (s:=s) (A:=X.A) p1.isList p2.isList (by simp;omega) (by omega) _ _ _ _ ⟨.bl _,H,I,rfl,q⟩
 ·refine SeqAt.RcAt.lists (s:=s) (A:=X.A) (e:=e) p1.isList p2.isList (by simp;omega) (by omega) (yfn (n:=n) r1 r2 fun j x y u v e1 e2 ru rv=>(he j x y e1 e2).eqAt I _ u v (by rw[ygb];omega) ru rv) _ _ _ _ ⟨.bl _,H,I,rfl,?_⟩
  simpa [l1] using q
theorem yxs (hu:X.A.units+64<cLine):OpR X (compareOp .Eq) (yy8 X.K false):=by
 intro pins s σ H x y v u Q I rx ry h
 obtain ⟨a,b,xs,ys,rfl,rfl,h1,h2,n,e,hn,he,q⟩:=h
 cases rx;cases ry
 obtain ⟨us,r1,p1,_⟩:=I.tuple h1
 obtain ⟨vs,r2,p2,_⟩:=I.tuple h2
 have l1:=r1.length
 have l2:=r2.length
 refine SeqAt.RcAt.tuples (s:=s) (A:=X.A) (e:=e) p1 p2 (by omega) (yfn (n:=n) r1 r2 fun j x y u v e1 e2 ru rv=>(he j x y e1 e2).eqAt I _ u v (by rw[ygb];omega) ru rv) _ _ _ _ ⟨.bl _,H,I,rfl,?_⟩
 simpa [l1,l2] using q
end
structure Cal (P:Program) (w:World) (K:PySem.W.Frag) (mg:Str→Option Value) (base:Heap) (CX:CXT) (k:Nat) (x:Str) (ps:List Str) (sp:Sp):Prop where
 ex:∃(f:Addr) (fd:FuncData),FnOk P w K mg base CX k f fd ps sp∧Binds K fd ps []∧PySem.W.keepIn K (.ref f)=true∧mg x=some (.ref f)
theorem yar {X:Cx}{CX:CXT}{k j:Nat}{ps:List Str}{sp:Sp}{E:XK}{x:Str}{p pos:Pos}{e:Expr}{es:List Expr}{t:TA}(F:Cal X.prog X.w X.K X.mg X.base CX k x ps sp)(hr:Room j X.A)(hg:Gl X x)(hx:yi7 CX X E)(ha:PA X (e::es) t)
 (hk:k≤j:=by decide) (hdb:(x == ("__debug__" : Str))=false:=by decide) (he:starEach (e::es) X.env=(false,eval e X.env)::starEach es X.env:=by rfl) (hpl:(backTo pos (starEach es X.env)).any (·.1)=false:=by rfl) :
 PE X (.Call (.Name x p) (e::es) [] pos) (ypl sp [] E t):=by
 obtain ⟨f,fd,h1,h2,h3,h4⟩:=F.ex
 exact yq3 (h1.mono hk) hr hg h4 h3 h2 .nil hx ha hdb he hpl
def Ite (K:PySem.W.Frag)(l:Addr):It:=
 ⟨fun i H=>∃xs x,SqL K H l xs∧xs[i]? = some x,
  fun i H v H'=>∃p x,v = .ref p∧H p=none∧H' = upd H p (.tup [.int i,x])∧∀xs,SqL K H l xs→xs[i]? = some x,
  fun i H=>∃xs,SqL K H l xs∧xs.length≤i⟩
def yy9 (e it l:Addr)(i:Nat)(h:Heap):Prop:=(∃old,IsEnum h e it i old)∧h.IsListIter it l i
theorem yrl {P:Program}{w:World}{K:PySem.W.Frag}{es:List Expr}{x1:Nat}{tp:Pos}{e it l:Addr}(ne:e≠it):Turn P w K (.Tuple es x1 tp) (Ite K l) [e,it] e (yy9 e it l) where
 mem:=by simp
 obj:=fun i h ⟨⟨old,t1⟩,t2⟩ c hc=>by
  simp only[List.mem_cons,List.not_mem_nil,or_false] at hc
  rcases hc with rfl|rfl
  ·exact⟨_,t1,fun v q=>by cases q⟩
  ·obtain ⟨o,h1,_,h3⟩:=t2;exact⟨o,h1,fun v q=>by rw[h3] at q;cases q⟩
 keep:=fun i h h' ⟨⟨old,t1⟩,t2⟩ k=>⟨⟨old,k e (by simp) _ t1⟩,Heap.IsListIter.at (h:=h) t2 fun o q=>k it (by simp) o q⟩
 item:=by
  intro X hP hw hK hc i pins s σ H E I hf st hg
  subst hP hw hK
  obtain ⟨⟨old,t1⟩,t2⟩:=st
  obtain ⟨xs,x,q1,e1⟩:=hg
  obtain ⟨us,r1,p1,_⟩:=I.list q1
  obtain ⟨u,eu,ru⟩:=r1.get e1
  refine wpAny_pyNext_enum_item t1 t2 p1.isList (x:=u) (by simpa using eu) ne fun h' a1 a2 a3 a4 a5=>?_
  refine⟨_,rfl,wpAny_letOwnedTupleGo_enum a1 fun h'' c1 c2=>?_⟩
  have nz:s.heap.objs.size≠e:=Nat.ne_of_gt (Heap.lt_size t1)
  have I1:Inv X pins σ H { s with heap:=h'',toks:=s.toks+1 }:=I.turnedL hf fun c o hc q=>by
   simp only[List.mem_cons,List.not_mem_nil,or_false,not_or] at hc
   exact c2.extBut c o hc.1 (a5 c o hc.1 hc.2 q)
  have I2:=I.trackNew (t':=s.toks+1) (o:=.tup [.int i,x]) I1 (Nat.le_refl _) ⟨by show 2≤sizeLine;decide,[.int i s.toks,u],.cons ⟨_,rfl⟩ (.cons ru .nil),⟨_,c2.extBut _ _ nz a3,rfl,_,rfl⟩⟩
  have fr:H s.heap.objs.size=none:=I.hok.fresh (Nat.le_refl _)
  refine⟨.ref s.heap.objs.size,_,I2,rfl,⟨s.heap.objs.size,x,rfl,fr,rfl,fun xs' q1'=>by rw[I.list_inj q1' q1];exact e1⟩,⟨⟨_,c1⟩,Heap.IsListIter.at (h:=h') a2 fun o q=>c2.extBut it o (Ne.symm ne) q⟩,fun c hc=>?_⟩
  obtain ⟨o,eo⟩ : ∃o,s.heap.get? c=some o:=by
   simp only[List.mem_cons,List.not_mem_nil,or_false] at hc
   rcases hc with rfl|rfl
   ·exact⟨_,t1⟩
   ·obtain ⟨o,h1,_⟩:=t2;exact⟨o,h1⟩
  rw[yal (Nat.ne_of_lt (Heap.lt_size eo))]
  exact(hf c hc).1
 done:=by
  intro X hP hw hK hc i pins s σ H E I hf st hg
  subst hP hw hK
  obtain ⟨⟨old,t1⟩,t2⟩:=st
  obtain ⟨xs,q1,hl⟩:=hg
  obtain ⟨us,r1,p1,_⟩:=I.list q1
  have n1:=r1.length
  refine wpAny_pyNext_enum_end (I.ok.hd hc) t1 t2 p1.isList (by simp;omega) fun h' kk=>⟨rfl,I.turnedL (t':=s.toks) hf fun c o hc q=>?_⟩
  simp only[List.mem_cons,List.not_mem_nil,or_false,not_or] at hc
  exact kk c o hc.2 q
 self:=fun _ _ _ _ _ st h=>by
  obtain ⟨⟨old,t1⟩,_⟩:=st
  exact wpAny_pyIter_enum t1 h
section
variable {X:Cx}{es:List Expr}{x1:Nat}{tp:Pos}
def zaf (K:PySem.W.Frag)(ta:TA):TI:=fun σ H R=>ta σ H fun vs H1=>∃l xs,vs=[.ref l]∧SqL K H1 l xs∧R (Ite K l) H1
theorem ym6 {a:Expr}{ta:TA}{p pos:Pos} (hg:Gl X "enumerate") (hm:X.mg "enumerate" = none) (ha:PA X [a] ta) (hs:starEach [a] X.env=[(false,eval a X.env)]:=by rfl) :
 PI X (.Tuple es x1 tp) (.Call (.Name "enumerate" p) [a] [] pos) (zaf X.K ta):=by
 intro pins s σ H R I h
 refine Call_ (yhs I hg hm boot_enumerate (PyProof.Rows.callWith_type1 (thn (ha pos pins s σ H _ I h) fun us s1 ⟨vs,H1,I1,r1,q1⟩=>?_) hs rfl))
 obtain ⟨l,xs,rfl,q1,q⟩:=q1
 cases r1 with
 |cons r rr=>
  cases rr
  cases r
  obtain ⟨us1,_,p1,_⟩:=I1.list q1
  refine call_enumerate_list p1.isList fun h' a1 a2 _ kk=>?_
  refine wpAny_pyIter_enum a1 ?_
  have I2:Inv X pins σ H1 { s1 with heap:=h',toks:=s1.toks }:=I1.kept kk
  refine⟨_,[s1.heap.objs.size+1,s1.heap.objs.size],_,_,H1,rfl,I2,yrl (Nat.succ_ne_self _),⟨⟨_,a1⟩,a2⟩,fun c hc=>?_,q⟩
  have hge:s1.heap.objs.size≤c:=by
   simp only[List.mem_cons,List.not_mem_nil,or_false] at hc
   rcases hc with rfl|rfl <;> omega
  exact I1.fpOk (H':=H1) hge (I1.hok.fresh hge)
theorem yoj {K:PySem.W.Frag}{a:Addr}{xs:List V}{g:TG}{tb:TS}{D:Ends}{σ:St}{H:Hp}(Pv:Nat→St→Hp→Prop)(h0:Pv 0 σ H)(hl:∀i σ H,i≤xs.length→Pv i σ H→SqL K H a xs)
 (hs:∀i x σ H p,xs[i]? = some x→Pv i σ H→H p=none→g (.ref p) σ (upd H p (.tup [.int i,x])) fun σ2 H2=>tb { D with nx:=Pv (i+1),ct:=Pv (i+1),bk:=D.nx } σ2 H2) (hd:∀σ H,Pv xs.length σ H→D.nx σ H) :
 ∃W:Nat→Nat→St→Hp→Prop,(∃m,W 0 m σ H)∧∀i m σ H,W i m σ H→
  ((Ite K a).stop i H∧D.nx σ H)∨((Ite K a).go i H∧∃N:St→Hp→Prop,(∀σ' H',N σ' H'→∃m',m' < m∧W (i+1) m' σ' H')∧∀x H',(Ite K a).yld i H x H'→g x σ H' fun σ2 H2=>tb { D with nx:=N,ct:=N,bk:=D.nx } σ2 H2):=by
 refine⟨fun i m σ H=>m=xs.length-i∧i≤xs.length∧Pv i σ H,⟨xs.length,by simp,Nat.zero_le _,h0⟩,?_⟩
 rintro i m σ H ⟨rfl,hi,p⟩
 have q:=hl i σ H hi p
 by_cases hlt:i<xs.length
 ·refine .inr ⟨⟨xs,xs[i],q,by simp [hlt]⟩,Pv (i+1),fun σ' H' p'=>⟨xs.length-(i+1),by omega,rfl,hlt,p'⟩,fun x H' y=>?_⟩
  obtain ⟨c,x',rfl,hc,rfl,y⟩:=y
  exact hs i x' σ _ c (y xs q) p hc
 ·have e:i=xs.length:=by omega
  subst e
  exact .inl ⟨⟨xs,q,Nat.le_refl _⟩,hd σ H p⟩
end
def yok (scope D:Scope):List (Str×NameKind):=scope.names.map fun (n,k)=>if (k == .free&&D.kind == .function&&D.names.lookup n == some .cell) then (n,.cell) else (n,k)
def yvc (N N':List Str)(ix:List (Option Nat))(scope D:Scope):Bool:=
 (scope.kind == .function)&&(scope.names.all fun y=>(y.2 == .local&&scope.names.lookup y.1 == some .local) || (y.2 == .free&&D.names.lookup y.1 == some .cell) || (y.2 != .local&&y.2 != .free&&y.2 != .cell))&&decide N'.Nodup&&(ix.length == N'.length) &&
 ((List.range N'.length).all fun k=>match ix[k]?,N'[k]? with
  |some (some j),some x=>N[j]? == some x&&scope.names.contains (x,.free)&&(yok scope D).lookup x == some .cell
  |_,_=>true)
theorem yax {X:Cx}{N':List Str}{ix:List (Option Nat)}{scope:Scope}{N:List Str}{D:Scope}(h:yvc N N' ix scope D=true)(hN:X.N=N:=by rfl)(hD:X.env.scope=D:=by rfl):CompScope X N' ix scope:=by
 unfold yvc at h
 simp only[Bool.and_eq_true,decide_eq_true_eq] at h
 obtain ⟨⟨⟨⟨h1,h2⟩,h3⟩,h4⟩,h5⟩:=h
 have hall:=List.all_eq_true.mp h2
 refine⟨by simpa using h1,fun y hy=>?_,fun y hy e=>?_,h3,by simpa using h4,fun y hy e=>?_,fun k j x e1 e2=>?_⟩
 ·have:=hall y hy
  intro z
  rw[z] at this
  simp at this
 ·have:=hall y hy
  rw[e] at this
  simpa using this
 ·have:=hall y hy
  rw[e] at this
  have q:D.names.lookup y.1=some .cell:=by simpa using this
  show X.env.scope.names.lookup y.1=some .cell
  rw[hD];exact q
 ·have hk:k<N'.length:=(List.getElem?_eq_some_iff.mp e1).1
  have:=List.all_eq_true.mp h5 k (List.mem_range.mpr hk)
  rw[e1,e2] at this
  simp only[Bool.and_eq_true,beq_iff_eq] at this
  obtain ⟨⟨a1,a2⟩,a3⟩:=this
  refine⟨by rw[hN];exact a1,by simpa using a2,?_⟩
  show (yok scope X.env.scope).lookup x=some .cell
  rw[hD];exact a3
section
variable {X:Cx}
end
section
variable {K:PySem.W.Frag}{c d:Addr}{b:Bool}{v:Value}
end
theorem Fun.okE {P:Program}{w:World}{K:PySem.W.Frag}{mg:Str→Option Value}{base:Heap}{x qual:Str}{st:Stmt}{f:Addr}{fd:FuncData}{N ps:List Str}{k:Nat}{sp:Sp}(F:Fun K x qual st f fd)(S:FnScope N ps (yab st))
 (len:∀vs H Q E,sp vs H Q E→vs.length=ps.length)
 (hbody:∀(cdv:Value) (A:Around) (outer:List Env) (s:Shared) (H:Hp) (vs:List V) (Q:VK) (E:XK),Room k (A.deeper (envOfC qual (yab st) s.heap.objs.size f cdv))→sp vs H Q E→
  ∃t,PSs (yql (CXE P w) P w K mg base N qual (yab st) f cdv A outer s H E) (yap st) t∧t { nx:=fun _ H'=>Q .non H',rt:=Q } (yiw N vs) H):FnOk P w K mg base (CXE P w) (k+1) f fd ps sp:=by
 obtain ⟨oc,od,kV,doc,pm,an,cdv,ct,osl,rfl,lk,hcd⟩:=F.ex
 exact yvu lk hcd S len fun A outer s H vs Q E hr hsp=>hbody cdv A outer s H vs Q E hr hsp
theorem ygw {t u:TS}{D:Ends}{σ:St}{H:Hp}(R:St→Hp→Prop)(h1:∀D':Ends,(∀σ' H',R σ' H'→D'.nx σ' H')→D'.rt=D.rt→t D' σ H)(h2:∀σ' H',R σ' H'→u D σ' H'):yyy t u D σ H:=h1 { D with nx:=u D } h2 rfl
structure Bn (mg:Str→Option Value):Prop where
 len:mg "len" = none
 list:mg "list" = none
 isi:mg "isinstance" = none
 bool:mg "bool" = none
 int:mg "int" = none
 str:mg "str" = none
 tuple:mg "tuple" = none
 all:mg "all" = none
 any:mg "any" = none
 zip:mg "zip" = none
 range:mg "range" = none
 max:mg "max" = none
 min:mg "min" = none
 enumerate:mg "enumerate" = none
 sum:mg "sum" = none
 sorted:mg "sorted" = none
 verr:mg "ValueError" = none
def KeepBut (a:Addr)(H H':Hp):Prop:=∀b o,b≠a→H b=some o→H' b=some o
theorem KeepBut.refl {a:Addr}{H:Hp}:KeepBut a H H:=fun _ _ _ h=>h
theorem KeepBut.trans {a:Addr}{H H1 H2:Hp}(x:KeepBut a H H1)(y:KeepBut a H1 H2):KeepBut a H H2:=fun b o n h=>y b o n (x b o n h)
theorem KeepBut.upd {a:Addr}{H H1:Hp}{o:HO}(x:KeepBut a H H1):KeepBut a H (L2.upd H1 a o):=fun b u n h=>by rw[yal n];exact x b u n h
theorem KeepBut.new {a p:Addr}{H H1:Hp}{o:HO}(x:KeepBut a H H1)(hp:H1 p=none):KeepBut a H (L2.upd H1 p o):=fun b u n h=>by
 have:=x b u n h
 rw[yal (yaj this hp)];exact this
theorem KeepBut.young {a p:Addr}{H H1:Hp}{o:HO}(x:KeepBut a H H1)(hp:H p=none):KeepBut a H (L2.upd H1 p o):=fun b u n h=>by
 rw[yal (yaj h hp)];exact x b u n h
theorem KeepBut.none {a p:Addr}{H H':Hp}(k:KeepBut a H H')(n:p≠a)(h:H' p=Option.none):H p=Option.none:=by
 cases q:H p with
 |none=>rfl
 |some o=>rw[k p o n q] at h;cases h
theorem Same.young {p:Addr}{H H1:Hp}{o:HO}(x:Same H H1)(hp:H p=none):Same H (L2.upd H1 p o):=fun b u h=>by
 rw[yal (yaj h hp)];exact x b u h
def yzs (H:Hp)(a c:Addr)(ns:List Int)(i x y z:Int):Prop:=H a=some (.lst [.ref c,.int i,.int x,.int y,.int z])∧H c=some (.lst (ns.map V.int))∧c≠a∧0≤i∧0≤y∧y<1000000007
def DrawAt (H:Hp)(a c:Addr):Prop:=∃ns i x y z,yzs H a c ns i x y z
theorem DrawAt.new {H:Hp}{a c p:Addr}{o:HO}(d:DrawAt H a c)(hp:H p=none):DrawAt (L2.upd H p o) a c:=by
 obtain ⟨ns,i,x,y,z,h1,h2,r⟩:=d
 exact⟨ns,i,x,y,z,by rw[yal (yaj h1 hp)];exact h1,by rw[yal (yaj h2 hp)];exact h2,r⟩
theorem DrawAt.upd {H:Hp}{a c p:Addr}{o:HO}(d:DrawAt H a c)(na:p≠a)(nc:p≠c):DrawAt (L2.upd H p o) a c:=by
 obtain ⟨ns,i,x,y,z,h1,h2,r⟩:=d
 exact⟨ns,i,x,y,z,by rw[yal na.symm];exact h1,by rw[yal nc.symm];exact h2,r⟩
theorem DrawAt.there {H:Hp}{a c:Addr}(d:DrawAt H a c):∃o,H a=some o:=by
 obtain ⟨ns,i,x,y,z,h1,_⟩:=d
 exact⟨_,h1⟩
theorem DrawAt.ne {H:Hp}{a c p:Addr}(d:DrawAt H a c)(hp:H p=none):p≠a:=by
 obtain ⟨o,e⟩:=d.there
 exact(yaj e hp).symm
theorem DrawAt.nc {H:Hp}{a c p:Addr}(d:DrawAt H a c)(hp:H p=none):p≠c:=by
 obtain ⟨ns,i,x,y,z,_,h2,_⟩:=d
 exact(yaj h2 hp).symm
theorem DrawAt.neT {H:Hp}{a c p:Addr}{xs:List V}(d:DrawAt H a c)(hp:H p=some (.tup xs)):p≠a:=by
 obtain ⟨_,_,_,_,_,h,_⟩:=d
 exact ymz hp h (by intro z;cases z)
def ym7 (K:PySem.W.Frag):Sp:=fun vs H Q _=>∃(a:Addr) (ns:List Int),vs=[.ref a]∧SqL K H a (ns.map V.int)∧ns.length≤63∧∀l c H',H l=none→H c=none→Same H H'→DrawAt H' l c→Q (.ref l) H'
def yol:Sp:=fun vs H Q _=>∃(a c:Addr) (m:Int),vs=[.ref a,.int m]∧DrawAt H a c∧0<m∧m<18446744073709551616∧∀r H',0≤r→r<m→DrawAt H' a c→KeepBut a H H'→Q (.int r) H'
def yrm:Sp:=fun vs H Q _=>∃a c:Addr,vs=[.ref a]∧DrawAt H a c∧∀r H',0≤r→r≤400→DrawAt H' a c→KeepBut a H H'→Q (.int r) H'
theorem ytq (ns:List Int)(lo hi:Option Int):∃ms:List Int,yk1 (ns.map V.int) lo hi=ms.map V.int∧ms.length≤ns.length:=by
 unfold yk1
 rw[← List.map_drop,← List.map_take]
 exact⟨_,rfl,by rw[List.length_take,List.length_drop];omega⟩
theorem yj6 {xs:List V}{r:Int}{v:V}(h0:0≤r)(h:xs[r.toNat]? = some v):atI xs r=some v:=by
 have:=ydy (xs:=xs) (j:=r.toNat) (v:=v) h
 rw[show ((r.toNat:Nat):Int)=r by omega] at this
 exact this
def Rows (H:Hp)(a:Addr)(rs:List (List Int)):Prop:=∃ps:List Addr,H a=some (.lst (ps.map V.ref))∧ps.length=rs.length∧∀(i:Nat) p r,ps[i]? = some p→rs[i]? = some r→H p=some (.tup (r.map V.int))
theorem Rows.same {H H':Hp}{a:Addr}{rs:List (List Int)}(h:Rows H a rs)(s:Same H H'):Rows H' a rs:=by
 obtain ⟨ps,h1,h2,h3⟩:=h
 exact⟨ps,s _ _ h1,h2,fun i p r e1 e2=>s _ _ (h3 i p r e1 e2)⟩
theorem Rows.keep {H H':Hp}{a l c:Addr}{rs:List (List Int)}(h:Rows H a rs)(n:a≠l)(d:DrawAt H l c)(k:KeepBut l H H'):Rows H' a rs:=by
 obtain ⟨ps,h1,h2,h3⟩:=h
 exact⟨ps,k _ _ n h1,h2,fun i p r e1 e2=>k _ _ (d.neT (h3 i p r e1 e2)) (h3 i p r e1 e2)⟩
theorem Rows.there {H:Hp}{a:Addr}{rs:List (List Int)}(h:Rows H a rs):∃o,H a=some o:=by
 obtain ⟨ps,h1,_⟩:=h
 exact⟨_,h1⟩
theorem Rows.get {H:Hp}{a:Addr}{rs:List (List Int)}(h:Rows H a rs):∃xs:List V,H a=some (.lst xs)∧xs.length=rs.length∧∀(i:Nat) x,xs[i]? = some x→∃p r,x = .ref p∧rs[i]? = some r∧H p=some (.tup (r.map V.int)):=by
 obtain ⟨ps,h1,h2,h3⟩:=h
 refine⟨_,h1,by rw[List.length_map,h2],fun i x e=>?_⟩
 rw[List.getElem?_map] at e
 cases q:ps[i]? with
 |none=>rw[q] at e;cases e
 |some p=>
  rw[q] at e
  have hi:=(List.getElem?_eq_some_iff.mp q).1
  have hr:rs[i]? = some (rs[i]'(by omega)):=List.getElem?_eq_getElem (by omega)
  exact⟨p,_,(Option.some.inj e).symm,hr,h3 i p _ q hr⟩
theorem Rows.push {H:Hp}{a p:Addr}{rs:List (List Int)}{xs:List V}{r:List Int}(h:Rows H a rs)(hx:H a=some (.lst xs))(hp:H p=none):Rows (L2.upd (L2.upd H p (.tup (r.map V.int))) a (.lst (xs++[.ref p]))) a (rs++[r]):=by
 obtain ⟨ps,h1,h2,h3⟩:=h
 rw[hx] at h1
 cases h1
 refine⟨ps++[p],by rw[yaa,List.map_append];rfl,by rw[List.length_append,List.length_append,h2];rfl,fun i q r' e1 e2=>?_⟩
 by_cases hi:i<ps.length
 ·rw[List.getElem?_append_left hi] at e1
  rw[List.getElem?_append_left (by omega)] at e2
  have:=h3 i q r' e1 e2
  rw[yal (ymz this hx (by intro z;cases z)),yal (yaj this hp)]
  exact this
 ·have hi':i=ps.length:=by
   have:=(List.getElem?_eq_some_iff.mp e1).1
   rw[List.length_append,List.length_singleton] at this
   omega
  subst hi'
  rw[List.getElem?_append_right (Nat.le_refl _),Nat.sub_self] at e1
  rw[h2,List.getElem?_append_right (Nat.le_refl _),Nat.sub_self] at e2
  cases e1
  cases e2
  rw[yal (yaj hx hp).symm,yaa]
theorem Rows.nil {H:Hp}{a:Addr}(h:H a=some (.lst [])):Rows H a []:=⟨[],h,rfl,fun i p r e=>by cases e⟩
def LotIn (lo n sc:Int)(r:List Int):Prop:=∃d c u:Int,r=[d,c,u]∧lo≤d∧d<lo+n∧1≤c∧c≤sc∧1≤u∧u≤1000000
def OutIn (lo n sc:Int)(r:List Int):Prop:=∃d c:Int,r=[d,c]∧lo≤d∧d<lo+n∧1≤c∧c≤sc
def yrn:Sp:=fun vs H Q _=>∃a c:Addr,vs=[.ref a]∧DrawAt H a c∧∀p lo n H',H p=none→1≤lo→6≤n→lo+n≤1000→DrawAt H' a c→KeepBut a H H'→H' p=some (.tup [.int lo,.int n])→Q (.ref p) H'
def yro:Sp:=fun vs H Q _=>∃(a c p:Addr) (m lo n sc:Int),vs=[.ref a,.int m,.ref p,.int sc]∧DrawAt H a c∧0≤m∧m≤900∧H p=some (.tup [.int lo,.int n])∧1≤n∧n≤999∧1≤sc∧sc≤10000000000∧
 ∀l rs H',H l=none→(∀r∈rs,LotIn lo n sc r)→(rs.length:Int)≤m→DrawAt H' a c→KeepBut a H H'→Rows H' l rs→Q (.ref l) H'
def yrp:Sp:=fun vs H Q _=>∃(a c p:Addr) (m lo n sc:Int),vs=[.ref a,.int m,.ref p,.int sc]∧DrawAt H a c∧0≤m∧m≤900∧H p=some (.tup [.int lo,.int n])∧1≤n∧n≤999∧1≤sc∧sc≤10000000000∧
 ∀l rs H',H l=none→(∀r∈rs,OutIn lo n sc r)→(rs.length:Int)≤m→DrawAt H' a c→KeepBut a H H'→Rows H' l rs→Q (.ref l) H'
def yrq:Sp:=fun vs H Q _=>∃(a c:Addr) (m:Int),vs=[.ref a,.int m]∧DrawAt H a c∧0≤m∧m≤900∧
 ∀(q l o:Addr) (tm lo n sc:Int) ls os H',H l=none→H o=none→l≠o→0≤tm→tm≤400→1≤lo→6≤n→lo+n≤1000→1≤sc→sc≤10000000000→(∀r∈ls,LotIn lo n sc r)→(∀r∈os,OutIn lo n sc r)→(ls.length:Int)≤m→(os.length:Int)≤m→
  DrawAt H' a c→KeepBut a H H'→Rows H' l ls→Rows H' o os→H' q=some (.tup [.ref l,.ref o,.int tm])→Q (.ref q) H'
end L2
namespace K16
open PySem L2
def top (i:Nat):Stmt:=PySem.Challenge.pw_drawback_k16_papers_that_are_told.main.body.getD i (.Pass ⟨0,0,0,0⟩)
abbrev ygx:Stmt:=top 41
abbrev yv0:List Str:=["_law_script"]
abbrev yhx:List Str:=["_law_script"]
theorem ytr:FnScope yv0 yhx (yab ygx):=⟨rfl,rfl,rfl,by decide +kernel,rfl,by decide +kernel,by decide +kernel⟩
abbrev yjd:Stmt:=top 42
abbrev yxt:List Str:=["_law_draw","_law_many","_law_cell","_law_got"]
abbrev yje:List Str:=["_law_draw","_law_many"]
theorem sc_pick:FnScope yxt yje (yab yjd):=⟨rfl,rfl,rfl,by decide +kernel,rfl,by decide +kernel,by decide +kernel⟩
abbrev yjf:Stmt:=top 43
abbrev yxu:List Str:=["_law_draw","_law_span_here"]
abbrev ylm:List Str:=["_law_draw"]
theorem sc_span:FnScope yxu ylm (yab yjf):=⟨rfl,rfl,rfl,by decide +kernel,rfl,by decide +kernel,by decide +kernel⟩
abbrev ydb:Stmt:=top 44
abbrev ym8:List Str:=["_law_draw"]
abbrev yd6:List Str:=["_law_draw"]
theorem yln:FnScope ym8 yd6 (yab ydb):=⟨rfl,rfl,rfl,by decide +kernel,rfl,by decide +kernel,by decide +kernel⟩
abbrev ydc:Stmt:=top 45
abbrev ym9:List Str:=["_law_draw","_law_most_here","_law_days","_law_scale","_law_dear","_law_found","_law_k","_law_day","_law_count"]
abbrev yd7:List Str:=["_law_draw","_law_most_here","_law_days","_law_scale"]
theorem sc_some_lots:FnScope ym9 yd7 (yab ydc):=⟨rfl,rfl,rfl,by decide +kernel,rfl,by decide +kernel,by decide +kernel⟩
abbrev ydd:Stmt:=top 46
abbrev yna:List Str:=["_law_draw","_law_most_here","_law_days","_law_scale","_law_found","_law_k","_law_day"]
abbrev yd8:List Str:=["_law_draw","_law_most_here","_law_days","_law_scale"]
theorem sc_some_outs:FnScope yna yd8 (yab ydd):=⟨rfl,rfl,rfl,by decide +kernel,rfl,by decide +kernel,by decide +kernel⟩
abbrev yjg:Stmt:=top 47
abbrev yxv:List Str:=["_law_draw","_law_most_here","_law_days","_law_term","_law_scale","_law_lots"]
abbrev ylo:List Str:=["_law_draw","_law_most_here"]
theorem sc_case:FnScope yxv ylo (yab yjg):=⟨rfl,rfl,rfl,by decide +kernel,rfl,by decide +kernel,by decide +kernel⟩
section
variable {P:Program}{w:World}{K:PySem.W.Frag}{mg:Str→Option Value}{base:Heap}{f:Addr}{fd:FuncData}
theorem yts (F:Fun K "_law_begin" "_law_begin" ygx f fd) (B:Bn mg):FnOk P w K mg base CX0 1 f fd yhx (ym7 K):=by
 refine F.ok ytr (fun vs H Q E h=>?_) (fun cdv A outer s H vs Q E hr h=>?_)
 ·obtain ⟨a,ns,rfl,_⟩:=h;rfl
 obtain ⟨a,ns,rfl,hS,hl,q⟩:=h
 refine⟨_,(yak (ya2 (yd5 (yam (ycg yei rfl B.list PyProof.Rows.boot_list (yam (ye3 ygt (pv 0) yfz (yf0 yag)) yae)) (yam yag (yam yag (yam yag (yam yag yae)))))))),?_⟩
 refine⟨_,rfl,_,rfl,a,_,rfl,hS,fun p hp=>?_⟩
 obtain ⟨ms,em,hm⟩:=ytq ns none (some 63)
 refine⟨p,_,rfl,.inl (SqL.of yaa),fun c hc=>?_⟩
 refine⟨by show 5≤sizeLine;decide,fun l hl'=>?_⟩
 have s1:Same H (L2.upd H p (.lst (yk1 (ns.map V.int) none (some 63)))):=yac hp _
 have s2:=s1.trans (yac hc (.lst (yk1 (ns.map V.int) none (some 63))))
 have s3:=s2.trans (yac hl' (.lst [.ref c,.int 0,.int 0,.int 1,.int 0]))
 have ncl:c≠l:=yaj (yaa (H:=L2.upd H p _) (o:=.lst (yk1 (ns.map V.int) none (some 63)))) hl'
 refine q l c _ (s2.free hl') (s1.free hc) s3 ⟨ms,0,0,1,0,yaa,?_,ncl,by decide,by decide,by decide⟩
 rw[yal ncl,yaa,em]
theorem yv1 (F:Fun K "_law_pick" "_law_pick" yjd f fd) (B:Bn mg):FnOk P w K mg base CX0 1 f fd yje yol:=by
 refine F.ok sc_pick (fun vs H Q E h=>?_) (fun cdv A outer s H vs Q E hr h=>?_)
 ·obtain ⟨a,c,m,rfl,_⟩:=h;rfl
 obtain ⟨a,c,m,rfl,⟨ns,i,x,y,z,d1,d2,nca,hi,hy,hy2⟩,hm,hm2,q⟩:=h
 refine⟨_,(yaf (yeg (PW.pt (yk5 (ya5 yqx (ya3 ya0 (pv 0) yag (fun _ _=>rfl)) (pv 1) (yba _)) (yj1 (ya5 yqx (ya3 ya0 (pv 0) yag (fun _ _=>rfl)) (yao ybm rfl B.len PySem.boot_len (yam (ya3 ya0 (pv 0) yag (fun _ _=>rfl)) yae)) (yba _))))) (yaf (yat (i:=2) sc_pick.nd rfl (Or.inl rfl) (ya3 ya0 (ya3 ya0 (pv 0) yag (fun _ _=>rfl)) (ya3 ya0 (pv 0) yag (fun _ _=>rfl)) (fun _ _=>rfl)))
  (yaf (yc7 (ybb yb3 (ya3 ya0 (pv 0) yag (fun _ _=>rfl)) yag) (yfu (pv 0) yag ydr))
  (yaf (yc7 yag (yfu (pv 0) yag ydr))
  (yak (yeg (ya5 ypi (pv 2) (ybb yoc yag yag) (yba _)) (yak (yc7 (pv 2) (yfu (pv 0) yag ydr))) (yak (yc7 (ybb yk7 (ybb yb3 (ya3 ya0 (pv 0) yag (fun _ _=>rfl)) (pv 2)) yag) (yfu (pv 0) yag ydr)))))))) ybr)
  (yaf (yeg (ya5 ypi (ya3 ya0 (pv 0) yag (fun _ _=>rfl)) (pv 1) (yba _)) (yaf (yat (i:=3) sc_pick.nd rfl (Or.inl rfl) (ybb yk7 (ya3 ya0 (pv 0) yag (fun _ _=>rfl)) (pv 1)))
   (yaf (yc7 (ybb yj5 (ya3 ya0 (pv 0) yag (fun _ _=>rfl)) (pv 1)) (yfu (pv 0) yag ydr))
   (yak (ya2 (pv 3))))) ybr)
  (yaf (yc7 (ybb yb3 (ya3 ya0 (pv 0) yag (fun _ _=>rfl)) yag) (yfu (pv 0) yag ydr))
  (yaf (yc7 (ybb yk7 (ybb yb3 (ybb yb3 (ybb yoc (ya3 ya0 (pv 0) yag (fun _ _=>rfl)) yag) (ybb yu3 yag (ya3 ya0 (pv 0) yag (fun _ _=>rfl)))) yag) yag) (yfu (pv 0) yag ydr))
  (yak (ya2 (ybb yk7 (ybb yj5 (ya3 ya0 (pv 0) yag (fun _ _=>rfl)) yag) (pv 1)))))))),?_⟩
 refine(show ∀(u:TS),(∀(cv:Option V) (H1:Hp) (i x y z:Int),yzs H1 a c ns i x y z→KeepBut a H H1→u { nx:=fun _ H'=>Q .non H',rt:=Q } [some (.ref a),some (.int m),cv,none] H1)→yyy _ u _ _ _ from fun u hu=>?_) _ ?_
 ·-- if draw[2]<many and draw[1]<len(draw[0])
  refine⟨_,rfl,a,_,_,.int x,rfl,rfl,SqL.of d1,rfl,_,rfl,_,_,rfl,rfl,_,rfl,?_⟩
  by_cases c1:x<m
  ·rw[decide_eq_true c1]
   refine yem ⟨_,rfl,a,_,_,.int i,rfl,rfl,SqL.of d1,rfl,_,rfl,a,_,_,.ref c,rfl,rfl,SqL.of d1,rfl,c,_,rfl,.inl (SqL.of d2),_,_,rfl,rfl,_,rfl,?_⟩
   rw[List.length_map]
   by_cases c2:i<(ns.length:Int)
   ·rw[decide_eq_true c2]
    have hk:i.toNat<ns.length:=by omega
    have ei:((i.toNat:Nat):Int)=i:=by omega
    have eat:atI (ns.map V.int) i=some (.int ns[i.toNat]):=by
     have:=ydy (xs:=ns.map V.int) (j:=i.toNat) (v:=.int ns[i.toNat]) (by rw[List.getElem?_map,List.getElem?_eq_getElem hk];rfl)
     rw[ei] at this;exact this
    refine yem ⟨_,rfl,a,_,_,.ref c,rfl,rfl,SqL.of d1,rfl,_,rfl,a,_,_,.int i,rfl,rfl,SqL.of d1,rfl,c,_,_,.int ns[i.toNat],rfl,rfl,SqL.of d2,eat,?_⟩
    generalize ns[i.toNat]=v
    refine⟨_,rfl,a,_,_,.int i,rfl,rfl,SqL.of d1,rfl,_,_,rfl,rfl,_,rfl,a,_,_,1,rfl,rfl,d1,rfl,?_⟩
    refine⟨_,rfl,a,_,_,2,rfl,rfl,yaa,rfl,?_⟩
    rw[yjz]
    have e2:L2.upd H a (.lst [.ref c,.int (i+1),.int 0,.int y,.int z]) c=some (.lst (ns.map V.int)):=by rw[yal nca];exact d2
    refine⟨_,rfl,_,_,rfl,rfl,⟨by decide,by decide,by decide⟩,_,_,rfl,rfl,_,rfl,?_⟩
    refine yxm (fun _=>?_) (fun _=>?_)
    ·refine⟨_,rfl,_,rfl,a,_,_,2,rfl,rfl,yaa,rfl,?_⟩
     rw[yjz]
     exact hu _ _ (i+1) v y z ⟨yaa,by rw[yal nca];exact d2,nca,by omega,hy,hy2⟩ KeepBut.refl.upd
    ·refine⟨_,rfl,a,_,_,.int y,rfl,rfl,SqL.of yaa,rfl,_,rfl,_,_,rfl,rfl,_,_,rfl,rfl,(by show (0:Int)<1000000007;decide),_,rfl,a,_,_,3,rfl,rfl,yaa,rfl,?_⟩
     rw[yjz]
     exact hu _ _ (i+1) 0 ((y+v) % 1000000007) z ⟨yaa,by rw[yal nca];exact d2,nca,by omega,by omega,by omega⟩ KeepBut.refl.upd
   ·rw[decide_eq_false c2]
    exact ycd (hu _ H i x y z ⟨d1,d2,nca,hi,hy,hy2⟩ KeepBut.refl)
  ·rw[decide_eq_false c1]
   exact ycd (ycd (hu _ H i x y z ⟨d1,d2,nca,hi,hy,hy2⟩ KeepBut.refl))
 ·-- the rest
  clear d1 d2 hi hy hy2 i x y z
  rintro cv H1 i x y z ⟨d1,d2,_,hi,hy,hy2⟩ kb
  refine⟨_,rfl,a,_,_,.int x,rfl,rfl,SqL.of d1,rfl,_,rfl,_,_,rfl,rfl,_,rfl,?_⟩
  by_cases c1:m≤x
  ·rw[decide_eq_true c1]
   refine yem ⟨_,rfl,a,_,_,.int x,rfl,rfl,SqL.of d1,rfl,_,rfl,_,_,rfl,rfl,hm,?_⟩
   refine⟨_,rfl,a,_,_,.int x,rfl,rfl,SqL.of d1,rfl,_,rfl,_,_,rfl,rfl,⟨hm,hm2⟩,_,rfl,a,_,_,2,rfl,rfl,d1,rfl,?_⟩
   refine⟨_,rfl,?_⟩
   exact q _ _ (Int.emod_nonneg _ (by omega)) (Int.emod_lt_of_pos _ hm) ⟨ns,i,x / m,y,z,yaa,by rw[yal nca];exact d2,nca,hi,hy,hy2⟩ kb.upd
  ·rw[decide_eq_false c1]
   refine ycd ?_
   refine⟨_,rfl,a,_,_,.int z,rfl,rfl,SqL.of d1,rfl,_,_,rfl,rfl,_,rfl,a,_,_,4,rfl,rfl,d1,rfl,?_⟩
   refine⟨_,rfl,a,_,_,.int y,rfl,rfl,SqL.of yaa,rfl,_,_,rfl,rfl,⟨by decide,by decide,by omega⟩,_,rfl,a,_,_,.int (z+1),rfl,rfl,SqL.of yaa,rfl,_,_,rfl,rfl,.inl ⟨by decide,by decide⟩,_,_,rfl,rfl,_,_,rfl,rfl,_,_,rfl,rfl,(by show (0:Int)<1000000007;decide),_,rfl,a,_,_,3,rfl,rfl,yaa,rfl,?_⟩
   rw[yjz]
   have hy4:0≤(y ^ (3:Int).toNat+40503*(z+1)+17) % 1000000007∧(y ^ (3:Int).toNat+40503*(z+1)+17) % 1000000007<1000000007:=⟨Int.emod_nonneg _ (by decide),Int.emod_lt_of_pos _ (by decide)⟩
   refine⟨_,rfl,a,_,_,.int ((y ^ (3:Int).toNat+40503*(z+1)+17) % 1000000007),rfl,rfl,SqL.of yaa,rfl,_,_,rfl,rfl,⟨by decide,by decide⟩,_,rfl,_,_,rfl,rfl,hm,?_⟩
   exact q _ _ (Int.emod_nonneg _ (by omega)) (Int.emod_lt_of_pos _ hm) ⟨ns,i,x,(y ^ (3:Int).toNat+40503*(z+1)+17) % 1000000007,z+1,yaa,by rw[yal nca];exact d2,nca,hi,hy4.1,hy4.2⟩ kb.upd
variable (B:Bn mg) (G_pick:Cal P w K mg base CX0 1 "_law_pick" yje yol)
include B G_pick
theorem ylp (F:Fun K "_law_some_term" "_law_some_term" ydb f fd):FnOk P w K mg base CX0 2 f fd yd6 yrm:=by
 refine F.ok yln (fun vs H Q E h=>?_) (fun cdv A outer s H vs Q E hr h=>?_)
 ·obtain ⟨a,c,rfl,_⟩:=h;rfl
 obtain ⟨a,c,rfl,d,q⟩:=h
 refine⟨_,(yak (ya2 (ya3 ybg (ybf (yam yag (yam yag (yam yag (yam (yar G_pick hr rfl ybe (yam (pv 0) (yam yag yae))) (yam (yar G_pick hr rfl ybe (yam (pv 0) (yam yag yae))) (yam yag yae))))))) (yar G_pick hr rfl ybe (yam (pv 0) (yam yag yae))) (fun _ _=>rfl)))),?_⟩
 refine⟨_,rfl,a,c,12,rfl,d,by decide,by decide,fun r1 H1 a1 c1 d1 kb1=>?_⟩
 refine⟨_,rfl,a,c,60,rfl,d1,by decide,by decide,fun r2 H2 a2 c2 d2 kb2=>?_⟩
 refine⟨by show 6≤sizeLine;decide,fun p hp=>?_⟩
 refine⟨_,rfl,a,c,6,rfl,d2.new hp,by decide,by decide,fun r3 H3 a3 c3 d3 kb3=>?_⟩
 have ht:=kb3 p _ (d2.ne hp) yaa
 have hv:∃v,atI [V.int 0,.int 1,.int 3,.int r1,.int r2,.int 400] r3=some (.int v)∧0≤v∧v≤400:=by
  have:r3=0∨r3=1∨r3=2∨r3=3∨r3=4∨r3=5:=by omega
  rcases this with rfl|rfl|rfl|rfl|rfl|rfl
  ·exact⟨0,rfl,by omega,by omega⟩
  ·exact⟨1,rfl,by omega,by omega⟩
  ·exact⟨3,rfl,by omega,by omega⟩
  ·exact⟨r1,rfl,by omega,by omega⟩
  ·exact⟨r2,rfl,by omega,by omega⟩
  ·exact⟨400,rfl,by omega,by omega⟩
 obtain ⟨v,ev,v0,v1⟩:=hv
 exact⟨p,_,_,.int v,rfl,rfl,SqT.of ht,ev,q v H3 v0 v1 d3 ((kb1.trans (kb2.new hp)).trans kb3)⟩
theorem yv2 (F:Fun K "_law_span" "_law_span" yjf f fd):FnOk P w K mg base CX0 2 f fd ylm yrn:=by
 refine F.ok sc_span (fun vs H Q E h=>?_) (fun cdv A outer s H vs Q E hr h=>?_)
 ·obtain ⟨a,c,rfl,_⟩:=h;rfl
 obtain ⟨a,c,rfl,d,q⟩:=h
 refine⟨_,(yaf (yat (i:=1) sc_span.nd rfl (Or.inl rfl) (ya3 ybg (ybf (yam yag (yam yag (yam yag (yam yag yae))))) (yar G_pick hr rfl ybe (yam (pv 0) (yam yag yae))) (fun _ _=>rfl)))
  (yak (ya2 (ybf (yam (ybb yb3 yag (yar G_pick hr rfl ybe (yam (pv 0) (yam (ybb yg9 yag (pv 1)) yae)))) (yam (pv 1) yae)))))),?_⟩
 refine⟨by show 4≤sizeLine;decide,fun p0 hp0=>?_⟩
 refine⟨_,rfl,a,c,4,rfl,d.new hp0,by decide,by decide,fun r1 H1 a1 c1 d1 kb1=>?_⟩
 have ht:=kb1 p0 _ (d.ne hp0) yaa
 have hv:∃v,atI [V.int 6,.int 20,.int 60,.int 999] r1=some (.int v)∧6≤v∧v≤999:=by
  have:r1=0∨r1=1∨r1=2∨r1=3:=by omega
  rcases this with rfl|rfl|rfl|rfl
  ·exact⟨6,rfl,by omega,by omega⟩
  ·exact⟨20,rfl,by omega,by omega⟩
  ·exact⟨60,rfl,by omega,by omega⟩
  ·exact⟨999,rfl,by omega,by omega⟩
 obtain ⟨v,ev,v0,v1⟩:=hv
 refine⟨p0,_,_,.int v,rfl,rfl,SqT.of ht,ev,?_⟩
 refine⟨_,rfl,_,rfl,_,_,rfl,rfl,a,c,1000-v,rfl,d1,by omega,by omega,fun r2 H2 a2 c2 d2 kb2=>?_⟩
 refine⟨_,_,rfl,rfl,_,rfl,by show 2≤sizeLine;decide,fun p hp=>?_⟩
 have k:KeepBut a H H2:=((KeepBut.refl.new hp0).trans kb1).trans kb2
 exact q p (1+r2) v _ (k.none (d2.ne hp) hp) (by omega) (by omega) (by omega) (d2.new hp) (k.new hp) yaa
theorem ylq (F:Fun K "_law_some_lots" "_law_some_lots" ydc f fd):FnOk P w K mg base CX0 2 f fd yd7 yro:=by
 refine F.ok sc_some_lots (fun vs H Q E h=>?_) (fun cdv A outer s H vs Q E hr h=>?_)
 ·obtain ⟨a,c,p,m,lo,n,sc,rfl,_⟩:=h;rfl
 obtain ⟨a,c,p,m,lo,n,sc,rfl,d,m0,m1,hp,n0,n1,s0,s1,q⟩:=h
 refine⟨_,(yaf (yat (i:=4) sc_some_lots.nd rfl (Or.inl rfl) (ya3 ybg (ybf (yam yag (yam yag (yam yag (yam (ybb yoc yag yag) yae))))) (yar G_pick hr rfl ybe (yam (pv 0) (yam yag yae))) (fun _ _=>rfl)))
  (yaf (yat (i:=5) sc_some_lots.nd rfl (Or.inl rfl) (yd5 yae))
  (yaf (yd0 PassesOwn.never rfl (yf6 rfl B.range (yam (yar G_pick hr rfl ybe (yam (pv 0) (yam (ybb yb3 (pv 1) yag) yae))) yae)) (yai (i:=6) sc_some_lots.nd rfl (Or.inl rfl)) (yaf (yat (i:=7) sc_some_lots.nd rfl (Or.inl rfl) (ybb yb3 (ya3 ybg (pv 2) yag (fun _ _=>rfl)) (yar G_pick hr rfl ybe (yam (pv 0) (yam (ya3 ybg (pv 2) yag (fun _ _=>rfl)) yae)))))
   (yaf (yat (i:=8) sc_some_lots.nd rfl (Or.inl rfl) (ybb yb3 yag (yar G_pick hr rfl ybe (yam (pv 0) (yam (pv 3) yae)))))
   (yak (yb6 (ym3 PySem.F.plainAttrs_list PySem.F.slot_list_append PySem.F.type_list_append yc0 (pv 5) (yam (ybf (yam (pv 7) (yam (pv 8) (yam (ybb yb3 yag (yar G_pick hr rfl ybe (yam (pv 0) (yam (pv 4) yae)))) yae)))) yae)))))))
  (yak (ya2 (pv 5)))))),?_⟩
 refine⟨_,_,rfl,rfl,⟨by decide,by decide,by decide⟩,by show 4≤sizeLine;decide,fun p0 hp0=>?_⟩
 refine⟨_,rfl,a,c,4,rfl,d.new hp0,by decide,by decide,fun r1 H1 a1 c1 d1 kb1=>?_⟩
 have ht:=kb1 p0 _ (d.ne hp0) yaa
 have hv:∃v,atI [V.int 2,.int 5,.int 40,.int (10 ^ (6:Int).toNat)] r1=some (.int v)∧1≤v∧v≤1000000:=by
  have:r1=0∨r1=1∨r1=2∨r1=3:=by omega
  rcases this with rfl|rfl|rfl|rfl
  ·exact⟨2,rfl,by omega,by omega⟩
  ·exact⟨5,rfl,by omega,by omega⟩
  ·exact⟨40,rfl,by omega,by omega⟩
  ·exact⟨1000000,rfl,by omega,by omega⟩
 obtain ⟨dear,ev,v0,v1⟩:=hv
 refine⟨p0,_,_,.int dear,rfl,rfl,SqT.of ht,ev,?_⟩
 refine⟨by show 0≤sizeLine;decide,fun l hl=>?_⟩
 have k1:KeepBut a H H1:=(KeepBut.refl.new hp0).trans kb1
 have fl:H l=none:=k1.none (d1.ne hl) hl
 have dl:=d1.new (o:=.lst []) hl
 have pa:p≠a:=d.neT hp
 refine⟨_,rfl,_,rfl,_,_,rfl,rfl,a,c,m+1,rfl,dl,by omega,by omega,fun r2 H2 a2 c2 d2 kb2=>?_⟩
 have k2:KeepBut a H H2:=(k1.new hl).trans kb2
 have hl2:=kb2 l _ (d1.ne hl) yaa
 refine⟨r2,rfl,by omega,by omega,yht (n:=r2.toNat) (fun i σ H3=>∃o6 o7 o8 rs,σ=[some (.ref a),some (.int m),some (.ref p),some (.int sc),some (.int dear),some (.ref l),o6,o7,o8]∧DrawAt H3 a c∧KeepBut a H H3∧Rows H3 l rs∧rs.length=i∧∀r∈rs,LotIn lo n sc r) ⟨_,_,_,[],rfl,d2,k2,Rows.nil hl2,rfl,fun r hr=>by cases hr⟩ ?_ ?_⟩
 ·rintro i σ H3 hi ⟨o6,o7,o8,rs,rfl,d3,k3,hR,hlen,hall⟩
  refine⟨_,rfl,p,_,_,.int lo,rfl,rfl,SqT.of (k3 p _ pa hp),rfl,?_⟩
  refine⟨_,rfl,_,rfl,p,_,_,.int n,rfl,rfl,SqT.of (k3 p _ pa hp),rfl,a,c,n,rfl,d3,by omega,by omega,fun x1 H4 a4 c4 d4 kb4=>⟨_,_,rfl,rfl,?_⟩⟩
  refine⟨_,rfl,_,rfl,a,c,sc,rfl,d4,by omega,by omega,fun x2 H5 a5 c5 d5 kb5=>⟨_,_,rfl,rfl,?_⟩⟩
  have nla:l≠a:=d1.ne hl
  have R5:=(hR.keep nla d3 kb4).keep nla d4 kb5
  refine⟨_,rfl,.inl ⟨rfl,?_⟩,?_⟩
  ·obtain ⟨xs,e,_⟩:=R5.get
   exact⟨_,SqL.of e⟩
  refine⟨_,rfl,_,rfl,_,rfl,_,rfl,a,c,dear,rfl,d5,by omega,by omega,fun x3 H6 a6 c6 d6 kb6=>⟨_,_,rfl,rfl,by show 3≤sizeLine;decide,fun t ht=>?_⟩⟩
  have R6:=R5.keep nla d5 kb6
  obtain ⟨xs,ex,exl,_⟩:=R6.get
  refine⟨l,xs,.ref t,rfl,rfl,by rw[yal (yaj ex ht)];exact ex,yaq (by omega),?_⟩
  have k6:KeepBut a H H6:=((k3.trans kb4).trans kb5).trans kb6
  have dn:=(d6.new (o:=.tup [.int (lo+x1),.int (1+x2),.int (1+x3)]) ht).upd (o:=.lst (xs++[.ref t])) nla (d1.nc hl)
  refine⟨_,_,_,rs++[[lo+x1,1+x2,1+x3]],rfl,dn,(k6.new ht).young fl,R6.push (r:=[lo+x1,1+x2,1+x3]) ex ht,by rw[List.length_append,hlen];rfl,fun r hr=>?_⟩
  rcases List.mem_append.mp hr with z|z
  ·exact hall r z
  ·rw[List.mem_singleton.mp z]
   exact⟨_,_,_,rfl,by omega,by omega,by omega,by omega,by omega,by omega⟩
 ·rintro σ H3 ⟨o6,o7,o8,rs,rfl,d3,k3,hR,hlen,hall⟩
  exact⟨_,rfl,q l rs H3 fl hall (by omega) d3 k3 hR⟩
theorem ylr (F:Fun K "_law_some_outs" "_law_some_outs" ydd f fd):FnOk P w K mg base CX0 2 f fd yd8 yrp:=by
 refine F.ok sc_some_outs (fun vs H Q E h=>?_) (fun cdv A outer s H vs Q E hr h=>?_)
 ·obtain ⟨a,c,p,m,lo,n,sc,rfl,_⟩:=h;rfl
 obtain ⟨a,c,p,m,lo,n,sc,rfl,d,m0,m1,hp,n0,n1,s0,s1,q⟩:=h
 refine⟨_,(yaf (yat (i:=4) sc_some_outs.nd rfl (Or.inl rfl) (yd5 yae))
  (yaf (yd0 PassesOwn.never rfl (yf6 rfl B.range (yam (yar G_pick hr rfl ybe (yam (pv 0) (yam (ybb yb3 (pv 1) yag) yae))) yae)) (yai (i:=5) sc_some_outs.nd rfl (Or.inl rfl)) (yaf (yat (i:=6) sc_some_outs.nd rfl (Or.inl rfl) (ybb yb3 (ya3 ybg (pv 2) yag (fun _ _=>rfl)) (yar G_pick hr rfl ybe (yam (pv 0) (yam (ya3 ybg (pv 2) yag (fun _ _=>rfl)) yae)))))
   (yak (yb6 (ym3 PySem.F.plainAttrs_list PySem.F.slot_list_append PySem.F.type_list_append yc0 (pv 4) (yam (ybf (yam (pv 6) (yam (ybb yb3 yag (yar G_pick hr rfl ybe (yam (pv 0) (yam (pv 3) yae)))) yae))) yae))))))
  (yak (ya2 (pv 4))))),?_⟩
 refine⟨by show 0≤sizeLine;decide,fun l hl=>?_⟩
 have nla:l≠a:=d.ne hl
 have pa:p≠a:=d.neT hp
 refine⟨_,rfl,_,rfl,_,_,rfl,rfl,a,c,m+1,rfl,d.new hl,by omega,by omega,fun r2 H2 a2 c2 d2 kb2=>?_⟩
 have k2:KeepBut a H H2:=(KeepBut.refl.new hl).trans kb2
 have hl2:=kb2 l _ nla yaa
 refine⟨r2,rfl,by omega,by omega,yht (n:=r2.toNat) (fun i σ H3=>∃o6 o7 rs,σ=[some (.ref a),some (.int m),some (.ref p),some (.int sc),some (.ref l),o6,o7]∧DrawAt H3 a c∧KeepBut a H H3∧Rows H3 l rs∧rs.length=i∧∀r∈rs,OutIn lo n sc r) ⟨_,_,[],rfl,d2,k2,Rows.nil hl2,rfl,fun r hr=>by cases hr⟩ ?_ ?_⟩
 ·rintro i σ H3 hi ⟨o6,o7,rs,rfl,d3,k3,hR,hlen,hall⟩
  refine⟨_,rfl,p,_,_,.int lo,rfl,rfl,SqT.of (k3 p _ pa hp),rfl,?_⟩
  refine⟨_,rfl,_,rfl,p,_,_,.int n,rfl,rfl,SqT.of (k3 p _ pa hp),rfl,a,c,n,rfl,d3,by omega,by omega,fun x1 H4 a4 c4 d4 kb4=>⟨_,_,rfl,rfl,?_⟩⟩
  have R5:=hR.keep nla d3 kb4
  refine⟨_,rfl,.inl ⟨rfl,?_⟩,?_⟩
  ·obtain ⟨xs,e,_⟩:=R5.get
   exact⟨_,SqL.of e⟩
  refine⟨_,rfl,_,rfl,_,rfl,a,c,sc,rfl,d4,by omega,by omega,fun x3 H6 a6 c6 d6 kb6=>⟨_,_,rfl,rfl,by show 2≤sizeLine;decide,fun t ht=>?_⟩⟩
  have R6:=R5.keep nla d4 kb6
  obtain ⟨xs,ex,exl,_⟩:=R6.get
  refine⟨l,xs,.ref t,rfl,rfl,by rw[yal (yaj ex ht)];exact ex,yaq (by omega),?_⟩
  have k6:KeepBut a H H6:=(k3.trans kb4).trans kb6
  have dn:=(d6.new (o:=.tup [.int (lo+x1),.int (1+x3)]) ht).upd (o:=.lst (xs++[.ref t])) nla (d.nc hl)
  refine⟨_,_,rs++[[lo+x1,1+x3]],rfl,dn,(k6.new ht).young hl,R6.push (r:=[lo+x1,1+x3]) ex ht,by rw[List.length_append,hlen];rfl,fun r hr=>?_⟩
  rcases List.mem_append.mp hr with z|z
  ·exact hall r z
  ·rw[List.mem_singleton.mp z]
   exact⟨_,_,rfl,by omega,by omega,by omega,by omega⟩
 ·rintro σ H3 ⟨o6,o7,rs,rfl,d3,k3,hR,hlen,hall⟩
  exact⟨_,rfl,q l rs H3 hl hall (by omega) d3 k3 hR⟩
theorem yv3 (G_span:Cal P w K mg base CX0 2 "_law_span" ylm yrn) (G_some_term:Cal P w K mg base CX0 2 "_law_some_term" yd6 yrm) (G_some_lots:Cal P w K mg base CX0 2 "_law_some_lots" yd7 yro) (G_some_outs:Cal P w K mg base CX0 2 "_law_some_outs" yd8 yrp)
 (F:Fun K "_law_case" "_law_case" yjg f fd):FnOk P w K mg base CX0 3 f fd ylo yrq:=by
 refine F.ok sc_case (fun vs H Q E h=>?_) (fun cdv A outer s H vs Q E hr h=>?_)
 ·obtain ⟨a,c,m,rfl,_⟩:=h;rfl
 obtain ⟨a,c,m,rfl,d,m0,m1,q⟩:=h
 refine⟨_,(yaf (yat (i:=2) sc_case.nd rfl (Or.inl rfl) (yar G_span hr rfl ybe (yam (pv 0) yae)))
  (yaf (yat (i:=3) sc_case.nd rfl (Or.inl rfl) (yar G_some_term hr rfl ybe (yam (pv 0) yae)))
  (yaf (yat (i:=4) sc_case.nd rfl (Or.inl rfl) (ya3 ybg (ybf (yam yag (yam yag (yam yag (yam (ybb yoc yag yag) yae))))) (yar G_pick hr rfl ybe (yam (pv 0) (yam yag yae))) (fun _ _=>rfl)))
  (yaf (yat (i:=5) sc_case.nd rfl (Or.inl rfl) (yar G_some_lots hr rfl ybe (yam (pv 0) (yam (pv 1) (yam (pv 2) (yam (pv 4) yae))))))
  (yak (ya2 (ybf (yam (pv 5) (yam (yar G_some_outs hr rfl ybe (yam (pv 0) (yam (pv 1) (yam (pv 2) (yam (pv 4) yae))))) (yam (pv 3) yae)))))))))),?_⟩
 refine⟨_,rfl,a,c,rfl,d,fun p lo n H1 hp lo1 n6 h1000 d1 kb1 e1=>?_⟩
 have pa:p≠a:=d.ne hp
 refine⟨_,rfl,a,c,rfl,d1,fun tm H2 t0 t4 d2 kb2=>?_⟩
 refine⟨_,_,rfl,rfl,⟨by decide,by decide,by decide⟩,by show 4≤sizeLine;decide,fun p0 hp0=>?_⟩
 refine⟨_,rfl,a,c,4,rfl,d2.new hp0,by decide,by decide,fun r3 H3 a3 c3 d3 kb3=>?_⟩
 have ht:=kb3 p0 _ (d2.ne hp0) yaa
 have hv:∃v,atI [V.int 3,.int 12,.int 1000,.int (10 ^ (10:Int).toNat)] r3=some (.int v)∧1≤v∧v≤10000000000:=by
  have:r3=0∨r3=1∨r3=2∨r3=3:=by omega
  rcases this with rfl|rfl|rfl|rfl
  ·exact⟨3,rfl,by omega,by omega⟩
  ·exact⟨12,rfl,by omega,by omega⟩
  ·exact⟨1000,rfl,by omega,by omega⟩
  ·exact⟨10000000000,rfl,by omega,by omega⟩
 obtain ⟨sc,ev,v0,v1⟩:=hv
 refine⟨p0,_,_,.int sc,rfl,rfl,SqT.of ht,ev,?_⟩
 have k3:KeepBut a H1 H3:=(kb2.new hp0).trans kb3
 have e3:=k3 p _ pa e1
 refine⟨_,rfl,_,rfl,_,rfl,_,rfl,a,c,p,m,lo,n,sc,rfl,d3,m0,m1,e3,by omega,by omega,v0,v1,fun l ls H4 hl hls lsn d4 kb4 R4=>?_⟩
 refine⟨_,rfl,_,rfl,_,rfl,_,rfl,_,rfl,a,c,p,m,lo,n,sc,rfl,d4,m0,m1,kb4 p _ pa e3,by omega,by omega,v0,v1,fun o os H5 ho hos osn d5 kb5 R5=>?_⟩
 refine⟨_,rfl,by show 3≤sizeLine;decide,fun t ht'=>?_⟩
 have k13:KeepBut a H H3:=kb1.trans k3
 have nla:l≠a:=d3.ne hl
 have noa:o≠a:=d4.ne ho
 have nlo:l≠o:=by obtain ⟨z,e⟩:=R4.there;exact yaj e ho
 refine q t l o tm lo n sc ls os _ (k13.none nla hl) ((k13.trans kb4).none noa ho) nlo t0 t4 lo1 n6 h1000 v0 v1 hls hos lsn osn (d5.new ht') (((k13.trans kb4).trans kb5).new ht') ((R4.keep nla d4 kb5).same (yac ht' _)) (R5.same (yac ht' _)) yaa
end
end K16
namespace L2
open PySem PySem.W PyProof.Rows
def okW {α:Type}(n:Nat)(lt:Nat→Nat→Bool)(Q:α→Prop):KasT α→Prop
 |.ret a=>Q a
 |.ask i j k=>i<n∧j<n∧okW n lt Q (k (lt i j))
theorem yco {α:Type}{n:Nat}{lt:Nat→Nat→Bool}{Q Q':α→Prop}(h:∀a,Q a→Q' a):∀{t:KasT α},okW n lt Q t→okW n lt Q' t
 |.ret a,q=>h a q
 |.ask _ _ _,⟨a,b,q⟩=>⟨a,b,yco h q⟩
theorem yfo {α β:Type}{n:Nat}{lt:Nat→Nat→Bool}{Q:β→Prop}{f:α→KasT β}:∀{t:KasT α},okW n lt (fun a=>okW n lt Q (f a)) t→okW n lt Q (t.bind f)
 |.ret a,q=>q
 |.ask _ _ _,⟨a,b,q⟩=>⟨a,b,yfo q⟩
theorem yrr {α:Type}{n:Nat}{lt:Nat→Nat→Bool}{cmp:Nat→Nat→(Bool→Shared→Prop)→Shared→Prop}{s:Shared}(hc:∀i j C,i<n→j<n→C (lt i j) s→cmp i j C s){Q:α→Shared→Prop}:∀{t:KasT α},okW n lt (fun a=>Q a s) t→t.kasWp cmp Q s
 |.ret _,q=>q
 |.ask i j _,⟨a,b,q⟩=>hc i j _ a b (yrr hc q)
structure Ordr (lt:Nat→Nat→Bool):Prop where
 irr:∀i,lt i i=false
 tr:∀i j k,lt j i=false→lt k j=false→lt k i=false
 asy:∀i j,lt i j=true→lt j i=false
section
variable {n:Nat}{lt:Nat→Nat→Bool}
abbrev gA (p:Array Nat)(i:Nat):Nat:=p.getD i 0
abbrev leA (lt:Nat→Nat→Bool)(i j:Nat):Prop:=lt j i=false
def PermN (n:Nat)(p:Array Nat):Prop:=p.toList.Perm (List.range n)
def Up (lt:Nat→Nat→Bool)(p:Array Nat)(m:Nat):Prop:=∀i j,i≤j→j<m→leA lt (gA p i) (gA p j)
def ytt (lt:Nat→Nat→Bool)(p:Array Nat)(m:Nat):Prop:=∀i j,i≤j→j<m→leA lt (gA p j) (gA p i)
theorem yls (p:Array Nat)(i:Nat):gA p i=(p[i]?).getD 0:=by simp [gA]
theorem PermN.size {p:Array Nat}(h:PermN n p):p.size=n:=by
 have:=List.Perm.length_eq h
 simpa using this
theorem PermN.below {p:Array Nat}(h:PermN n p)(h0:0<n)(i:Nat):gA p i<n:=by
 rw[yls]
 cases e:p[i]? with
 |none=>exact h0
 |some v=>
  have hm:v∈p.toList:=by
   obtain ⟨hi,rfl⟩:=Array.getElem?_eq_some_iff.mp e
   simp
  exact List.mem_range.mp ((List.Perm.mem_iff h).mp hm)
theorem PermN.rev {p:Array Nat}(h:PermN n p)(i j:Nat):PermN n (kas_rev p i j):=((mirror_perm p i j _).toList).trans h
theorem PermN.bub {p:Array Nat}(h:PermN n p)(k d:Nat):PermN n (bubble p k d):=((bubble_perm p k d).toList).trans h
theorem yhy {p:Array Nat}{i j:Nat}(hj:j≤p.size)(k:Nat):gA (kas_rev p i j) k=if i≤k∧k<j then gA p (i+j-1-k) else gA p k:=by
 rw[yls,yls,yls]
 unfold kas_rev
 rw[getElem?_mirror_all hj]
 split <;> rfl
theorem yxw {p:Array Nat}{src d:Nat}(hs:src<p.size)(hd:d≤src)(k:Nat):gA (bubble p src d) k=if k=src-d then gA p src else if src-d<k∧k≤src then gA p (k-1) else gA p k:=by
 rw[yls,yls,yls,yls,getElem?_bubble hs d hd]
 split
 ·rfl
 ·split <;> rfl
variable (O:Ordr lt)
include O
theorem yv4 {p:Array Nat}{m:Nat}(h:Up lt p m)(h1:1≤m)(c:leA lt (gA p (m-1)) (gA p m)):Up lt p (m+1):=by
 intro i j hij hj
 by_cases e:j<m
 ·exact h i j hij e
 ·have:j=m:=by omega
  subst this
  by_cases e2:i=j
  ·subst e2;exact O.irr _
  ·exact O.tr _ _ _ (h i (j-1) (by omega) (by omega)) c
theorem yfd {p:Array Nat}{m:Nat}(h:ytt lt p m)(h1:1≤m)(c:leA lt (gA p m) (gA p (m-1))):ytt lt p (m+1):=by
 intro i j hij hj
 by_cases e:j<m
 ·exact h i j hij e
 ·have:j=m:=by omega
  subst this
  by_cases e2:i=j
  ·subst e2;exact O.irr _
  ·exact O.tr _ _ _ c (h i (j-1) (by omega) (by omega))
theorem yrs {p:Array Nat}(hp:PermN n p)(h0:0<n):∀(f m:Nat),1≤m→m+f≤n→Up lt p m→
 okW n lt (fun r=>m≤r∧r≤m+f∧Up lt p r∧(r=m+f∨lt (gA p r) (gA p (r-1))=true)) (kas_asc p f m)
 |0,m,h1,hf,hu=>⟨Nat.le_refl _,Nat.le_refl _,hu,.inl rfl⟩
 |f+1,m,h1,hf,hu=>by
  refine⟨hp.below h0 m,hp.below h0 (m-1),?_⟩
  by_cases c:lt (gA p m) (gA p (m-1))=true
  ·show okW n lt _ (if lt (gA p m) (gA p (m-1))=true then KasT.ret m else kas_asc p f (m+1))
   rw[if_pos c]
   exact⟨Nat.le_refl _,by omega,hu,.inr c⟩
  ·show okW n lt _ (if lt (gA p m) (gA p (m-1))=true then KasT.ret m else kas_asc p f (m+1))
   rw[if_neg c]
   have c':lt (gA p m) (gA p (m-1))=false:=by simpa using c
   refine yco (fun r ⟨a,b,u,d⟩=>⟨by omega,by omega,u,?_⟩) (yrs hp h0 f (m+1) (by omega) (by omega) (yv4 O hu h1 c'))
   rcases d with d|d
   ·exact .inl (by omega)
   ·exact .inr d
def yrt (lt:Nat→Nat→Bool)(p:Array Nat)(m q:Nat):Prop:=∀i,m-(q+1)≤i→i<m→leA lt (gA p i) (gA p (m-1))∧leA lt (gA p (m-1)) (gA p i)
theorem ygc {p:Array Nat}{m q:Nat}(hs:m≤p.size)(hq:q+1≤m)(h:yrt lt p m q)(k:Nat):leA lt (gA (kas_rev p (m-(q+1)) m) k) (gA p k)∧leA lt (gA p k) (gA (kas_rev p (m-(q+1)) m) k):=by
 rw[yhy hs]
 by_cases c:m-(q+1)≤k∧k<m
 ·rw[if_pos c]
  have a:=h (m-(q+1)+m-1-k) (by omega) (by omega)
  have b:=h k c.1 c.2
  exact⟨O.tr _ _ _ a.1 b.2,O.tr _ _ _ b.1 a.2⟩
 ·rw[if_neg c]
  exact⟨O.irr _,O.irr _⟩
theorem yom {p:Array Nat}{m q:Nat}(hs:m≤p.size)(hq:q+1≤m)(h:yrt lt p m q)(d:ytt lt p m):ytt lt (kas_rev p (m-(q+1)) m) m:=fun i j hij hj=>
 O.tr _ _ _ (ygc O hs hq h j).1 (O.tr _ _ _ (d i j hij hj) (ygc O hs hq h i).2)
theorem yj7 (h0:0<n):∀(f:Nat) (p:Array Nat) (m q:Nat),PermN n p→1≤m→m+f≤n→q+1≤m→ytt lt p m→yrt lt p m q→
 okW n lt (fun r=>PermN n r.1∧1≤r.2.1∧r.2.1≤n∧m≤r.2.1∧r.2.1≤m+f∧r.2.2+1≤r.2.1∧ytt lt r.1 r.2.1∧yrt lt r.1 r.2.1 r.2.2) (kas_desc f p m q)
 |0,p,m,q,hp,h1,hf,hq,d,al=>⟨hp,h1,by show m≤n;omega,Nat.le_refl _,Nat.le_refl _,hq,d,al⟩
 |f+1,p,m,q,hp,h1,hf,hq,d,al=>by
  have hs:m≤p.size:=by rw[hp.size];omega
  have one:∀p':Array Nat,yrt lt p' (m+1) 0:=fun p' i a b=>by
   have:i=m:=by omega
   subst this
   exact⟨O.irr _,O.irr _⟩
  refine⟨hp.below h0 m,hp.below h0 (m-1),?_⟩
  show okW n lt _ (if lt (gA p m) (gA p (m-1))=true then (if q > 0 then kas_desc f (kas_rev p (m-(q+1)) m) (m+1) 0 else kas_desc f p (m+1) 0) else KasT.ask (p.getD (m-1) 0) (p.getD m 0) fun d=>if d=true then KasT.ret (p,m,q) else kas_desc f p (m+1) (q+1))
  by_cases c:lt (gA p m) (gA p (m-1))=true
  ·rw[if_pos c]
   by_cases cq:q > 0
   ·rw[if_pos cq]
    have d1:=yom O hs hq al d
    have e:leA lt (gA (kas_rev p (m-(q+1)) m) m) (gA (kas_rev p (m-(q+1)) m) (m-1)):=by
     have a1:=(ygc O hs hq al m).1
     have a2:=(ygc O hs hq al (m-1)).2
     exact O.tr _ _ _ a1 (O.tr _ _ _ (O.asy _ _ c) a2)
    refine yco (fun r ⟨a,b,c,x,y,z⟩=>⟨a,b,c,by omega,by omega,z⟩) (yj7 h0 f _ (m+1) 0 (hp.rev _ _) (by omega) (by omega) (by omega) (yfd O d1 h1 e) (one _))
   ·rw[if_neg cq]
    refine yco (fun r ⟨a,b,c,x,y,z⟩=>⟨a,b,c,by omega,by omega,z⟩) (yj7 h0 f p (m+1) 0 hp (by omega) (by omega) (by omega) (yfd O d h1 (O.asy _ _ c)) (one _))
  ·rw[if_neg c]
   have c':lt (gA p m) (gA p (m-1))=false:=by simpa using c
   refine⟨hp.below h0 (m-1),hp.below h0 m,?_⟩
   by_cases c2:lt (gA p (m-1)) (gA p m)=true
   ·show okW n lt _ (if lt (gA p (m-1)) (gA p m)=true then KasT.ret (p,m,q) else kas_desc f p (m+1) (q+1))
    rw[if_pos c2]
    exact⟨hp,h1,by show m≤n;omega,Nat.le_refl _,by show m≤m+(f+1);omega,hq,d,al⟩
   ·show okW n lt _ (if lt (gA p (m-1)) (gA p m)=true then KasT.ret (p,m,q) else kas_desc f p (m+1) (q+1))
    rw[if_neg c2]
    have c2':lt (gA p (m-1)) (gA p m)=false:=by simpa using c2
    refine yco (fun r ⟨a,b,c,x,y,z⟩=>⟨a,b,c,by omega,by omega,z⟩) (yj7 h0 f p (m+1) (q+1) hp (by omega) (by omega) (by omega) (yfd O d h1 c2') ?_)
    intro i a b
    by_cases e:i=m
    ·subst e;exact⟨O.irr _,O.irr _⟩
    ·have:=al i (by omega) (by omega)
     exact⟨O.tr _ _ _ this.1 c',O.tr _ _ _ c2' this.2⟩
theorem yxx {p:Array Nat}{m:Nat}(hs:m≤p.size)(d:ytt lt p m):Up lt (kas_rev p 0 m) m:=by
 intro i j hij hj
 rw[yhy hs,yhy hs,if_pos ⟨Nat.zero_le _,by omega⟩,if_pos ⟨Nat.zero_le _,hj⟩]
 exact d _ _ (by omega) (by omega)
abbrev yv5 (n:Nat)(lt:Nat→Nat→Bool)(N:Nat)(r:Nat×Array Nat):Prop:=PermN n r.2∧1≤r.1∧r.1≤N∧Up lt r.2 r.1
theorem yon (h0:0<n){p:Array Nat}{m:Nat}(hp:PermN n p)(h1:1≤m)(hm:m≤n)(d:ytt lt p m):okW n lt (yv5 n lt n) (kas_tail3 m n p):=by
 unfold kas_tail3
 have hs:m≤p.size:=by rw[hp.size];omega
 refine yfo (yco (fun r ⟨a,b,u,_⟩=>?_) (yrs O (hp.rev 0 m) h0 (n-m) m h1 (by omega) (yxx O hs d)))
 exact⟨hp.rev 0 m,by show 1≤r;omega,by show r≤n;omega,u⟩
theorem yhz (h0:0<n){p:Array Nat}{m:Nat}(hp:PermN n p)(hm:m+1≤n)(d:ytt lt p (m+1)):okW n lt (yv5 n lt n) (kas_descPart m n p):=by
 unfold kas_descPart
 refine yfo (yco (fun r ⟨a,b,c,x,y,z,dd,al⟩=>?_) (yj7 O h0 (n-(m+1)) p (m+1) 0 hp (by omega) (by omega) (by omega) d ?_))
 ·intro i a b
  have:i=m:=by omega
  subst this
  exact⟨O.irr _,O.irr _⟩
 ·by_cases cq:r.2.2 > 0
  ·rw[if_pos cq]
   exact yon O h0 (a.rev _ _) b c (yom O (by rw[a.size];exact c) z al dd)
  ·rw[if_neg cq]
   exact yon O h0 a b c dd
theorem ytu (h2:2≤n){p:Array Nat}(hp:PermN n p):okW n lt (yv5 n lt n) (kas_count n p):=by
 unfold kas_count
 have h0:0<n:=by omega
 refine yfo (yco (fun r ⟨a,b,u,e⟩=>?_) (yrs O hp h0 (n-1) 1 (by omega) (by omega) ?_))
 ·intro i j hij hj
  have:i=j:=by omega
  subst this
  exact O.irr _
 ·by_cases c1:(r == n)=true
  ·rw[if_pos c1]
   have:r=n:=by simpa using c1
   exact⟨hp,a,by show r≤n;omega,u⟩
  ·rw[if_neg c1]
   have rn:r≠n:=by simpa using c1
   have lst:lt (gA p r) (gA p (r-1))=true:=by
    rcases e with e|e
    ·exact absurd (by omega) rn
    ·exact e
   have hs:r≤p.size:=by rw[hp.size];omega
   by_cases c2:r > 1
   ·rw[if_pos c2]
    refine⟨hp.below h0 0,hp.below h0 (r-1),?_⟩
    by_cases c3:lt (gA p 0) (gA p (r-1))=true
    ·show okW n lt _ (if lt (gA p 0) (gA p (r-1))=true then KasT.ret (r,p) else kas_descPart r n (kas_rev p 0 r))
     rw[if_pos c3]
     exact⟨hp,a,by show r≤n;omega,u⟩
    ·show okW n lt _ (if lt (gA p 0) (gA p (r-1))=true then KasT.ret (r,p) else kas_descPart r n (kas_rev p 0 r))
     rw[if_neg c3]
     have c3':lt (gA p 0) (gA p (r-1))=false:=by simpa using c3
     refine yhz O h0 (hp.rev 0 r) (by omega) (yfd O ?_ a ?_)
     ·intro i j hij hj
      rw[yhy hs,yhy hs,if_pos ⟨Nat.zero_le _,hj⟩,if_pos ⟨Nat.zero_le _,by omega⟩]
      exact u _ _ (by omega) (by omega)
     ·rw[yhy hs,yhy hs,if_neg (by omega),if_pos ⟨Nat.zero_le _,by omega⟩]
      have e0:0+r-1-(r-1)=0:=by omega
      rw[e0]
      exact O.tr _ _ _ (O.asy _ _ lst) c3'
   ·rw[if_neg c2]
    have r1:r=1:=by omega
    subst r1
    refine yhz O h0 hp (by omega) (yfd O ?_ (Nat.le_refl _) (O.asy _ _ lst))
    intro i j hij hj
    have:i=j:=by omega
    subst this
    exact O.irr _
theorem yj8 (h0:0<n){p:Array Nat}{k:Nat}(hp:PermN n p)(u:Up lt p k):∀(f l r:Nat),l≤r→r≤k→r-l≤f→(∀i,i<l→leA lt (gA p i) (gA p k))→(∀i,r≤i→i<k→leA lt (gA p k) (gA p i))→
 okW n lt (fun x=>x≤k∧(∀i,i<x→leA lt (gA p i) (gA p k))∧∀i,x≤i→i<k→leA lt (gA p k) (gA p i)) (kas_place p k f l r)
 |0,l,r,h1,h2,hf,a,b=>⟨by omega,a,fun i x y=>b i (by omega) y⟩
 |f+1,l,r,h1,h2,hf,a,b=>by
  show okW n lt _ (if l ≥ r then KasT.ret l else _)
  by_cases c:l ≥ r
  ·rw[if_pos c]
   exact⟨by omega,a,fun i x y=>b i (by omega) y⟩
  ·rw[if_neg c]
   refine⟨hp.below h0 k,hp.below h0 _,?_⟩
   show okW n lt _ (if lt (gA p k) (gA p ((l+r) / 2))=true then kas_place p k f l ((l+r) / 2) else kas_place p k f ((l+r) / 2+1) r)
   by_cases d:lt (gA p k) (gA p ((l+r) / 2))=true
   ·rw[if_pos d]
    refine yj8 h0 hp u f l _ (by omega) (by omega) (by omega) a fun i x y=>?_
    exact O.tr _ _ _ (O.asy _ _ d) (u _ i x y)
   ·rw[if_neg d]
    have d':lt (gA p k) (gA p ((l+r) / 2))=false:=by simpa using d
    refine yj8 h0 hp u f _ r (by omega) h2 (by omega) (fun i x=>?_) b
    exact O.tr _ _ _ (u i ((l+r) / 2) (by omega) (by omega)) d'
theorem yvd (h0:0<n):∀(f:Nat) (p:Array Nat) (k:Nat),PermN n p→f+k=n→Up lt p k→okW n lt (fun r=>PermN n r∧Up lt r n) (kas_bin f p k)
 | 0, p, k, hp, hk, u => ⟨hp, by have : k = n := by omega
                                 subst this;exact u⟩
 |f+1,p,k,hp,hk,u=>by
  show okW n lt _ ((kas_place p k k 0 k).bind fun l=>kas_bin f (bubble p k (k-l)) (k+1))
  refine yfo (yco (fun l ⟨hl,a,b⟩=>?_) (yj8 O h0 hp u k 0 k (Nat.zero_le _) (Nat.le_refl _) (by omega) (fun i x=>by omega) fun i x y=>by omega))
  refine yvd h0 f _ (k+1) (hp.bub _ _) (by omega) ?_
  have hs:k<p.size:=by rw[hp.size];omega
  have g:=yxw (p:=p) (src:=k) (d:=k-l) hs (by omega)
  have e:k-(k-l)=l:=by omega
  rw[e] at g
  intro i j hij hj
  rw[g i,g j]
  by_cases ci:i=l
  ·rw[if_pos ci]
   by_cases cj:j=l
   ·rw[if_pos cj];exact O.irr _
   ·rw[if_neg cj,if_pos ⟨by omega,by omega⟩]
    exact b _ (by omega) (by omega)
  ·rw[if_neg ci]
   by_cases cj:j=l
   ·rw[if_pos cj,if_neg (by omega)]
    exact a i (by omega)
   ·rw[if_neg cj]
    by_cases di:l<i∧i≤k
    ·rw[if_pos di,if_pos ⟨by omega,by omega⟩]
     exact u _ _ (by omega) (by omega)
    ·rw[if_neg di]
     by_cases dj:l<j∧j≤k
     ·rw[if_pos dj]
      exact u _ _ (by omega) (by omega)
     ·rw[if_neg dj]
      exact u _ _ hij (by omega)
theorem yru (h2:2≤n):okW n lt (fun p=>PermN n p∧Up lt p n) (kas_sort n):=by
 unfold kas_sort
 have h0:0<n:=by omega
 refine yfo (yco (fun r ⟨a,b,c,u⟩=>?_) (ytu O h2 (p:=List.toArray (List.range n)) (by unfold PermN;simp)))
 have e:max r.1 1=r.1:=by omega
 rw[e]
 by_cases d:r.1<n
 ·rw[if_pos d]
  exact yvd O h0 (n-r.1) r.2 r.1 a (by omega) u
 ·rw[if_neg d]
  have:r.1=n:=by omega
  rw[this] at u
  exact⟨a,u⟩
end
end L2
namespace L2
open PySem PySem.Spec PyProof.Rows
section
variable {X:Cx}{a b e:Expr}{es:List Expr}{pos:Pos}
theorem PE.weak {t t':TE}(h:PE X e t)(k:∀σ H Q,t' σ H Q→t σ H Q):PE X e t':=fun pins s σ H Q I q=>h pins s σ H Q I (k _ _ _ q)
end
theorem yjh {X:Cx}{x:Str}{v:Int}{pos:Pos} (hg:Gl X x) (hm:∃t,X.mg x=some (.int v t)) (hd:(x == ("__debug__" : Str))=false:=by decide):PE X (.Name x pos) (tC (.int v)):=by
 obtain ⟨t,h⟩:=hm
 exact yvq hg h ⟨_,rfl⟩ hd
abbrev inB (v hi:Int):Prop:=1≤v∧v≤hi
def yd1:List Int→Option Nat
 |[d,c]=>if inB d 999 then if inB c 10000000000 then none else some 1 else some 0
 |[d,c,u]=>if inB d 999 then if inB c 10000000000 then if inB u 1000000 then none else some 2 else some 1 else some 0
 |_=>none
def ybs (rs:List (List Int)):Option Nat:=rs.findSome? yd1
theorem yhb {rs:List (List Int)}{i:Nat}{r:List Int}(h:ybs (rs.take i)=none)(e:rs[i]? = some r)(b:yd1 r=none):ybs (rs.take (i+1))=none:=by
 obtain ⟨hi,e'⟩:=List.getElem?_eq_some_iff.mp e
 unfold ybs at *
 rw[List.take_succ_eq_append_getElem hi,List.findSome?_append,h,e']
 simp [b]
theorem yh0 {rs:List (List Int)}{i j:Nat}{r:List Int}(h:ybs (rs.take i)=none)(e:rs[i]? = some r)(b:yd1 r=some j):ybs rs=some j:=by
 obtain ⟨hi,e'⟩:=List.getElem?_eq_some_iff.mp e
 unfold ybs at *
 have:rs=rs.take i++r::rs.drop (i+1):=by rw[← e',← List.drop_eq_getElem_cons hi,List.take_append_drop]
 rw[this,List.findSome?_append,h]
 simp [b]
theorem ygd {rs:List (List Int)}{i:Nat}{r:List Int}(e:rs[i]? = some r):rs.take i++[r]=rs.take (i+1):=by
 obtain ⟨hi,e'⟩:=List.getElem?_eq_some_iff.mp e
 rw[List.take_succ_eq_append_getElem hi,e']
def yrv (c:Addr)(hi:Int):Sp:=fun vs H Q E=>∃v:Int,vs=[.int v]∧(inB v hi→Q .non H)∧(¬ inB v hi→E (.ref c) none H)
def ynb:Sp:=fun vs H Q _=>∃d:Int,vs=[.int d]∧Q (.bl (decide (inB d 999))) H
def yoo (cR:Addr):Sp:=fun vs H Q E=>∃a xs,vs=[.ref a]∧H a=some (.lst xs)∧(xs.length≤30→Q .non H)∧(30<xs.length→E (.ref cR) none H)
def ypr (cR:Addr)(cls:Nat→Addr)(w:Nat):Sp:=fun vs H Q E=>∃a rs,vs=[.ref a]∧Rows H a rs∧(∀r∈rs,r.length=w)∧(30<rs.length→E (.ref cR) none H)∧
 (rs.length≤30→∀j,ybs rs=some j→∀H',Same H H'→E (.ref (cls j)) none H')∧(rs.length≤30→ybs rs=none→∀l H',H l=none→Same H H'→Rows H' l rs→Q (.ref l) H')
theorem ytv {r:List Int}(h:r.length=2):∃d c,r=[d,c]:=match r,h with | [d,c],_=>⟨d,c,rfl⟩
theorem ync {r:List Int}(h:r.length=3):∃d c u,r=[d,c,u]:=match r,h with | [d,c,u],_=>⟨d,c,u,rfl⟩
theorem yop {v hi:Int}{R:Bool→Prop}(h:R (decide (inB v hi))):∃i j:Int,V.int 1 = .int i∧V.int v = .int j∧∃b,V.bl (decide (i≤j)) = .bl b∧if b=true then ∃i' j':Int,V.int v = .int i'∧V.int hi = .int j'∧∃b',V.bl (decide (i'≤j')) = .bl b'∧R b' else ∃b',V.bl false = .bl b'∧R b':=by
 refine⟨_,_,rfl,rfl,_,rfl,?_⟩
 refine yxm (fun c=>?_) (fun c=>?_)
 ·have c1:(1:Int)≤v:=of_decide_eq_true c
  refine⟨_,_,rfl,rfl,_,rfl,?_⟩
  have e:decide (v≤hi)=decide (inB v hi):=by by_cases z:v≤hi <;> simp [z,c1,inB]
  rw[e];exact h
 ·have c1:¬ (1:Int)≤v:=of_decide_eq_false (Bool.eq_false_iff.mpr c)
  have e:false=decide (inB v hi):=by simp [inB,c1]
  exact⟨_,rfl,by rw[e];exact h⟩
theorem ytw (n:Nat):(List.range n).all (fun _=>true)=true:=by simp
theorem yxy (r:List Int){k:Int}(h0:0≤k)(h1:k<r.length):yk1 (r.map V.int) none (some k)=(r.take k.toNat).map V.int∧¬ (HT.sIx (r.map V.int).length 0 none=0∧HT.sIx (r.map V.int).length (r.map V.int).length (some k)=(r.map V.int).length):=by
 have e:HT.sIx (r.map V.int).length (r.map V.int).length (some k)=k.toNat:=by
  show (if k<0 then (k+((r.map V.int).length:Int)).toNat else min k.toNat (r.map V.int).length)=k.toNat
  rw[if_neg (by omega),List.length_map]
  omega
 refine⟨?_,fun z=>by rw[e,List.length_map] at z;omega⟩
 unfold yk1
 rw[e]
 show ((r.map V.int).drop 0).take (k.toNat-0)=_
 rw[List.drop_zero,Nat.sub_zero,← List.map_take]
theorem ytx (r:List Int){k:Int}(h0:1≤k)(h1:k≤r.length):yk1 (r.map V.int) (some k) none=(r.drop k.toNat).map V.int∧¬ (HT.sIx (r.map V.int).length 0 (some k)=0∧HT.sIx (r.map V.int).length (r.map V.int).length none=(r.map V.int).length):=by
 have e:HT.sIx (r.map V.int).length 0 (some k)=k.toNat:=by
  show (if k<0 then (k+((r.map V.int).length:Int)).toNat else min k.toNat (r.map V.int).length)=k.toNat
  rw[if_neg (by omega),List.length_map]
  omega
 refine⟨?_,fun z=>by rw[e] at z;omega⟩
 unfold yk1
 rw[e]
 show ((r.map V.int).drop k.toNat).take ((r.map V.int).length-k.toNat)=_
 rw[← List.map_drop,List.take_of_length_le (by rw[List.length_map,List.length_map,List.length_drop];omega)]
end L2
namespace L2
open PySem PySem.Spec PySem.W PyProof.Rows
theorem yf1:∀{ns:List Int}{us:List Value},Vals (ns.map V.int) us→IntsAre us ns
 |[],_,.nil=>.nil
 |n::r,_,.cons x t=>by
  obtain ⟨k,rfl⟩:=x
  exact .cons n k (yf1 t)
theorem yrw:∀{ns:List Int}{us:List Value},IntsAre us ns→Vals (ns.map V.int) us
 |_,_,.nil=>.nil
 |_,_,.cons n t r=>.cons ⟨t,rfl⟩ (yrw r)
def ygq:List Int→List Int→Bool
 |a::as,b::bs=>if a=b then ygq as bs else decide (a<b)
 |[],_::_=>true
 |_,[]=>false
theorem yrx:∀a:List Int,ygq a a=false
 |[]=>rfl
 |a::as=>by show (if a=a then ygq as as else _)=false;rw[if_pos rfl];exact yrx as
theorem yry:∀{a b:List Int},ygq a b=true→ygq b a=false
 |[],[],h=>by cases h
 |[],b::bs,_=>rfl
 |a::as,[],h=>by cases h
 |a::as,b::bs,h=>by
  show (if b=a then ygq bs as else decide (b<a))=false
  have h':(if a=b then ygq as bs else decide (a<b))=true:=h
  by_cases e:a=b
  ·rw[if_pos e] at h'
   rw[if_pos e.symm]
   exact yry h'
  ·rw[if_neg e] at h'
   rw[if_neg (Ne.symm e)]
   have:=of_decide_eq_true h'
   exact decide_eq_false (by omega)
theorem yve:∀{a b c:List Int},ygq b a=false→ygq c b=false→ygq c a=false
 |[],[],[],_,_=>rfl
 |[],[],_::_,_,_=>rfl
 |[],_::_,[],_,h=>by cases h
 |[],_::_,_::_,_,_=>rfl
 |_::_,[],_,h,_=>by cases h
 |_::_,_::_,[],_,h=>by cases h
 |a::as,b::bs,c::cs,h,g=>by
  have h':(if b=a then ygq bs as else decide (b<a))=false:=h
  have g':(if c=b then ygq cs bs else decide (c<b))=false:=g
  show (if c=a then ygq cs as else decide (c<a))=false
  by_cases e1:b=a
  ·rw[if_pos e1] at h'
   subst e1
   by_cases e2:c=b
   ·rw[if_pos e2] at g'
    rw[if_pos e2]
    exact yve h' g'
   ·rw[if_neg e2] at g' ⊢
    exact g'
  ·rw[if_neg e1] at h'
   have h1:=of_decide_eq_false h'
   by_cases e2:c=b
   ·subst e2
    rw[if_neg e1]
    exact h'
   ·rw[if_neg e2] at g'
    have g1:=of_decide_eq_false g'
    rw[if_neg (by omega)]
    exact decide_eq_false (by omega)
def yqm (rs:List (List Int))(i j:Nat):Bool:=ygq (rs.getD i []) (rs.getD j [])
theorem yj9 (rs:List (List Int)):Ordr (yqm rs):=⟨fun _=>yrx _,fun _ _ _ a b=>yve a b,fun _ _ a=>yry a⟩
section
variable {prog:Program}{w:World}{A:Around}{E:Value→Shared→Prop}{s:Shared}
theorem yh1 {Q:Bool→Shared→Prop}:∀{xs ys:List Value}{as bs:List Int} (i:Nat),IntsAre xs as→IntsAre ys bs→as.length=bs.length→Q (ygq as bs) s→KatLex prog w A true false Q (xs.zip ys) i s
 |_,_,_,_,i,.nil,.nil,_,q=>q
 |_,_,_,_,i,.cons n t r,.cons m u r',hl,q=>by
  show KatLex prog w A true false Q ((Value.int n t,Value.int m u)::_) i s
  refine kat_cons (wpAny_eqBool_int ?_)
  by_cases e:n=m
  ·rw[show (n == m)=true by simpa using e]
   refine kat_yes (yh1 (i+1) r r' (by simpa using hl) ?_)
   have q':Q (if n=m then ygq _ _ else _) s:=q
   rw[if_pos e] at q'
   exact q'
  ·rw[show (n == m)=false by simpa using e]
   refine kat_no ?_
   have q':Q (if n=m then ygq _ _ else decide (n<m)) s:=q
   rw[if_neg e] at q'
   by_cases c:(true&&i == 0)=true
   ·rw[c];exact oneLt_int q'
   ·rw[Bool.eq_false_iff.mpr c]
    exact kat_one _ _ (lt_int q')
 |_,_,_,_,i,.nil,.cons _ _ _,hl,q=>by simp at hl
 |_,_,_,_,i,.cons _ _ _,.nil,hl,q=>by simp at hl
def TupsAt (h:Heap)(bs:List Addr)(rs:List (List Int)):Prop:=bs.length=rs.length∧∀(i:Nat) b r,bs[i]? = some b→rs[i]? = some r→∃its:List Value,IsTup h b its.toArray∧IntsAre its r
theorem TupsAt.tail {h:Heap}{b:Addr}{bs:List Addr}{r:List Int}{rs:List (List Int)}(t:TupsAt h (b::bs) (r::rs)):TupsAt h bs rs:=⟨by simpa using t.1,fun i c q e1 e2=>t.2 (i+1) c q (by simpa using e1) (by simpa using e2)⟩
theorem TupsAt.kat {h:Heap}:∀{bs:List Addr}{rs:List (List Int)},TupsAt h bs rs→(∀r∈rs,r≠[])→∃fs:List Value,fs.length=bs.length∧KatTups h (bs.map Value.ref) fs∧∀v∈fs,∃n t,v = .int n t
 |[],[],_,_=>⟨[],rfl,trivial,fun v hv=>by cases hv⟩
 |[],_::_,t,_=>by have:=t.1;simp at this
 |_::_,[],t,_=>by have:=t.1;simp at this
 |b::bs,r::rs,t,hn=>by
  obtain ⟨fs,h1,h2,h3⟩:=t.tail.kat fun q hq=>hn q (.tail _ hq)
  obtain ⟨its,⟨o,ho,hc,n,hd⟩,ia⟩:=t.2 0 b r rfl rfl
  cases ia with
  |nil=>exact absurd rfl (hn [] (.head _))
  |cons m k ia=>
   refine⟨.int m k::fs,by simp [h1],⟨⟨b,o,_,n,rfl,ho,hc,hd,rfl⟩,h2⟩,fun v hv=>?_⟩
   rcases List.mem_cons.mp hv with rfl|hv
   ·exact⟨m,k,rfl⟩
   ·exact h3 v hv
theorem TupsAt.ask {bs:List Addr}{rs:List (List Int)}{wd:Nat}(t:TupsAt s.heap bs rs)(hw:∀r∈rs,r.length=wd)(i j:Nat)(C:Bool→Shared→Prop)(hi:i<bs.length)(hj:j<bs.length)(q:C (yqm rs i j) s):kas_ask prog w A (tuples' true) (bs.map Value.ref) i j C s:=by
 have hi':i<rs.length:=by rw[← t.1];exact hi
 have hj':j<rs.length:=by rw[← t.1];exact hj
 obtain ⟨xs,⟨o,ho,_,n,hd⟩,ia⟩:=t.2 i bs[i] rs[i] (by simp [hi]) (by simp [hi'])
 obtain ⟨ys,⟨o',ho',_,n',hd'⟩,ib⟩:=t.2 j bs[j] rs[j] (by simp [hj]) (by simp [hj'])
 unfold kas_ask
 rw[show (bs.map Value.ref).getD i Value.none = .ref bs[i] by simp [hi],show (bs.map Value.ref).getD j Value.none = .ref bs[j] by simp [hj]]
 have la:xs.length=wd:=by rw[IntsAre.length ia];exact hw _ (List.getElem_mem hi')
 have lb:ys.length=wd:=by rw[IntsAre.length ib];exact hw _ (List.getElem_mem hj')
 refine kat_lt ho hd ho' hd' ?_
 rw[show decide (xs.toArray.size<ys.toArray.size)=false by simp [la,lb]]
 have q':C (ygq rs[i] rs[j]) s:=by
  unfold yqm at q
  rw[show rs.getD i []=rs[i] by simp [hi'],show rs.getD j []=rs[j] by simp [hj']] at q
  exact q
 exact yh1 0 ia ib (by rw[hw _ (List.getElem_mem hi'),hw _ (List.getElem_mem hj')]) q'
theorem yoq {lt:Nat→Nat→Bool}(O:Ordr lt){p:Array Nat}{m:Nat}(h:m<2):Up lt p m:=fun i j hij hj=>by
 have:i=j:=by omega
 subst this
 exact O.irr _
theorem yka {a:Addr}{bs:List Addr}{rs:List (List Int)}{wd n:Nat}{P:PySem.Fin→Shared→Prop} (ho:s.heap.get? a=some (seqObj "list" (bs.map Value.ref).toArray n))
 (t:TupsAt s.heap bs rs) (hw:∀r∈rs,r.length=wd) (hw0:0<wd) (h64:bs.length<64)
 (h:∀p:Array Nat,PermN bs.length p→Up (yqm rs) p bs.length→P (.done (.ret .none)) { s with heap:=sortedHeap s.heap a (bs.map Value.ref) (List.toArray (p.toList.map fun i=>(bs.map Value.ref).getD i Value.none)) }) :
 wpAny (model prog w) A (Builtin.«list.sort» ⟨[.ref a],[]⟩) P E s:=by
 rw[list_sort_plain]
 have ha:a<s.heap.objs.size:=Heap.lt_size ho
 have hlen:(bs.map Value.ref).length=bs.length:=List.length_map ..
 refine zwb0 (listItems_at ho rfl ?_)
 refine zwb0 (listUpdate_at ho rfl ?_ (by rw[List.size_toArray,sizeLine_eq,hlen];omega) (Nat.zero_le _))
 obtain ⟨e1,ho1⟩ : ∃e1,(s.heap.update a (Obj.mapSeq fun _=>(#[]:Array Value))).get? a=some (seqObj "list" #[] e1):=⟨_,get?_update_seq ho (fun _=>#[])⟩
 refine zwb0 (seqEpoch_at ho1 rfl ?_)
 refine zwb0 (wpAny_newTuple ?_ (by show (bs.map Value.ref).length≤_;rw[sizeLine_eq,hlen];omega))
 refine zwb0 (wpAny_newList ?_ (Nat.zero_le _))
 refine wpAny_holding ?_
 have ho6:(((s.heap.update a (Obj.mapSeq fun _=>(#[]:Array Value))).push (seqObj "tuple" (bs.map Value.ref).toArray 0)).push (seqObj "list" #[] 0)).get? a=some (seqObj "list" #[] e1):=by
  rw[Heap.get?_push_ne _ _ _ (by rw[size_push',Heap.size_update];exact Nat.ne_of_lt (Nat.lt_succ_of_lt ha)),Heap.get?_push_ne _ _ _ (by rw[Heap.size_update];exact Nat.ne_of_lt ha)]
  exact ho1
 have t6:TupsAt (((s.heap.update a (Obj.mapSeq fun _=>(#[]:Array Value))).push (seqObj "tuple" (bs.map Value.ref).toArray 0)).push (seqObj "list" #[] 0)) bs rs:=⟨t.1,fun i b r x1 x2=>by
  obtain ⟨its,⟨o,g1,g2,k,g3⟩,ia⟩:=t.2 i b r x1 x2
  have nb:b≠a:=fun z=>by
   rw[z,ho] at g1
   cases g1
   exact absurd g2 (by simp)
  exact⟨its,⟨o,Heap.get?_push_of_some _ (Heap.get?_push_of_some _ ((Heap.get?_update_other _ _ nb.symm).trans g1)),g2,k,g3⟩,ia⟩⟩
 show wpAny (model prog w) A _ P E { s with heap:=((s.heap.update a (Obj.mapSeq fun _=>(#[]:Array Value))).push (seqObj "tuple" (bs.map Value.ref).toArray 0)).push (seqObj "list" #[] 0) }
 dsimp only
 have hsz:(bs.map Value.ref).toArray.size=bs.length:=by simp
 have hsz2:∀p:Array Nat,PermN bs.length p→(List.toArray (p.toList.map fun i=>(bs.map Value.ref).getD i Value.none)).size≤sizeLine+1:=fun p hp=>by
  rw[List.size_toArray,List.length_map,Array.length_toList,hp.size,sizeLine_eq];omega
 by_cases h2:(bs.map Value.ref).toArray.size<2
 ·rw[if_pos h2,if_pos h2]
  refine zwb0 (zwp0 ?_)
  rw[StateT.run_pure]
  refine zwb0 (zwp0 ?_)
  dsimp only
  refine zwb0 (seqEpoch_at ho6 rfl ?_)
  have pr:PermN bs.length (List.toArray (List.range bs.length)):=by unfold PermN;simp
  have eo:(arrOf (SortSt.mk' general' ((bs.map Value.ref).toArray.zip (bs.map Value.ref).toArray) #[] 7 none)).map (·.2)=List.toArray ((List.toArray (List.range bs.length)).toList.map fun i=>(bs.map Value.ref).getD i Value.none):=
   kat_snds (vs:=bs.map Value.ref) (ks:=bs.map Value.ref) (p:=List.toArray (List.range bs.length)) rfl (by
    have e:=kas_range ((bs.map Value.ref).toArray.zip (bs.map Value.ref).toArray)
    rw[show ((bs.map Value.ref).toArray.zip (bs.map Value.ref).toArray).size=bs.length by simp] at e
    exact e.symm)
  rw[eo]
  refine zwb0 (listUpdate_at ho6 rfl ?_ (Nat.zero_le _) (hsz2 _ pr))
  simp only[bne_self_eq_false,Bool.false_eq_true,if_false]
  exact zwp0 (h _ pr (yoq (yj9 rs) (by omega)))
 ·rw[if_neg h2,if_neg h2]
  obtain ⟨fs,f1,f2,f3⟩:=t6.kat fun r hr z=>by have:=hw r hr;rw[z] at this;simp at this;omega
  refine zwb0 (kat_kind (T:=.type "int") f2 (by omega) (fun v hv=>?_) rfl ?_)
  ·obtain ⟨m,k,rfl⟩:=f3 v hv
   exact Looks.of_pure rfl
  rw[show ((Value.type "int" : Value) != Value.type "tuple")=true from rfl]
  refine zwb0 (wpAny_mono (kat_run (A:=A) (vs:=bs.map Value.ref) (ks:=bs.map Value.ref) (κ:=tuples' true)
   (G:=fun p s'=>(PermN bs.length p∧Up (yqm rs) p bs.length)∧s' = { s with heap:=((s.heap.update a (Obj.mapSeq fun _=>(#[]:Array Value))).push (seqObj "tuple" (bs.map Value.ref).toArray 0)).push (seqObj "list" #[] 0) })
   (Q:=fun st' s'=>∃p:Array Nat,PermN bs.length p∧Up (yqm rs) p bs.length∧arrOf st'=p.map (kas_item ((bs.map Value.ref).toArray.zip (bs.map Value.ref).toArray))∧failedOf st'=none∧s' = { s with heap:=((s.heap.update a (Obj.mapSeq fun _=>(#[]:Array Value))).push (seqObj "tuple" (bs.map Value.ref).toArray 0)).push (seqObj "list" #[] 0) })
   rfl (by rw[hlen];omega) (by rw[hlen];exact h64) (fun p' st' s' a1 a2 a3 a4=>⟨p',a4.1.1,a4.1.2,a2,a3,a4.2⟩) ?_) ?_ fun _ _ e=>e)
  ·rw[hlen]
   exact yrr (n:=bs.length) (lt:=yqm rs) (fun i j C hi hj q=>TupsAt.ask t6 hw i j C hi hj q) (yco (fun p hp=>⟨hp,rfl⟩) (yru (yj9 rs) (by omega)))
  ·rintro ⟨⟨⟩,st'⟩ s' ⟨p,hp,hu,har,hf,rfl⟩
   dsimp only
   rw[kat_snds (vs:=bs.map Value.ref) (ks:=bs.map Value.ref) rfl har]
   refine zwb0 (seqEpoch_at ho6 rfl ?_)
   refine zwb0 (listUpdate_at ho6 rfl ?_ (Nat.zero_le _) (hsz2 p hp))
   rw[hf]
   simp only[bne_self_eq_false,Bool.false_eq_true,if_false]
   exact zwp0 (h p hp hu)
theorem yps {l:Addr}{bs:List Addr}{rs:List (List Int)}{wd:Nat}{Q:Value→Shared→Prop}(hl:s.heap.IsList l (bs.map Value.ref).toArray)(t:TupsAt s.heap bs rs)(hw:∀r∈rs,r.length=wd)(hw0:0<wd)(h64:bs.length<64)
 (h:∀p:Array Nat,PermN bs.length p→Up (yqm rs) p bs.length→Q (.ref (s.heap.objs.size+1)) { s with heap:=sortedAll s.heap (bs.map Value.ref) (List.toArray (p.toList.map fun i=>(bs.map Value.ref).getD i Value.none)) }) :
 wpAny (model prog w) A (call (.builtin "sorted") [.ref l]) Q E s:=by
 have hlen:(bs.map Value.ref).length=bs.length:=List.length_map ..
 refine Calls.call_function_entry kind_sorted plain_sorted entry_sorted (args_sorted1 _) ?_
 unfold Builtin.«sorted»
 refine zwb0 (m:=checkCount "sorted" 1 1 _) (zwp0 ?_)
 refine zwb0 (collect_list hl ?_ (by rw[sizeLine_eq,hlen];omega))
 refine zwb0 (wpAny_newList ?_ (by rw[sizeLine_eq,hlen];omega))
 have hsz:((s.heap.push (seqObj "list" #[] 0)).update s.heap.objs.size (Obj.mapSeq (· ++ (bs.map Value.ref).toArray))).objs.size=s.heap.objs.size+1:=by
  rw[Heap.size_update,size_push']
 have hoL:(((s.heap.push (seqObj "list" #[] 0)).update s.heap.objs.size (Obj.mapSeq (· ++ (bs.map Value.ref).toArray))).push (seqObj "list" (bs.map Value.ref).toArray 0)).get? (s.heap.objs.size+1)=some (seqObj "list" (bs.map Value.ref).toArray 0):=by
  rw[← hsz];exact Heap.get?_push_size _ rfl
 have keep:∀b o,s.heap.get? b=some o→(((s.heap.push (seqObj "list" #[] 0)).update s.heap.objs.size (Obj.mapSeq (· ++ (bs.map Value.ref).toArray))).push (seqObj "list" (bs.map Value.ref).toArray 0)).get? b=some o:=fun b o q=>by
  have hlt:b<s.heap.objs.size:=Heap.lt_size q
  rw[Heap.get?_push_ne _ _ _ (by rw[hsz];exact Nat.ne_of_lt (Nat.lt_succ_of_lt hlt)),Heap.get?_update_ne _ _ _ _ (Nat.ne_of_lt hlt),Heap.get?_push_ne _ _ _ (Nat.ne_of_lt hlt)]
  exact q
 show wpAny _ _ _ _ _ { s with heap:=((s.heap.push (seqObj "list" #[] 0)).update s.heap.objs.size (Obj.mapSeq (· ++ (bs.map Value.ref).toArray))).push (seqObj "list" (bs.map Value.ref).toArray 0) }
 rw[hsz]
 refine zwb0 (wpAny_holding (wpAny_call_entry slot_list_sort ⟨_,hoL,rfl⟩ entry_list_sort (yka hoL ⟨t.1,fun i b r x1 x2=>?_⟩ hw hw0 h64 fun p a1 a2=>⟨_,rfl,?_⟩) (args_list_sort _)))
 ·obtain ⟨its,y1,y2⟩:=t.2 i b r x1 x2
  exact⟨its,y1.keeps keep,y2⟩
 ·exact zwp0 ⟨_,rfl,h p a1 a2⟩
end
section
variable {X:Cx}
def zag (K:PySem.W.Frag):List V→Hp→VK→Prop:=fun xs H Q=>∃(p:Addr) (ns:List Int),xs=[.ref p]∧SqL K H p (ns.map V.int)∧Q (.int ns.sum) H
theorem yen (hc:X.calm=true):yft X (.builtin "sum") (zag X.K):=by
 intro pins s σ H xs us Q I r h
 obtain ⟨p,ns,rfl,hq,q⟩:=h
 obtain ⟨u,rfl,ru⟩:=r.one
 cases ru
 obtain ⟨its,rv,pl,hz⟩:=I.list hq
 have ia:=yf1 rv
 obtain ⟨ys,ey⟩:=ia.allInts.items
 have hl:=pl.isList
 have e2:(numsOf its.toArray.toList).sum=ns.sum:=by rw[show its.toArray.toList=its by simp,ia.numsOf]
 rw[ey] at hl e2
 refine sum_intListG (I.ok.hd hc) hl fun h' tk t' kk=>⟨.int ns.sum,H,I.kept (t':=tk) kk,⟨t',?_⟩,q⟩
 rw[nums_intItems] at e2
 rw[preSum_eq,List.take_of_length_le (by simp),e2]
def yxz:List V→Hp→VK→Prop:=fun xs H Q=>∃(p:Addr) (rs:List (List Int)) (wd:Nat),xs=[.ref p]∧Rows H p rs∧rs.length<64∧(∀r∈rs,r.length=wd)∧0<wd∧∀(l:Addr) (ss:List (List Int)) (H':Hp),H l=none→ss.Perm rs→ss.Pairwise (fun a b=>ygq b a=false)→Same H H'→Rows H' l ss→Q (.ref l) H'
theorem ypt:yft X (.builtin "sorted") yxz:=by
 intro pins s σ H xs us Q I r h
 obtain ⟨p,rs,wd,rfl,hR,h64,hw,hw0,q⟩:=h
 obtain ⟨u,rfl,ru⟩:=r.one
 cases ru
 obtain ⟨ps,h1,h2,h3⟩:=id hR
 obtain ⟨its,rv,pl,hz⟩:=I.list (SqL.of h1)
 have eits:its=ps.map Value.ref:=by
  clear hz pl h1 h2 h3 hR
  induction ps generalizing its with
  |nil=>cases rv;rfl
  |cons a r ih=>
   cases rv with
   |cons x t=>rw[show _=Value.ref a from x,ih _ t];rfl
 subst eits
 have tt:TupsAt s.heap ps rs:=⟨h2,fun i b r e1 e2=>by
  obtain ⟨_,us,rr,y⟩:=(show ObjOk X.prog X.w H s.heap b (.tup (r.map V.int)) from I.hok b _ (h3 i b r e1 e2))
  exact⟨us,y,yf1 rr⟩⟩
 have hps:ps.length<64:=by omega
 refine yps pl.isList tt hw hw0 hps fun pp hp hu=>?_
 have hmem:∀i∈pp.toList,i<ps.length:=fun i hi=>List.mem_range.mp ((List.Perm.mem_iff hp).mp hi)
 have eo:(pp.toList.map fun i=>(ps.map Value.ref).getD i Value.none)=(pp.toList.map fun i=>ps.getD i 0).map Value.ref:=by
  rw[List.map_map]
  exact List.map_congr_left fun i hi=>by have:=hmem i hi;simp [this]
 obtain ⟨e,he⟩:=sortedAll_at s.heap (ps.map Value.ref) (List.toArray (pp.toList.map fun i=>(ps.map Value.ref).getD i Value.none))
 have vv:∀l:List Addr,Vals (l.map V.ref) (l.map Value.ref):=fun l=>by
  induction l with
  |nil=>exact .nil
  |cons a r ih=>exact .cons rfl ih
 have fr:H (s.heap.objs.size+1)=none:=I.hok.fresh (Nat.le_succ _)
 refine⟨.ref _,_,I.laid (t':=s.toks) (a:=s.heap.objs.size+1) (o:=.lst ((pp.toList.map fun i=>ps.getD i 0).map V.ref)) (fun b o e=>sortedAll_old e) (Nat.le_succ _) ⟨?_,(pp.toList.map fun i=>ps.getD i 0).map Value.ref,e,vv _,?_⟩,rfl,q _ (pp.toList.map fun i=>rs.getD i []) _ fr ?_ ?_ (yac fr _) ⟨_,yaa,by rw[List.length_map,List.length_map],fun i b r e1 e2=>?_⟩⟩
 ·rw[List.length_map,List.length_map,Array.length_toList,hp.size,sizeLine_eq];omega
 ·rw[he,eo]
 ·have e1:(List.range ps.length).map (fun i=>rs.getD i [])=rs:=by
   apply List.ext_getElem?
   intro i
   rw[List.getElem?_map]
   by_cases hi:i<ps.length
   ·rw[List.getElem?_range hi];simp [show i<rs.length by omega]
   ·rw[List.getElem?_eq_none (by simpa using hi),List.getElem?_eq_none (by omega)];rfl
  have:=hp.map (fun i=>rs.getD i [])
  rw[e1] at this
  exact this
 ·rw[List.pairwise_map,List.pairwise_iff_getElem]
  intro i j hi hj hij
  have hj':j<ps.length:=by rw[Array.length_toList,hp.size] at hj;exact hj
  have:=hu i j (Nat.le_of_lt hij) hj'
  have gi:gA pp i=pp.toList[i]:=by
   rw[Array.length_toList] at hi
   simp [gA,hi]
  have gj:gA pp j=pp.toList[j]:=by
   rw[Array.length_toList] at hj
   simp [gA,hj]
  rw[gi,gj] at this
  exact this
 ·rw[List.getElem?_map] at e1 e2
  cases ei:pp.toList[i]? with
  |none=>rw[ei] at e1;cases e1
  |some k=>
   rw[ei] at e1 e2
   have hk:=hmem k (List.mem_of_getElem? ei)
   have eb:ps[k]? = some b:=by have:=Option.some.inj e1;simp [hk] at this;simp [hk,this]
   have er:rs[k]? = some r:=by have:=Option.some.inj e2;simp [show k<rs.length by omega] at this;simp [show k<rs.length by omega,this]
   have hb:=h3 k b r eb er
   rw[yal (yaj hb fr)]
   exact hb
end
section
variable {X:Cx}
def yza:List V→Hp→VK→Prop:=fun xs H Q=>∃n:Int,xs=[.int n]∧∀l,H l=none→Q (.ref l) (upd H l (.rng 0 n))
theorem ylt:yft X (.type "range") yza:=by
 intro pins s σ H xs us Q I r h
 obtain ⟨n,rfl,q⟩:=h
 obtain ⟨u,rfl,ru⟩:=r.one
 obtain ⟨t,rfl⟩:=ru
 refine call_range_1 ?_
 exact⟨.ref _,_,I.laid (t':=s.toks+1+1) (a:=s.heap.objs.size) (o:=.rng 0 n) (fun b o e=>Heap.get?_push_of_some _ e) (Nat.le_refl _) ⟨_,_,_,Heap.get?_push_size _ rfl⟩,rfl,q _ (I.hok.fresh (Nat.le_refl _))⟩
def ya9 (n:Nat):List Int:=(List.range n).map fun i=>((i:Nat):Int)
theorem ybt (n:Nat):(ya9 n).length=n:=by simp [ya9]
def yty:List V→Hp→VK→Prop:=fun xs H Q=>∃(p:Addr) (n:Nat),xs=[.ref p]∧H p=some (.rng 0 n)∧n≤1000∧∀l,H l=none→Q (.ref l) (upd H l (.lst ((ya9 n).map V.int)))
theorem yrz {acc:Array Value}{n:Nat}(h:ItemsOf (fun i v=>∃t,v=Value.int (0+(i:Int)*1) t) acc n):Vals ((ya9 n).map V.int) acc.toList:=by
 obtain ⟨h1,h2⟩:=h
 have go:∀(l:List Value) (k:Nat),(∀(j:Nat) v,l[j]? = some v→∃t,v=Value.int ((k+j:Nat):Int) t)→Vals ((List.range' k l.length).map fun i=>V.int ((i:Nat):Int)) l:=by
  intro l
  induction l with
  |nil=>intro k _;exact .nil
  |cons a r ih=>
   intro k hl
   rw[List.length_cons,List.range'_succ,List.map_cons]
   obtain ⟨t,e⟩:=hl 0 a rfl
   refine .cons ⟨t,?_⟩ (ih (k+1) fun j v ev=>?_)
   ·rw[e,Nat.add_zero]
   ·obtain ⟨t,e⟩:=hl (j+1) v (by simpa using ev)
    exact⟨t,by rw[e];congr 1;omega⟩
 have:=go acc.toList 0 fun j v ev=>by
  obtain ⟨t,e⟩:=h2 j v (by simpa using ev)
  exact⟨t,by rw[e];congr 1;omega⟩
 rw[Array.length_toList,h1] at this
 unfold ya9
 rw[List.map_map,List.range_eq_range']
 exact this
theorem yge (hc:X.calm=true):yft X (.type "list") yty:=by
 intro pins s σ H xs us Q I r h
 obtain ⟨p,n,rfl,hp,hn,q⟩:=h
 obtain ⟨u,rfl,ru⟩:=r.one
 cases ru
 obtain ⟨t1,t2,t3,ho⟩:=(show ObjOk X.prog X.w H s.heap p (.rng 0 n) from I.hok p _ hp)
 refine call_list_range (a:=0) (b:=(n:Int)) (c:=1) (n:=n) (I.ok.hd hc) ho (small_one (by decide) (by decide) (by omega) (by omega)) ?_ (by omega) fun h' tk acc' c' kk e it=>?_
 ·rw[rangeSize_one]
  split <;> omega
 ·refine⟨.ref _,_,I.laid (t':=tk) (a:=s.heap.objs.size) (o:=.lst ((ya9 n).map V.int)) kk (Nat.le_refl _) ⟨?_,acc'.toList,c',yrz it,by simpa using e⟩,rfl,q _ (I.hok.fresh (Nat.le_refl _))⟩
  rw[List.length_map,ybt,sizeLine_eq];omega
end
theorem yji (n:Nat):ya9 (n+1)=ya9 n++[((n:Nat):Int)]:=by
 unfold ya9
 rw[List.range_succ,List.map_append];rfl
theorem uptoN_mem {n:Nat}{i:Int}:i∈ya9 n↔0≤i∧i<n:=by
 unfold ya9
 rw[List.mem_map]
 constructor
 ·rintro ⟨k,hk,rfl⟩
  have:=List.mem_range.mp hk
  omega
 ·intro h
  exact⟨i.toNat,List.mem_range.mpr (by omega),by omega⟩
abbrev yad (rs:List (List Int))(k:Nat)(i:Int):Int:=(rs.getD i.toNat []).getD k 0
def ypu (rs:List (List Int))(i:Int):List Int:=[yad rs 0 i,i]
def keyD (rs:List (List Int))(i:Int):List Int:=[-(yad rs 2 i),yad rs 0 i,i]
def yde (key:Int→List Int)(n:Nat)(os:List Int):Prop:=os.Perm (ya9 n)∧os.Pairwise (fun i j=>ygq (key j) (key i)=false)
theorem ypv {key:Int→List Int}{lst:List Int→Int}(hk:∀i,lst (key i)=i){n:Nat}{ss:List (List Int)}(hp:ss.Perm ((ya9 n).map key))(ho:ss.Pairwise (fun a b=>ygq b a=false)):yde key n (ss.map lst):=by
 have e:(ss.map lst).map key=ss:=by
  rw[List.map_map]
  conv=>rhs;rw[← List.map_id ss]
  refine List.map_congr_left fun r hr=>?_
  obtain ⟨i,_,rfl⟩:=List.mem_map.mp (hp.mem_iff.mp hr)
  show key (lst (key i))=key i
  rw[hk]
 refine⟨?_,?_⟩
 ·have:=hp.map lst
  rw[List.map_map] at this
  rw[show (ya9 n).map (lst ∘ key)=ya9 n by
   conv=>rhs;rw[← List.map_id (ya9 n)]
   exact List.map_congr_left fun i _=>hk i] at this
  exact this
 ·rw[← e,List.pairwise_map] at ho
  exact ho
def yv6 (key:List (List Int)→Int→List Int)(ok:List Int→Prop):Sp:=fun vs H Q _=>∃(a:Addr) (rs:List (List Int)),vs=[.ref a]∧Rows H a rs∧rs.length≤60∧(∀r∈rs,ok r)∧
 ∀(l:Addr) (os:List Int) (H':Hp),H l=none→Same H H'→yde (key rs) rs.length os→H' l=some (.lst (os.map V.int))→Q (.ref l) H'
def okE (r:List Int):Prop:=1≤r.length
def okD (r:List Int):Prop:=r.length=3
theorem yej {rs:List (List Int)}{i:Nat}{r:List Int}(e:rs[i]? = some r):rs.getD ((i:Nat):Int).toNat []=r:=by
 rw[Int.toNat_natCast,List.getD_eq_getElem?_getD,e];rfl
def yx0 (rs:List (List Int))(ts:List Int)(i:Nat):Prop:=∀(j:Nat) r u,j<i→rs[j]? = some r→ts[j]? = some u→0≤u∧u≤r.getD 1 0
def yv7 (rs:List (List Int))(ts:List Int):Prop:=ts.length=rs.length∧yx0 rs ts rs.length
def yvf (r:List Int):Prop:=r.length=3∧-(2 ^ 64)<r.getD 2 0∧r.getD 2 0<2 ^ 64
def ybd (H:Hp)(b:Addr)(ts:List Int):Prop:=H b=some (.lst (ts.map V.int))
theorem ydz {os:List Int}{i:Nat}{x:V}(e:(os.map V.int)[i]? = some x):∃v,x = .int v∧os[i]? = some v:=by
 rw[List.getElem?_map] at e
 cases q:os[i]? with
 |none=>rw[q] at e;cases e
 |some v=>rw[q] at e;exact⟨v,(Option.some.inj e).symm,rfl⟩
theorem yor {os:List Int}{r:Int}{i:Nat}(hr:r=(i:Int))(h:i<os.length):atI (os.map V.int) r=some (.int os[i]):=by
 subst hr
 exact ydy (by rw[List.getElem?_map,List.getElem?_eq_getElem h];rfl)
def vbm:List Value:=[.type "ValueError",.type "Exception",.type "BaseException",.type "object"]
theorem yzb {P:Program}{w:World}{X:Cx}:yi7 (CXE P w) X E0:=fun _ _ _ _ _ _ _ h=>by
 obtain ⟨_,_,_,_,_,_,_,_,h,_⟩:=h
 exact h.elim
abbrev ylu (t:Int):Prop:=0≤t∧t≤400
def yr0 (c:Addr):Sp:=fun vs H Q E=>∃v:Int,vs=[.int v]∧(ylu v→Q .non H)∧(¬ ylu v→E (.ref c) none H)
theorem ytz {lo v hi:Int}{R:Bool→Prop}(h:R (decide (lo≤v∧v≤hi))):∃i j:Int,V.int lo = .int i∧V.int v = .int j∧∃b,V.bl (decide (i≤j)) = .bl b∧if b=true then ∃i' j':Int,V.int v = .int i'∧V.int hi = .int j'∧∃b',V.bl (decide (i'≤j')) = .bl b'∧R b' else ∃b',V.bl false = .bl b'∧R b':=by
 refine⟨_,_,rfl,rfl,_,rfl,?_⟩
 refine yxm (fun c=>?_) (fun c=>?_)
 ·have c1:lo≤v:=of_decide_eq_true c
  refine⟨_,_,rfl,rfl,_,rfl,?_⟩
  have e:decide (v≤hi)=decide (lo≤v∧v≤hi):=by by_cases z:v≤hi <;> simp [z,c1]
  rw[e];exact h
 ·have c1:¬ lo≤v:=of_decide_eq_false (Bool.eq_false_iff.mpr c)
  have e:false=decide (lo≤v∧v≤hi):=by simp [c1]
  exact⟨_,rfl,by rw[e];exact h⟩
def ykb (cl:Nat→Addr):Nat→Addr
 |0=>cl 1
 |1=>cl 3
 |_=>cl 4
def ygy (tm f l:Int)(r:List Int):Bool:=decide (f≤r.getD 0 0∧r.getD 0 0≤l+tm)
def yan (rs:List (List Int))(tm f l:Int):Int:=((rs.filter (ygy tm f l)).map fun r=>r.getD 1 0).sum
theorem yb7 {α:Type}{rs:List α}{i:Nat}{r:α}(p:α→Bool)(e:rs[i]? = some r):(rs.take (i+1)).filter p=(rs.take i).filter p++if p r=true then [r] else []:=by
 obtain ⟨hi,e'⟩:=List.getElem?_eq_some_iff.mp e
 rw[List.take_succ_eq_append_getElem hi,List.filter_append,e']
 congr 1
 by_cases z:p r=true
 ·rw[if_pos z,List.filter_cons_of_pos z];rfl
 ·rw[if_neg z,List.filter_cons_of_neg z];rfl
def ykc:Sp:=fun vs H Q _=>∃(a p:Addr) (tm f l:Int) (rs:List (List Int)),vs=[.ref a,.int tm,.ref p]∧Rows H a rs∧(∀r∈rs,r.length=2)∧rs.length≤100∧H p=some (.tup [.int f,.int l])∧∀H',Same H H'→Q (.int (yan rs tm f l)) H'
theorem yv8 {K:PySem.W.Frag}{H:Hp}{l e:Addr}{xs:List V}{neg:Bool}{Q:VK}(hl:H l=some (.lst xs))(he:H e=some (.lst []))(q:Q (.bl (neg != decide (xs.length=0))) H):yxq K neg (.ref l) (.ref e) H Q:=by
 refine⟨l,e,xs,[],rfl,rfl,SqL.of hl,SqL.of he,?_⟩
 by_cases z:xs.length=0
 ·refine .inr ⟨z,0,fun _=>true,by decide,fun j x y e1 e2=>(by cases e2),?_⟩
  rw[z] at q ⊢
  exact q
 ·refine .inl ⟨z,?_⟩
  rw[decide_eq_false z] at q
  cases neg <;> exact q
end L2
namespace K16
open PySem L2
structure Txt (K:PySem.W.Frag) (mg:Str→Option Value) (cl:Nat→Addr):Prop where
 FIRST_DAY:∃t,mg "FIRST_DAY" = some (.int 1 t)
 LAST_DAY:∃t,mg "LAST_DAY" = some (.int 999 t)
 MOST_TERM:∃t,mg "MOST_TERM" = some (.int 400 t)
 MOST_ROWS:∃t,mg "MOST_ROWS" = some (.int 30 t)
 MOST_COUNT:∃t,mg "MOST_COUNT" = some (.int 10000000000 t)
 MOST_DUTY:∃t,mg "MOST_DUTY" = some (.int 1000000 t)
 gCustomsError:mg "CustomsError" = some (.ref (cl 0))
 gBadDay:mg "BadDay" = some (.ref (cl 1))
 gBadTerm:mg "BadTerm" = some (.ref (cl 2))
 gBadCount:mg "BadCount" = some (.ref (cl 3))
 gBadDuty:mg "BadDuty" = some (.ref (cl 4))
 gBadRows:mg "BadRows" = some (.ref (cl 5))
 eBadDay:PySem.W.excIn K (cl 1) vbm "ValueError.__new__" = true
 eBadTerm:PySem.W.excIn K (cl 2) vbm "ValueError.__new__" = true
 eBadCount:PySem.W.excIn K (cl 3) vbm "ValueError.__new__" = true
 eBadDuty:PySem.W.excIn K (cl 4) vbm "ValueError.__new__" = true
 eBadRows:PySem.W.excIn K (cl 5) vbm "ValueError.__new__" = true
abbrev yfp:Stmt:=top 11
abbrev yt0:List Str:=["day"]
abbrev ygf:List Str:=["day"]
theorem yr1:FnScope yt0 ygf (yab yfp):=⟨rfl,rfl,rfl,by decide +kernel,rfl,by decide +kernel,by decide +kernel⟩
abbrev ydf:Stmt:=top 12
abbrev ynd:List Str:=["day"]
abbrev ydg:List Str:=["day"]
theorem ylv:FnScope ynd ydg (yab ydf):=⟨rfl,rfl,rfl,by decide +kernel,rfl,by decide +kernel,by decide +kernel⟩
abbrev yct:Stmt:=top 13
abbrev ylw:List Str:=["term"]
abbrev ydt:List Str:=["term"]
theorem ykd:FnScope ylw ydt (yab yct):=⟨rfl,rfl,rfl,by decide +kernel,rfl,by decide +kernel,by decide +kernel⟩
abbrev ycu:Stmt:=top 18
abbrev ylx:List Str:=["rows"]
abbrev ycv:List Str:=["rows"]
theorem yke:FnScope ylx ycv (yab ycu):=⟨rfl,rfl,rfl,by decide +kernel,rfl,by decide +kernel,by decide +kernel⟩
abbrev yb8:Stmt:=top 19
abbrev ykf:List Str:=["count"]
abbrev yb9:List Str:=["count"]
theorem yix:FnScope ykf yb9 (yab yb8):=⟨rfl,rfl,rfl,by decide +kernel,rfl,by decide +kernel,by decide +kernel⟩
abbrev ycw:Stmt:=top 20
abbrev yly:List Str:=["duty"]
abbrev ydu:List Str:=["duty"]
theorem ykg:FnScope yly ydu (yab ycw):=⟨rfl,rfl,rfl,by decide +kernel,rfl,by decide +kernel,by decide +kernel⟩
abbrev ybw:Stmt:=top 21
abbrev yiy:List Str:=["lots","told","day","count","duty"]
abbrev ych:List Str:=["lots"]
theorem sc_checked_lots:FnScope yiy ych (yab ybw):=⟨rfl,rfl,rfl,by decide +kernel,rfl,by decide +kernel,by decide +kernel⟩
abbrev ybx:Stmt:=top 22
abbrev yiz:List Str:=["outs","told","day","count"]
abbrev yci:List Str:=["outs"]
theorem sc_checked_outs:FnScope yiz yci (yab ybx):=⟨rfl,rfl,rfl,by decide +kernel,rfl,by decide +kernel,by decide +kernel⟩
abbrev yf2:Stmt:=top 26
abbrev yr2:List Str:=["outs","term","stretch","first","last"]
abbrev yh2:List Str:=["outs","term","stretch"]
theorem sc_going:FnScope yr2 yh2 (yab yf2):=⟨rfl,rfl,rfl,by decide +kernel,rfl,by decide +kernel,by decide +kernel⟩
section
variable {P:Program}{w:World}{K:PySem.W.Frag}{mg:Str→Option Value}{base:Heap}{f:Addr}{fd:FuncData}{cl:Nat→Addr}(T:Txt K mg cl)(B:Bn mg)
include T B
theorem yr3 (F:Fun K "is_day" "is_day" yfp f fd):FnOk P w K mg base CX0 1 f fd ygf ynb:=by
 refine F.ok yr1 (fun vs H Q E h=>?_) (fun cdv A outer s H vs Q E hr h=>?_)
 ·obtain ⟨d,rfl,_⟩:=h;rfl
 obtain ⟨d,rfl,q⟩:=h
 refine⟨_,(yak (ya2 (ytg yeh yeh (yjh rfl T.FIRST_DAY) (pv 0) (yjh rfl T.LAST_DAY)))),?_⟩
 refine⟨_,rfl,_,_,rfl,rfl,_,rfl,?_⟩
 refine yxm (fun c=>?_) (fun c=>?_)
 ·have c1:(1:Int)≤d:=of_decide_eq_true c
  refine⟨_,_,rfl,rfl,?_⟩
  have e:decide (d≤999)=decide (inB d 999):=by by_cases z:d≤999 <;> simp [z,c1,inB]
  show Q (.bl (decide (d≤999))) H
  rw[e];exact q
 ·have c1:¬ (1:Int)≤d:=of_decide_eq_false (Bool.eq_false_iff.mpr c)
  have e:false=decide (inB d 999):=by simp [inB,c1]
  show Q (.bl false) H
  rw[e];exact q
theorem ylz (G_is_day:Cal P w K mg base CX0 1 "is_day" ygf ynb) (F:Fun K "check_day" "check_day" ydf f fd):FnOk P w K mg base (CXE P w) 2 f fd ydg (yrv (cl 1) 999):=by
 refine F.okE ylv (fun vs H Q E h=>?_) (fun cdv A outer s H vs Q E hr h=>?_)
 ·obtain ⟨d,rfl,_⟩:=h;rfl
 obtain ⟨d,rfl,q1,q2⟩:=h
 refine⟨_,yak (yeg (ye7 (ydq (yar G_is_day hr rfl ybe (yam (pv 0) yae)) (fun _=>rfl))) (yak (yf8 (E:=E) rfl T.gBadDay T.eBadDay PySem.F.excBase_ValueError rfl yli (yam yk3 yae))) ybr),?_⟩
 refine⟨_,rfl,d,rfl,_,rfl,?_⟩
 by_cases c:inB d 999
 ·rw[decide_eq_true c]
  exact ycd (q1 c)
 ·rw[decide_eq_false c]
  exact yem ⟨by show 1≤sizeLine;decide,q2 c⟩
theorem ykh (F:Fun K "check_term" "check_term" yct f fd):FnOk P w K mg base (CXE P w) 2 f fd ydt (yr0 (cl 2)):=by
 refine F.okE ykd (fun vs H Q E h=>?_) (fun cdv A outer s H vs Q E hr h=>?_)
 ·obtain ⟨d,rfl,_⟩:=h;rfl
 obtain ⟨d,rfl,q1,q2⟩:=h
 refine⟨_,(yak (yeg (ye7 (yfl yeh yeh yag (pv 0) (yjh rfl T.MOST_TERM))) (yak (yf8 (E:=E) rfl T.gBadTerm T.eBadTerm PySem.F.excBase_ValueError rfl yli (yam yk3 yae))) ybr)),?_⟩
 refine⟨_,rfl,?_⟩
 refine ytz (lo:=0) (v:=d) (hi:=400) ?_
 by_cases c:ylu d
 ·rw[decide_eq_true c]
  exact ycd (q1 c)
 ·rw[decide_eq_false c]
  exact yem ⟨by show 1≤sizeLine;decide,q2 c⟩
theorem yki (F:Fun K "check_many" "check_many" ycu f fd):FnOk P w K mg base (CXE P w) 2 f fd ycv (yoo (cl 5)):=by
 refine F.okE yke (fun vs H Q E h=>?_) (fun cdv A outer s H vs Q E hr h=>?_)
 ·obtain ⟨a,xs,rfl,_⟩:=h;rfl
 obtain ⟨a,xs,rfl,ha,q1,q2⟩:=h
 refine⟨_,(yak (yeg (ya5 yvs (yao ybm rfl B.len PySem.boot_len (yam (pv 0) yae)) (yjh rfl T.MOST_ROWS) (yba _)) (yak (yf8 (E:=E) rfl T.gBadRows T.eBadRows PySem.F.excBase_ValueError rfl yli (yam yk3 yae))) ybr)),?_⟩
 refine⟨_,rfl,a,_,rfl,.inl (SqL.of ha),_,_,rfl,rfl,_,rfl,?_⟩
 by_cases c:(30:Int)<xs.length
 ·rw[decide_eq_true c]
  exact yem ⟨by show 1≤sizeLine;decide,q2 (by omega)⟩
 ·rw[decide_eq_false c]
  exact ycd (q1 (by omega))
theorem yi0 (F:Fun K "check_count" "check_count" yb8 f fd):FnOk P w K mg base (CXE P w) 2 f fd yb9 (yrv (cl 3) 10000000000):=by
 refine F.okE yix (fun vs H Q E h=>?_) (fun cdv A outer s H vs Q E hr h=>?_)
 ·obtain ⟨d,rfl,_⟩:=h;rfl
 obtain ⟨d,rfl,q1,q2⟩:=h
 refine⟨_,(yak (yeg (ye7 (yfl yeh yeh yag (pv 0) (yjh rfl T.MOST_COUNT))) (yak (yf8 (E:=E) rfl T.gBadCount T.eBadCount PySem.F.excBase_ValueError rfl yli (yam yk3 yae))) ybr)),?_⟩
 refine⟨_,rfl,?_⟩
 refine yop (v:=d) (hi:=10000000000) ?_
 by_cases c:inB d 10000000000
 ·rw[decide_eq_true c]
  exact ycd (q1 c)
 ·rw[decide_eq_false c]
  exact yem ⟨by show 1≤sizeLine;decide,q2 c⟩
theorem ykj (F:Fun K "check_duty" "check_duty" ycw f fd):FnOk P w K mg base (CXE P w) 2 f fd ydu (yrv (cl 4) 1000000):=by
 refine F.okE ykg (fun vs H Q E h=>?_) (fun cdv A outer s H vs Q E hr h=>?_)
 ·obtain ⟨d,rfl,_⟩:=h;rfl
 obtain ⟨d,rfl,q1,q2⟩:=h
 refine⟨_,(yak (yeg (ye7 (yfl yeh yeh yag (pv 0) (yjh rfl T.MOST_DUTY))) (yak (yf8 (E:=E) rfl T.gBadDuty T.eBadDuty PySem.F.excBase_ValueError rfl yli (yam yk3 yae))) ybr)),?_⟩
 refine⟨_,rfl,?_⟩
 refine yop (v:=d) (hi:=1000000) ?_
 by_cases c:inB d 1000000
 ·rw[decide_eq_true c]
  exact ycd (q1 c)
 ·rw[decide_eq_false c]
  exact yem ⟨by show 1≤sizeLine;decide,q2 c⟩
theorem yh3 (G_check_many:Cal P w K mg base (CXE P w) 2 "check_many" ycv (yoo (cl 5))) (G_check_day:Cal P w K mg base (CXE P w) 2 "check_day" ydg (yrv (cl 1) 999)) (G_check_count:Cal P w K mg base (CXE P w) 2 "check_count" yb9 (yrv (cl 3) 10000000000)) (G_check_duty:Cal P w K mg base (CXE P w) 2 "check_duty" ydu (yrv (cl 4) 1000000)) (F:Fun K "checked_lots" "checked_lots" ybw f fd):FnOk P w K mg base (CXE P w) 3 f fd ych (ypr (cl 5) (ykb cl) 3):=by
 refine F.okE sc_checked_lots (fun vs H Q E h=>?_) (fun cdv A outer s H vs Q E hr h=>?_)
 ·obtain ⟨a,rs,rfl,_⟩:=h;rfl
 obtain ⟨a,rs,rfl,hR,h3,q1,q2,q3⟩:=h
 refine⟨_,(yaf (yb6 (yar (E:=E) G_check_many hr rfl (yhw fun _ _ z=>z) (yam (pv 0) yae)))
  (yaf (yat (i:=1) sc_checked_lots.nd rfl (Or.inl rfl) (yd5 yae))
  (yaf (yd0 PassesOwn.leaving rfl (ya8 (pv 0)) (ybl rfl (yah (yai (i:=2) sc_checked_lots.nd rfl (Or.inl rfl)) (yah (yai (i:=3) sc_checked_lots.nd rfl (Or.inl rfl)) (yah (yai (i:=4) sc_checked_lots.nd rfl (Or.inl rfl)) ya4)))) (yaf (yb6 (yar (E:=E) G_check_day hr rfl (yhw fun _ _ z=>z) (yam (pv 2) yae)))
   (yaf (yb6 (yar (E:=E) G_check_count hr rfl (yhw fun _ _ z=>z) (yam (pv 3) yae)))
   (yaf (yb6 (yar (E:=E) G_check_duty hr rfl (yhw fun _ _ z=>z) (yam (pv 4) yae)))
   (yak (yb6 (ym3 PySem.F.plainAttrs_list PySem.F.slot_list_append PySem.F.type_list_append yc0 (pv 1) (yam (ybf (yam (pv 2) (yam (pv 3) (yam (pv 4) yae)))) yae))))))))
  (yak (ya2 (pv 1)))))),?_⟩
 obtain ⟨xs,ex,exl,exi⟩:=hR.get
 refine⟨_,rfl,a,xs,rfl,ex,fun c=>?_,fun c=>q1 (by omega)⟩
 have c30:rs.length≤30:=by omega
 refine⟨by show 0≤sizeLine;decide,fun l hl=>?_⟩
 refine⟨_,rfl,a,rfl,⟨xs,SqL.of (by rw[yal (yaj ex hl)];exact ex)⟩,?_⟩
 refine ydp (xs:=xs) (fun i σ H3=>∃o2 o3 o4,σ=[some (.ref a),some (.ref l),o2,o3,o4]∧Same H H3∧Rows H3 l (rs.take i)∧ybs (rs.take i)=none) ⟨_,_,_,rfl,yac hl _,Rows.nil yaa,rfl⟩ ?_ ?_ ?_
 ·rintro i σ H3 hi ⟨o2,o3,o4,rfl,sm,_⟩
  exact SqL.of (sm _ _ ex)
 ·rintro i x σ H3 exi' ⟨o2,o3,o4,rfl,sm,R3,hb⟩
  obtain ⟨p,r,rfl,er,hp⟩:=exi i x exi'
  obtain ⟨d,c,u,rfl⟩:=ync (h3 r (List.mem_of_getElem? er))
  refine⟨p,_,rfl,SqT.of (sm _ _ hp),rfl,_,_,rfl,_,_,rfl,_,_,rfl,rfl,?_⟩
  have bad:∀j,yd1 [d,c,u]=some j→E (.ref (ykb cl j)) none H3:=fun j e=>q2 c30 j (yh0 hb er e) H3 sm
  refine⟨_,rfl,d,rfl,fun c1=>?_,fun c1=>bad 0 (by simp only[yd1,if_neg c1])⟩
  refine⟨_,rfl,c,rfl,fun c2=>?_,fun c2=>bad 1 (by simp only[yd1,if_pos c1,if_neg c2])⟩
  refine⟨_,rfl,u,rfl,fun c3=>?_,fun c3=>bad 2 (by simp only[yd1,if_pos c1,if_pos c2,if_neg c3])⟩
  have good:yd1 [d,c,u]=none:=by simp only[yd1,if_pos c1,if_pos c2,if_pos c3]
  obtain ⟨ys,ey,eyl,_⟩:=R3.get
  refine⟨_,rfl,.inl ⟨rfl,_,SqL.of ey⟩,?_⟩
  refine⟨_,rfl,_,rfl,_,rfl,by show 3≤sizeLine;decide,fun t ht=>?_⟩
  refine⟨l,ys,.ref t,rfl,rfl,by rw[yal (yaj ey ht)];exact ey,yaq (by rw[eyl,List.length_take];omega),?_⟩
  refine⟨_,_,_,rfl,(sm.trans (yac ht _)).young hl,?_,yhb hb er good⟩
  rw[← ygd er]
  exact R3.push (r:=[d,c,u]) ey ht
 ·rintro σ H3 ⟨o2,o3,o4,rfl,sm,R3,hb⟩
  rw[exl,List.take_length] at R3 hb
  exact⟨_,rfl,q3 c30 hb l H3 hl sm R3⟩
theorem yh4 (G_check_many:Cal P w K mg base (CXE P w) 2 "check_many" ycv (yoo (cl 5))) (G_check_day:Cal P w K mg base (CXE P w) 2 "check_day" ydg (yrv (cl 1) 999)) (G_check_count:Cal P w K mg base (CXE P w) 2 "check_count" yb9 (yrv (cl 3) 10000000000)) (F:Fun K "checked_outs" "checked_outs" ybx f fd):FnOk P w K mg base (CXE P w) 3 f fd yci (ypr (cl 5) (ykb cl) 2):=by
 refine F.okE sc_checked_outs (fun vs H Q E h=>?_) (fun cdv A outer s H vs Q E hr h=>?_)
 ·obtain ⟨a,rs,rfl,_⟩:=h;rfl
 obtain ⟨a,rs,rfl,hR,h3,q1,q2,q3⟩:=h
 refine⟨_,(yaf (yb6 (yar (E:=E) G_check_many hr rfl (yhw fun _ _ z=>z) (yam (pv 0) yae)))
  (yaf (yat (i:=1) sc_checked_outs.nd rfl (Or.inl rfl) (yd5 yae))
  (yaf (yd0 PassesOwn.leaving rfl (ya8 (pv 0)) (ybl rfl (yah (yai (i:=2) sc_checked_outs.nd rfl (Or.inl rfl)) (yah (yai (i:=3) sc_checked_outs.nd rfl (Or.inl rfl)) ya4))) (yaf (yb6 (yar (E:=E) G_check_day hr rfl (yhw fun _ _ z=>z) (yam (pv 2) yae)))
   (yaf (yb6 (yar (E:=E) G_check_count hr rfl (yhw fun _ _ z=>z) (yam (pv 3) yae)))
   (yak (yb6 (ym3 PySem.F.plainAttrs_list PySem.F.slot_list_append PySem.F.type_list_append yc0 (pv 1) (yam (ybf (yam (pv 2) (yam (pv 3) yae))) yae)))))))
  (yak (ya2 (pv 1)))))),?_⟩
 obtain ⟨xs,ex,exl,exi⟩:=hR.get
 refine⟨_,rfl,a,xs,rfl,ex,fun c=>?_,fun c=>q1 (by omega)⟩
 have c30:rs.length≤30:=by omega
 refine⟨by show 0≤sizeLine;decide,fun l hl=>?_⟩
 refine⟨_,rfl,a,rfl,⟨xs,SqL.of (by rw[yal (yaj ex hl)];exact ex)⟩,?_⟩
 refine ydp (xs:=xs) (fun i σ H3=>∃o2 o3,σ=[some (.ref a),some (.ref l),o2,o3]∧Same H H3∧Rows H3 l (rs.take i)∧ybs (rs.take i)=none) ⟨_,_,rfl,yac hl _,Rows.nil yaa,rfl⟩ ?_ ?_ ?_
 ·rintro i σ H3 hi ⟨o2,o3,rfl,sm,_⟩
  exact SqL.of (sm _ _ ex)
 ·rintro i x σ H3 exi' ⟨o2,o3,rfl,sm,R3,hb⟩
  obtain ⟨p,r,rfl,er,hp⟩:=exi i x exi'
  obtain ⟨d,c,rfl⟩:=ytv (h3 r (List.mem_of_getElem? er))
  refine⟨p,_,rfl,SqT.of (sm _ _ hp),rfl,_,_,rfl,_,_,rfl,rfl,?_⟩
  have bad:∀j,yd1 [d,c]=some j→E (.ref (ykb cl j)) none H3:=fun j e=>q2 c30 j (yh0 hb er e) H3 sm
  refine⟨_,rfl,d,rfl,fun c1=>?_,fun c1=>bad 0 (by simp only[yd1,if_neg c1])⟩
  refine⟨_,rfl,c,rfl,fun c2=>?_,fun c2=>bad 1 (by simp only[yd1,if_pos c1,if_neg c2])⟩
  have good:yd1 [d,c]=none:=by simp only[yd1,if_pos c1,if_pos c2]
  obtain ⟨ys,ey,eyl,_⟩:=R3.get
  refine⟨_,rfl,.inl ⟨rfl,_,SqL.of ey⟩,?_⟩
  refine⟨_,rfl,_,rfl,by show 2≤sizeLine;decide,fun t ht=>?_⟩
  refine⟨l,ys,.ref t,rfl,rfl,by rw[yal (yaj ey ht)];exact ey,yaq (by rw[eyl,List.length_take];omega),?_⟩
  refine⟨_,_,rfl,(sm.trans (yac ht _)).young hl,?_,yhb hb er good⟩
  rw[← ygd er]
  exact R3.push (r:=[d,c]) ey ht
 ·rintro σ H3 ⟨o2,o3,rfl,sm,R3,hb⟩
  rw[exl,List.take_length] at R3 hb
  exact⟨_,rfl,q3 c30 hb l H3 hl sm R3⟩
theorem yt1 (F:Fun K "going" "going" yf2 f fd):FnOk P w K mg base CX0 1 f fd yh2 ykc:=by
 refine F.ok sc_going (fun vs H Q E h=>?_) (fun cdv A outer s H vs Q E hr h=>?_)
 ·obtain ⟨a,p,tm,f,l,rs,rfl,_⟩:=h;rfl
 obtain ⟨a,p,tm,ff,l,rs,rfl,hR,h2,hn,hp,q⟩:=h
 refine⟨_,(yaf (yc7 (pv 2) (ybl rfl (yah (yai (i:=3) sc_going.nd rfl (Or.inr rfl)) (yah (yai (i:=4) sc_going.nd rfl (Or.inr rfl)) ya4))))
  (yak (ya2 (yao (yen rfl) rfl B.sum PyProof.Rows.boot_sum (yam (yc2 (N':=["day","count","first","last","term"]) (ix:=[none,none,some 3,some 4,some 1]) (g:=(yob K 2 (ycc (ybi 0) (ycc (ybi 1) yoa)))) (ti:=(ygs (yoe (rI0 fun i j=>.bl (decide (i≤j))) (rI0 fun i j=>.bl (decide (i≤j))) (ybv 2) (ybv 0) (tOp (rI0 fun i j=>.int (i+j)) (ybv 3) (ybv 4))))) (te:=(ybv 1)) rfl (yax (N:=yr2) (D:=yab yf2) (by decide +kernel)) (ya8 (pv 0)) (fun C s H fp=>(ybl rfl (yah (yai (i:=0) (show (["day","count","first","last","term"]:List Str).Nodup by decide +kernel) rfl (Or.inl rfl)) (yah (yai (i:=1) (show (["day","count","first","last","term"]:List Str).Nodup by decide +kernel) rfl (Or.inl rfl)) ya4)))) (fun C s H fp=>(yd2 (yfl yeh yeh (pv 2) (pv 0) (ybb yb3 (pv 3) (pv 4))))) (fun C s H fp=>(pv 1))) yae))))),?_⟩
 obtain ⟨xs,ex,exl,exi⟩:=hR.get
 refine⟨_,rfl,p,_,rfl,SqT.of hp,rfl,_,_,rfl,_,_,rfl,rfl,?_⟩
 refine⟨_,rfl,a,rfl,⟨xs,SqL.of ex⟩,fun D hD=>⟨fun i m H3=>i+m=xs.length∧Same H H3∧H3 D=some (.lst ((((rs.take i).filter (ygy tm ff l)).map fun r=>r.getD 1 0).map V.int)),⟨xs.length,by omega,yac hD _,yaa⟩,?_⟩⟩
 rintro i m H3 ⟨him,s3,hD3⟩
 have ex3:=s3 _ _ ex
 by_cases hi:i<xs.length
 ·refine .inr ⟨⟨xs,_,SqL.of ex3,List.getElem?_eq_getElem hi⟩,?_⟩
  rintro x H' ⟨rfl,hx⟩
  obtain ⟨pr,r,rfl,er,hpr⟩:=exi i x (hx _ (SqL.of ex3))
  obtain ⟨d,cc,rfl⟩:=ytv (h2 r (List.mem_of_getElem? er))
  refine⟨pr,_,rfl,SqT.of (s3 _ _ hpr),rfl,_,_,rfl,_,_,rfl,rfl,?_,?_⟩
  ·intro k v e
   match k,e with
   |0,e=>cases e
   |1,e=>cases e
   |2,e=>exact e
   |3,e=>exact e
   |4,e=>exact e
   |k+5,e=>cases e
  ·have ft:=yb7 (rs:=rs) (ygy tm ff l) er
   have gb:ygy tm ff l [d,cc]=decide (ff≤d∧d≤l+tm):=rfl
   refine⟨_,rfl,_,rfl,_,_,rfl,rfl,_,rfl,?_⟩
   have yes:(ff≤d∧d≤l+tm)→∃zs,H' D=some (.lst zs)∧zs.length<sizeLine∧∃m',m' < m∧(i+1+m'=xs.length∧Same H (L2.upd H' D (.lst (zs++[.int cc])))∧L2.upd H' D (.lst (zs++[.int cc])) D=some (.lst ((((rs.take (i+1)).filter (ygy tm ff l)).map fun r=>r.getD 1 0).map V.int))):=fun z=>by
    refine⟨_,hD3,yaq ?_,m-1,by omega,by omega,s3.young hD,?_⟩
    ·rw[List.length_map,List.length_map]
     have l1:=List.length_filter_le (ygy tm ff l) (rs.take i)
     rw[List.length_take] at l1
     omega
    ·rw[yaa,ft,if_pos (by rw[gb];exact decide_eq_true z),List.map_append,List.map_append];rfl
   have no:¬ (ff≤d∧d≤l+tm)→∃m',m' < m∧(i+1+m'=xs.length∧Same H H'∧H' D=some (.lst ((((rs.take (i+1)).filter (ygy tm ff l)).map fun r=>r.getD 1 0).map V.int))):=fun z=>by
    refine⟨m-1,by omega,by omega,s3,?_⟩
    rw[ft,if_neg (by rw[gb];intro y;exact z (of_decide_eq_true y)),List.append_nil]
    exact hD3
   by_cases c1:ff≤d
   ·rw[decide_eq_true c1]
    refine yem ⟨_,rfl,_,rfl,_,_,rfl,rfl,_,_,rfl,rfl,_,rfl,?_⟩
    by_cases c2:d≤l+tm
    ·rw[decide_eq_true c2]
     exact yem ⟨_,rfl,yes ⟨c1,c2⟩⟩
    ·rw[decide_eq_false c2]
     exact ycd (no fun z=>c2 z.2)
   ·rw[decide_eq_false c1]
    exact ycd ⟨_,rfl,ycd (no fun z=>c1 z.1)⟩
 ·refine .inl ⟨⟨xs,SqL.of ex3,by omega⟩,D,((rs.take i).filter (ygy tm ff l)).map fun r=>r.getD 1 0,rfl,SqL.of hD3,?_⟩
  have ei:rs.take i=rs:=List.take_of_length_le (by omega)
  rw[ei]
  exact q H3 s3
end
end K16
namespace L2
open PySem PySem.Spec PySem.W PyProof.Rows
section
variable {X:Cx}{a b c d e:Expr}{ta tb tc td te:TE}{pos p2:Pos}
def zah (K:PySem.W.Frag)(te:TE):TE:=fun σ H Q=>te σ H fun x H1=>∃a xs,x = .ref a∧SqL K H1 a xs∧∀p,H1 p=none→Q (.ref p) (upd H1 p (.lst xs.reverse))
theorem Vals.rev {xs:List V}{its:List Value}(r:Vals xs its):Vals xs.reverse its.reverse:=by
 induction r with
 |nil=>exact .nil
 |cons h t ih=>rw[List.reverse_cons,List.reverse_cons];exact ih.append (.cons h .nil)
theorem yx1 {p1 p2:Pos}{kk:Nat}:PE X (.UnaryOp .USub (.Constant (.int 1) kk p1) p2) (tC (.int (-1))):=(ytf yod yag).weak fun σ H Q q=>⟨1,rfl,q⟩
theorem yvg {st:Expr}(he:PE X e te)(hs:PE X st (tC (.int (-1)))):PE X (.Subscript e (.Slice none none (some st) p2) pos) (zah X.K te):=by
 intro pins s σ H Q I h
 refine Subscript_ (thn (he pins s σ H _ I h) fun v s1 ⟨x,H1,I1,r1,q1⟩=>?_)
 obtain ⟨a,xs,rfl,hx,q⟩:=q1
 cases r1
 refine wpAny_Slice ?_
 rw[evalPart_none]
 refine zwp0 (zwp0 ?_)
 refine thn (hs pins s1 σ H1 (fun v H2=>v = .int (-1)∧H2=H1) I1 ⟨rfl,rfl⟩) fun vs s2 ⟨y,H2,I2,r2,e1,e2⟩=>?_
 subst e1 e2
 obtain ⟨t,rfl⟩:=r2
 obtain ⟨its,r,ht,hz⟩:=I2.list hx
 have I4:Inv X pins σ H2 { s2 with heap:=s2.heap.push { cls:=.type "slice",data:=.fields #[.none,.none,.int (-1) t] } }:=I2.kept (t':=s2.toks) fun b ob q=>Heap.get?_push_of_some _ q
 obtain ⟨its',r',ht',hz'⟩:=I4.list hx
 have hlen:=r'.length
 have hsl:Heap.IsSliceOf ({ s2 with heap:=s2.heap.push { cls:=.type "slice",data:=.fields #[.none,.none,.int (-1) t] } }:Shared).heap s2.heap.objs.size .none .none (.int (-1) t):=Heap.IsSliceOf.new ..
 show wpAny (model X.prog X.w) X.A (subscriptTail e (.Slice none none (some st) p2) (.ref a) (.ref s2.heap.objs.size)) (EP X pins σ Q) X.xe { s2 with heap:=s2.heap.push { cls:=.type "slice",data:=.fields #[.none,.none,.int (-1) t] } }
 revert I4 ht' hsl
 generalize s2.heap.objs.size=z
 generalize ({ s2 with heap:=s2.heap.push { cls:=.type "slice",data:=.fields #[.none,.none,.int (-1) t] } }:Shared)=s4
 intro I4 ht' hsl
 refine tail_any (ops:=[.ref a,.ref z]) ht'.isList.typeIs slot_list_getitem.lookup (wpAny_getItem_list_slice ht'.isList (st:=some (-1)) hsl .none .none (.int _ _) (by decide) ?_ (by rw[List.size_toArray];omega)) rfl
 rw[krv_pick]
 refine⟨.ref s4.heap.objs.size,_,I4.laid (t':=s4.toks) (o:=.lst xs.reverse) (fun b ob q=>Heap.get?_push_of_some _ q) (Nat.le_refl _) ?_,rfl,q _ (I4.hok.fresh (Nat.le_refl _))⟩
 exact⟨by rw[List.length_reverse];exact hz',its'.reverse,0,r'.rev,Heap.get?_push_size _ rfl⟩
end
theorem ya7 {σ₀:St}:∀(k:Nat) v,σ₀[k]? = some (some v)→σ₀[k]? = some (some v):=fun _ _ h=>h
theorem yaw {σ₀ σ:St}{j:Nat}{x:Option V}(h:∀(k:Nat) v,σ₀[k]? = some (some v)→σ[k]? = some (some v))(hj:σ₀[j]? = some none):∀(k:Nat) v,σ₀[k]? = some (some v)→(σ.set j x)[k]? = some (some v):=fun k v e=>by
 have:j≠k:=fun z=>by rw[z,e] at hj;cases hj
 rw[List.getElem?_set_ne this]
 exact h k v e
theorem yf3 {K:PySem.W.Frag}{a D:Addr}{xs:List V}{g:TG}{ti:TT}{te:TE}{σ₀:St}{H1:Hp}{R:Hp→Prop}(P:Nat→List V→Hp→Prop)(hD:H1 D=none)(hx:H1 a=some (.lst xs))(hn:xs.length≤1000)
 (st:∀i zs H H',P i zs H→(∀b o,b≠D→H b=some o→H' b=some o)→P i zs H') (h0:P 0 [] H1)
 (step:∀i x zs H,xs[i]? = some x→Same H1 H→P i zs H→∀(K1:V→Hp→Prop) (K2:Hp→Prop),(∀y H4,Same H H4→P (i+1) (zs++[y]) H4→K1 y H4)→(∀H3,Same H H3→P (i+1) zs H3→K2 H3)→
  g x σ₀ H fun σ2 H2=>(∀(k:Nat) v,σ₀[k]? = some (some v)→σ2[k]? = some (some v))∧ti σ2 H2 fun b H3=>if b=true then te σ2 H3 K1 else K2 H3)
 (fin:∀zs H,Same H1 H→P xs.length zs H→zs.length≤xs.length→H D=some (.lst zs)→R H) :
 ∃W:Nat→Nat→Hp→Prop,(∃m,W 0 m (upd H1 D (.lst [])))∧∀i m H,W i m H→((Itl K a).stop i H∧R H)∨((Itl K a).go i H∧∀x H',(Itl K a).yld i H x H'→g x σ₀ H' fun σ2 H2=>(∀(k:Nat) v,σ₀[k]? = some (some v)→σ2[k]? = some (some v))∧ti σ2 H2 fun b H3=>
  if b=true then te σ2 H3 fun y H4=>∃zs,H4 D=some (.lst zs)∧zs.length<sizeLine∧∃m',m' < m∧W (i+1) m' (upd H4 D (.lst (zs++[y]))) else ∃m',m' < m∧W (i+1) m' H3):=by
 refine⟨fun i m H=>i+m=xs.length∧Same H1 H∧∃zs,H D=some (.lst zs)∧zs.length≤i∧P i zs H,⟨xs.length,by omega,yac hD _,[],yaa,Nat.le_refl _,st _ _ _ _ h0 fun b o hb e=>by rw[yal hb];exact e⟩,?_⟩
 rintro i m H ⟨him,s1,zs,hz,hl,hp⟩
 have ex:=s1 _ _ hx
 by_cases hi:i<xs.length
 ·refine .inr ⟨⟨xs,_,SqL.of ex,List.getElem?_eq_getElem hi⟩,?_⟩
  rintro x H' ⟨rfl,hy⟩
  refine step i x zs H' (hy _ (SqL.of ex)) s1 hp _ _ (fun y H4 s4 p4=>⟨zs,s4 _ _ hz,yaq (by omega),m-1,by omega,by omega,(s1.trans s4).young hD,zs++[y],yaa,by rw[List.length_append,List.length_singleton];omega,st _ _ _ _ p4 fun b o hb e=>by rw[yal hb];exact e⟩) fun H3 s3 p3=>⟨m-1,by omega,by omega,s1.trans s3,zs,s3 _ _ hz,by omega,p3⟩
 ·have e:i=xs.length:=by omega
  subst e
  exact .inl ⟨⟨xs,SqL.of ex,Nat.le_refl _⟩,fin zs H s1 hp hl hz⟩
def Tups (H:Hp)(xs:List V)(rs:List (List Int)):Prop:=xs.length=rs.length∧∀(i:Nat) x r,xs[i]? = some x→rs[i]? = some r→∃p,x = .ref p∧H p=some (.tup (r.map V.int))
theorem Tups.nil {H:Hp}:Tups H [] []:=⟨rfl,fun i x r e=>by cases e⟩
theorem Tups.one {H:Hp}{p:Addr}{r:List Int}(h:H p=some (.tup (r.map V.int))):Tups H [.ref p] [r]:=⟨rfl,fun i x r' e1 e2=>by
 match i,e1,e2 with
 |0,e1,e2=>cases e1;cases e2;exact⟨p,rfl,h⟩
 |i+1,e1,_=>cases e1⟩
theorem Tups.append {H:Hp}{xs ys:List V}{rs ts:List (List Int)}(h:Tups H xs rs)(h':Tups H ys ts):Tups H (xs++ys) (rs++ts):=by
 refine⟨by rw[List.length_append,List.length_append,h.1,h'.1],fun i x r e1 e2=>?_⟩
 by_cases hi:i<xs.length
 ·rw[List.getElem?_append_left hi] at e1
  rw[List.getElem?_append_left (by rw[← h.1];exact hi)] at e2
  exact h.2 i x r e1 e2
 ·rw[List.getElem?_append_right (by omega)] at e1
  rw[List.getElem?_append_right (by rw[← h.1];omega),← h.1] at e2
  exact h'.2 _ x r e1 e2
theorem Tups.take {H:Hp}{xs:List V}{rs:List (List Int)}(h:Tups H xs rs)(n:Nat):Tups H (xs.take n) (rs.take n):=by
 refine⟨by rw[List.length_take,List.length_take,h.1],fun i x r e1 e2=>?_⟩
 have hi:i<n:=by have:=(List.getElem?_eq_some_iff.mp e1).1;rw[List.length_take] at this;omega
 rw[List.getElem?_take_of_lt hi] at e1 e2
 exact h.2 i x r e1 e2
theorem Tups.drop {H:Hp}{xs:List V}{rs:List (List Int)}(h:Tups H xs rs)(n:Nat):Tups H (xs.drop n) (rs.drop n):=by
 refine⟨by rw[List.length_drop,List.length_drop,h.1],fun i x r e1 e2=>?_⟩
 rw[List.getElem?_drop] at e1 e2
 exact h.2 _ x r e1 e2
theorem Tups.keep {H H':Hp}{xs:List V}{rs:List (List Int)}(h:Tups H xs rs)(k:∀(p:Addr) (z:List V),H p=some (.tup z)→H' p=some (.tup z)):Tups H' xs rs:=⟨h.1,fun i x r e1 e2=>by
 obtain ⟨p,e,hp⟩:=h.2 i x r e1 e2
 exact⟨p,e,k _ _ hp⟩⟩
theorem Tups.same {H H':Hp}{xs:List V}{rs:List (List Int)}(h:Tups H xs rs)(s:Same H H'):Tups H' xs rs:=h.keep fun _ _ e=>s _ _ e
theorem Tups.but {H H':Hp}{D:Addr}{ys xs:List V}{rs:List (List Int)}(h:Tups H xs rs)(hD:H D=some (.lst ys))(k:∀b o,b≠D→H b=some o→H' b=some o):Tups H' xs rs:=h.keep fun p z e=>k _ _ (ymz e hD (by intro z;cases z)) e
theorem Tups.at {H:Hp}{xs:List V}{rs:List (List Int)}(h:Tups H xs rs){i:Nat}{x:V}(e:xs[i]? = some x):∃p r,x = .ref p∧rs[i]? = some r∧H p=some (.tup (r.map V.int)):=by
 have hi:=(List.getElem?_eq_some_iff.mp e).1
 have hr:rs[i]? = some (rs[i]'(by rw[← h.1];exact hi)):=List.getElem?_eq_getElem (by rw[← h.1];exact hi)
 obtain ⟨p,e',hp⟩:=h.2 i x _ e hr
 exact⟨p,_,e',hr,hp⟩
theorem Tups.rows {H:Hp}{a:Addr}{xs:List V}{rs:List (List Int)}(h:Tups H xs rs)(ha:H a=some (.lst xs)):Rows H a rs:=by
 obtain ⟨ps,e⟩ : ∃ps:List Addr,xs=ps.map V.ref:=by
  have:∀(xs:List V) (rs:List (List Int)),Tups H xs rs→∃ps:List Addr,xs=ps.map V.ref:=by
   intro xs
   induction xs with
   |nil=>exact fun _ _=>⟨[],rfl⟩
   |cons x r ih=>
    intro rs h
    obtain ⟨p,_,e,_⟩:=h.at (i:=0) rfl
    obtain ⟨ps,e'⟩:=ih (rs.drop 1) (by simpa using h.drop 1)
    exact⟨p::ps,by rw[e,e'];rfl⟩
  exact this xs rs h
 subst e
 refine⟨ps,ha,by rw[← h.1,List.length_map],fun i p r e1 e2=>?_⟩
 obtain ⟨q,e,hq⟩:=h.2 i (.ref p) r (by rw[List.getElem?_map,e1];rfl) e2
 cases e
 exact hq
theorem Rows.tups {H:Hp}{a:Addr}{rs:List (List Int)}(h:Rows H a rs):∃xs,H a=some (.lst xs)∧Tups H xs rs:=by
 obtain ⟨ps,h1,h2,h3⟩:=h
 refine⟨_,h1,by rw[List.length_map,h2],fun i x r e1 e2=>?_⟩
 rw[List.getElem?_map] at e1
 cases q:ps[i]? with
 |none=>rw[q] at e1;cases e1
 |some p=>rw[q] at e1;cases e1;exact⟨p,rfl,h3 i p r q e2⟩
theorem yaz {α:Type}{rs:List α}{i:Nat}{r:α}(e:rs[i]? = some r):rs.take (i+1)=rs.take i++[r]:=by
 obtain ⟨hi,e'⟩:=List.getElem?_eq_some_iff.mp e
 rw[List.take_succ_eq_append_getElem hi,e']
theorem Tups.eqB {K:PySem.W.Frag}{H:Hp}{a b:Addr}{xs:List V}{rs:List (List Int)}(h:Tups H xs rs)(ha:H a=some (.lst xs))(hb:H b=some (.lst xs))(n:a≠b):EqB K H 1 (.ref a) (.ref b) true:=by
 have si:∀(j:Nat) x y,xs[j]? = some x→xs[j]? = some y→EqB K H 0 x y ((fun _=>true) j):=fun j x y e1 e2=>by
  rw[e1] at e2
  cases e2
  obtain ⟨p,r,rfl,_⟩:=h.at e1
  exact .same
 have:=EqB.lst (K:=K) (n:=0) (fun _=>true) n rfl (SqL.of ha) (SqL.of hb) si
 rw[ytw] at this
 exact this
def yv9:Nat→Nat
 |0=>1
 |1=>3
 |_=>4
theorem yos (cl:Nat→Addr)(j:Nat):ykb cl j=cl (yv9 j):=by
 match j with
 |0=>rfl
 |1=>rfl
 |j+2=>rfl
def ydv (rs:List (List Int)):Option Nat:=if 30<rs.length then some 5 else (ybs rs).map yv9
def yeo (rs os:List (List Int))(tm:Int):Option Nat:=match ydv rs with
 |some n=>some n
 |none=>match ydv os with
  |some n=>some n
  |none=>if ylu tm then none else some 2
theorem yh5 {rs:List (List Int)}(h:30<rs.length):ydv rs=some 5:=by unfold ydv;rw[if_pos h]
theorem yjj {rs:List (List Int)}{j:Nat}(h:rs.length≤30)(e:ybs rs=some j):ydv rs=some (yv9 j):=by unfold ydv;rw[if_neg (by omega),e];rfl
theorem ygg {rs:List (List Int)}(h:rs.length≤30)(e:ybs rs=none):ydv rs=none:=by unfold ydv;rw[if_neg (by omega),e];rfl
theorem yh6 {rs os:List (List Int)}{tm:Int}{n:Nat}(h:ydv rs=some n):yeo rs os tm=some n:=by unfold yeo;rw[h]
theorem yh7 {rs os:List (List Int)}{tm:Int}{n:Nat}(h:ydv rs=none)(h':ydv os=some n):yeo rs os tm=some n:=by unfold yeo;rw[h,h']
theorem yh8 {rs os:List (List Int)}{tm:Int}(h:ydv rs=none)(h':ydv os=none):yeo rs os tm=if ylu tm then none else some 2:=by unfold yeo;rw[h,h']
def yr4 (cl:Nat→Addr):Sp:=fun vs H Q E=>∃(a b:Addr) (tm:Int) (rs os:List (List Int)),vs=[.ref a,.ref b,.int tm]∧Rows H a rs∧(∀r∈rs,r.length=3)∧Rows H b os∧(∀r∈os,r.length=2)∧
 (∀n,yeo rs os tm=some n→∀H',Same H H'→E (.ref (cl n)) none H')∧(yeo rs os tm=none→∀t l o H',H t=none→H l=none→H o=none→Same H H'→Rows H' l rs→Rows H' o os→H' t=some (.tup [.ref l,.ref o])→Q (.ref t) H')
def ybj (u:Int)(r:List Int):Bool:=decide (u≤r.getD 2 0)
def unitsOf (rs:List (List Int)):Int:=(rs.map fun r=>r.getD 1 0).sum
def ydh:Int→List (List Int)→Bool
 |_,[]=>true
 |e,r::rs=>decide (e<r.getD 0 0∧r.getD 0 0≤r.getD 1 0∧r.getD 1 0≤999)&&ydh (r.getD 1 0) rs
def yb2 (d:Int)(r:List Int):Bool:=decide (r.getD 0 0≤d∧d≤r.getD 1 0)
def yd9 (d:Int)(ss:List (List Int)):Bool:=ss.any (yb2 d)
def yc8 (os:List (List Int))(tm:Int)(ss:List (List Int)):Int:=(ss.map fun r=>yan os tm (r.getD 0 0) (r.getD 1 0)).sum
def ye8 (rs os:List (List Int))(tm u:Int)(ss:List (List Int)):Int:=unitsOf ((rs.filter (ybj u)).filter fun r=>!yd9 (r.getD 0 0) ss)+yc8 os tm ss
def yr5:Sp:=fun vs H Q _=>∃(a:Addr) (u:Int) (rs:List (List Int)),vs=[.ref a,.int u]∧Rows H a rs∧(∀r∈rs,r.length=3)∧rs.length≤100∧∀l H',H l=none→Same H H'→Rows H' l (rs.filter (ybj u))→Q (.ref l) H'
def yne:Sp:=fun vs H Q _=>∃(a:Addr) (rs:List (List Int)),vs=[.ref a]∧Rows H a rs∧(∀r∈rs,r.length=3)∧rs.length≤100∧∀H',Same H H'→Q (.int (unitsOf rs)) H'
end L2
namespace K16
open PySem L2
abbrev yby:Stmt:=top 23
abbrev yi1:List Str:=["lots","outs","term","goods","gone"]
abbrev ycj:List Str:=["lots","outs","term"]
theorem sc_checked_both:FnScope yi1 ycj (yab yby):=⟨rfl,rfl,rfl,by decide +kernel,rfl,by decide +kernel,by decide +kernel⟩
abbrev ycq:Stmt:=top 35
abbrev yh9:List Str:=["lots","duty"]
abbrev yea:List Str:=["lots","duty"]
theorem yl0:FnScope yh9 yea (yab ycq):=⟨rfl,rfl,rfl,by decide +kernel,rfl,by decide +kernel,by decide +kernel⟩
abbrev ydi:Stmt:=top 36
abbrev yjk:List Str:=["lots"]
abbrev yep:List Str:=["lots"]
theorem ynf:FnScope yjk yep (yab ydi):=⟨rfl,rfl,rfl,by decide +kernel,rfl,by decide +kernel,by decide +kernel⟩
section
variable {P:Program}{w:World}{K:PySem.W.Frag}{mg:Str→Option Value}{base:Heap}{f:Addr}{fd:FuncData}{cl:Nat→Addr}(T:Txt K mg cl)(B:Bn mg)
include T B
theorem yia (G_checked_lots:Cal P w K mg base (CXE P w) 3 "checked_lots" ych (ypr (cl 5) (ykb cl) 3)) (G_checked_outs:Cal P w K mg base (CXE P w) 3 "checked_outs" yci (ypr (cl 5) (ykb cl) 2)) (G_check_term:Cal P w K mg base (CXE P w) 2 "check_term" ydt (yr0 (cl 2))) (F:Fun K "checked_both" "checked_both" yby f fd):FnOk P w K mg base (CXE P w) 4 f fd ycj (yr4 cl):=by
 refine F.okE sc_checked_both (fun vs H Q E h=>?_) (fun cdv A outer s H vs Q E hr h=>?_)
 ·obtain ⟨a,b,tm,rs,os,rfl,_⟩:=h;rfl
 obtain ⟨a,b,tm,rs,os,rfl,hR,h3,hO,h2,q1,q2⟩:=h
 refine⟨_,(yaf (yat (i:=3) sc_checked_both.nd rfl (Or.inl rfl) (yar (E:=E) G_checked_lots hr rfl (yhw fun _ _ z=>z) (yam (pv 0) yae)))
  (yaf (yat (i:=4) sc_checked_both.nd rfl (Or.inl rfl) (yar (E:=E) G_checked_outs hr rfl (yhw fun _ _ z=>z) (yam (pv 1) yae)))
  (yaf (yb6 (yar (E:=E) G_check_term hr rfl (yhw fun _ _ z=>z) (yam (pv 2) yae)))
  (yak (ya2 (ybf (yam (pv 3) (yam (pv 4) yae)))))))),?_⟩
 refine⟨_,rfl,a,rs,rfl,hR,h3,fun c=>q1 5 (yh6 (yh5 c)) H (Same.refl H),fun c j e H' sm=>by rw[yos];exact q1 _ (yh6 (yjj c e)) H' sm,fun rn rb l H1 hl s1 R1=>?_⟩
 have r0:=ygg rn rb
 refine⟨_,rfl,b,os,rfl,hO.same s1,h2,fun c=>q1 5 (yh7 r0 (yh5 c)) H1 s1,fun c j e H' sm=>by rw[yos];exact q1 _ (yh7 r0 (yjj c e)) H' (s1.trans sm),fun on ob o H2 ho s2 R2=>?_⟩
 have o0:=ygg on ob
 have bt:=yh8 (tm:=tm) r0 o0
 have s12:=s1.trans s2
 refine⟨_,rfl,tm,rfl,fun c=>?_,fun c=>q1 2 (by rw[bt,if_neg c]) H2 s12⟩
 rw[if_pos c] at bt
 refine⟨_,rfl,_,rfl,by show 2≤sizeLine;decide,fun t ht=>?_⟩
 have s3:=yac (H:=H2) ht (.tup [.ref l,.ref o])
 exact q2 bt t l o _ (s12.free ht) hl (s1.free ho) (s12.trans s3) ((R1.same s2).same s3) (R2.same s3) yaa
theorem yl1 (F:Fun K "dear_ones" "dear_ones" ycq f fd):FnOk P w K mg base CX0 1 f fd yea yr5:=by
 refine F.ok yl0 (fun vs H Q E h=>?_) (fun cdv A outer s H vs Q E hr h=>?_)
 ·obtain ⟨a,u,rs,rfl,_⟩:=h;rfl
 obtain ⟨a,u,rs,rfl,hR,h3,hn,q⟩:=h
 refine⟨_,(yak (ya2 (yc2 (N':=["lot","duty"]) (ix:=[none,some 1]) (g:=(ybi 0)) (ti:=(ygs (tOp (rI0 fun i j=>.bl (decide (j≤i))) (tOp (yq9 K) (ybv 0) (tC (.int 2))) (ybv 1)))) (te:=(ybv 0)) rfl (yax (N:=yh9) (D:=yab ycq) (by decide +kernel)) (ya8 (pv 0)) (fun C s H fp=>(yai (i:=0) (show (["lot","duty"]:List Str).Nodup by decide +kernel) rfl (Or.inl rfl))) (fun C s H fp=>(yd2 (ya5 ypi (ya3 ybg (pv 0) yag (fun _ _=>rfl)) (pv 1) (yba _)))) (fun C s H fp=>(pv 0))))),?_⟩
 obtain ⟨xs,ex,ht⟩:=hR.tups
 refine⟨_,rfl,a,rfl,⟨xs,SqL.of ex⟩,fun D hD=>?_⟩
 refine yf3 (fun i zs H'=>(∀(p:Addr) (z:List V),H p=some (.tup z)→H' p=some (.tup z))∧Tups H zs ((rs.take i).filter (ybj u))) hD ex (by rw[ht.1];omega) (fun i zs H1 H2 h k=>⟨fun p z e=>k _ _ (yaj e hD) (h.1 p z e),h.2⟩) ⟨fun _ _ e=>e,Tups.nil⟩ ?_ ?_
 ·rintro i x zs H1 ei s1 ⟨k1,ht1⟩ K1 K2 q1 q2
  obtain ⟨p,r,rfl,er,hp⟩:=ht.at ei
  obtain ⟨d,c,v,rfl⟩:=ync (h3 r (List.mem_of_getElem? er))
  have ft:=yb7 (rs:=rs) (ybj u) er
  refine⟨yaw ya7 rfl,?_⟩
  refine⟨_,rfl,p,_,_,.int v,rfl,rfl,SqT.of (s1 _ _ hp),rfl,_,rfl,_,_,rfl,rfl,_,rfl,?_⟩
  by_cases c1:u≤v
  ·rw[decide_eq_true c1]
   refine yem ⟨_,rfl,q1 _ _ (Same.refl _) ⟨k1,?_⟩⟩
   rw[ft,if_pos (show ybj u [d,c,v]=true from decide_eq_true c1)]
   exact ht1.append (Tups.one hp)
  ·rw[decide_eq_false c1]
   refine ycd (q2 _ (Same.refl _) ⟨k1,?_⟩)
   rw[ft,if_neg (show ¬ ybj u [d,c,v]=true from fun z=>c1 (of_decide_eq_true z)),List.append_nil]
   exact ht1
 ·rintro zs H1 s1 ⟨k1,ht1⟩ hl hz
  rw[ht.1,List.take_length] at ht1
  exact q D H1 hD s1 ((ht1.keep k1).rows hz)
theorem yng (F:Fun K "units_of" "units_of" ydi f fd):FnOk P w K mg base CX0 1 f fd yep yne:=by
 refine F.ok ynf (fun vs H Q E h=>?_) (fun cdv A outer s H vs Q E hr h=>?_)
 ·obtain ⟨a,rs,rfl,_⟩:=h;rfl
 obtain ⟨a,rs,rfl,hR,h3,hn,q⟩:=h
 refine⟨_,(yak (ya2 (yao (yen rfl) rfl B.sum PyProof.Rows.boot_sum (yam (yc2 (N':=["day","count","duty"]) (ix:=[none,none,none]) (g:=(yob K 3 (ycc (ybi 0) (ycc (ybi 1) (ycc (ybi 2) yoa))))) (ti:=ylj) (te:=(ybv 1)) rfl (yax (N:=yjk) (D:=yab ydi) (by decide +kernel)) (ya8 (pv 0)) (fun C s H fp=>(ybl rfl (yah (yai (i:=0) (show (["day","count","duty"]:List Str).Nodup by decide +kernel) rfl (Or.inl rfl)) (yah (yai (i:=1) (show (["day","count","duty"]:List Str).Nodup by decide +kernel) rfl (Or.inl rfl)) (yah (yai (i:=2) (show (["day","count","duty"]:List Str).Nodup by decide +kernel) rfl (Or.inl rfl)) ya4))))) (fun C s H fp=>ycn) (fun C s H fp=>(pv 1))) yae)))),?_⟩
 obtain ⟨xs,ex,ht⟩:=hR.tups
 refine⟨_,rfl,a,rfl,⟨xs,SqL.of ex⟩,fun D hD=>?_⟩
 refine yf3 (fun i zs _=>zs=((rs.take i).map fun r=>r.getD 1 0).map V.int) hD ex (by rw[ht.1];omega) (fun i zs H1 H2 h k=>h) rfl ?_ ?_
 ·rintro i x zs H1 ei s1 rfl K1 K2 q1 q2
  obtain ⟨p,r,rfl,er,hp⟩:=ht.at ei
  obtain ⟨d,c,v,rfl⟩:=ync (h3 r (List.mem_of_getElem? er))
  refine⟨p,_,rfl,SqT.of (s1 _ _ hp),rfl,_,_,rfl,_,_,rfl,_,_,rfl,rfl,yaw (yaw (yaw ya7 rfl) rfl) rfl,?_⟩
  refine⟨_,rfl,q1 _ _ (Same.refl _) ?_⟩
  rw[yaz er,List.map_append,List.map_append];rfl
 ·rintro zs H1 s1 rfl hl hz
  rw[ht.1,List.take_length] at hz
  exact⟨D,_,rfl,SqL.of hz,q H1 s1⟩
end
end K16
namespace L2
open PySem PySem.Spec PyProof.Rows
section
variable {κ:Type}[DecidableEq κ]
def ynh (kvs:List (κ×V))(k:κ):Option V:=(kvs.find? fun kv=>decide (kv.1=k)).map (·.2)
def yib (kvs:List (κ×V))(k:κ)(v:V):List (κ×V):=
 if (kvs.any fun kv=>decide (kv.1=k))=true then kvs.map (fun kv=>if kv.1=k then (kv.1,v) else kv) else kvs++[(k,v)]
theorem yhm {p:κ×V}{r:List (κ×V)}{k:κ}(e:p.1=k):ynh (p::r) k=some p.2:=by simp [ynh,List.find?_cons,e]
theorem yhn {p:κ×V}{r:List (κ×V)}{k:κ}(e:¬ p.1=k):ynh (p::r) k=ynh r k:=by simp [ynh,List.find?_cons,e]
theorem ykk (k:κ):∀kvs:List (κ×V),(kvs.any fun kv=>decide (kv.1=k))=(ynh kvs k).isSome
 |[]=>rfl
 |p::r=>by
  rw[List.any_cons]
  by_cases e:p.1=k
  ·simp only[yhm e,decide_eq_true e,Bool.true_or,Option.isSome_some]
  ·rw[yhn e,decide_eq_false e,Bool.false_or];exact ykk k r
theorem ye4 (kvs:List (κ×V))(k:κ)(v:V):(yib kvs k v).length≤kvs.length+1:=by
 unfold yib
 split
 ·rw[List.length_map];omega
 ·rw[List.length_append,List.length_cons,List.length_nil];omega
theorem yt2 {kvs:List (κ×V)}{k:κ}(v:V)(h:ynh kvs k=none):yib kvs k v=kvs++[(k,v)]:=by
 unfold yib
 rw[ykk,h]
 exact if_neg (by decide)
theorem RelO.isSome_eq {o:Option V}{u:Option Value}(r:RelO o u):o.isSome=u.isSome:=by
 cases o with
 |none=>cases u with
  |none=>rfl
  |some _=>exact(show False from r).elim
 |some _=>cases u with
  |none=>exact(show False from r).elim
  |some _=>rfl
theorem KV.val {kvs:List (κ×V)}{vs:List (κ×Value)}(r:KV kvs vs)(k:κ):RelO (ynh kvs k) (valueAt vs k):=by
 unfold KV at r
 induction r with
 |nil=>exact True.intro
 |@cons p q ps qs h t ih=>
  obtain ⟨h1,h2⟩:=h
  by_cases e:p.1=k
  ·have e':q.1=k:=h1.symm.trans e
   have b:valueAt (q::qs) k=some q.2:=by simp [valueAt,List.find?_cons,e']
   rw[yhm e,b];exact h2
  ·have e':¬ q.1=k:=fun z=>e (h1.trans z)
   have b:valueAt (q::qs) k=valueAt qs k:=by simp [valueAt,List.find?_cons,e']
   rw[yhn e,b];exact ih
theorem KV.any {kvs:List (κ×V)}{vs:List (κ×Value)}(r:KV kvs vs)(k:κ):(kvs.any fun kv=>decide (kv.1=k))=vs.any fun kv=>decide (kv.1=k):=by
 unfold KV at r
 induction r with
 |nil=>rfl
 |cons h t ih=>rw[List.any_cons,List.any_cons,ih,h.1]
theorem KV.repl {kvs:List (κ×V)}{vs:List (κ×Value)}(r:KV kvs vs)(k:κ){y:V}{u:Value}(ry:RelV y u) :
 KV (kvs.map fun kv=>if kv.1=k then (kv.1,y) else kv) (vs.map fun kv=>if kv.1=k then (kv.1,u) else kv):=by
 unfold KV at r ⊢
 induction r with
 |nil=>exact .nil
 |@cons p q ps qs h t ih=>
  rw[List.map_cons,List.map_cons]
  refine .cons ?_ ih
  obtain ⟨h1,h2⟩:=h
  by_cases e:p.1=k
  ·rw[if_pos e,if_pos (h1.symm.trans e)];exact⟨h1,ry⟩
  ·rw[if_neg e,if_neg (fun z=>e (h1.trans z))];exact⟨h1,h2⟩
theorem KV.put {kvs:List (κ×V)}{vs:List (κ×Value)}(r:KV kvs vs)(k:κ){y:V}{u:Value}(ry:RelV y u):KV (yib kvs k y) (stored vs k u):=by
 unfold yib stored
 rw[r.any k]
 by_cases e:(vs.any fun kv=>decide (kv.1=k))=true
 ·rw[if_pos e,if_pos e];exact r.repl k ry
 ·rw[if_neg e,if_neg e];exact Paired.snoc r ⟨rfl,ry⟩
theorem KV.length {kvs:List (κ×V)}{vs:List (κ×Value)}(r:KV kvs vs):kvs.length=vs.length:=Paired.length r
end
theorem ywa {P:Program}{w:World}{k:Key}{u:Value}(r:RelV (kV k) u):(yb0 P w).is k u=true:=by
 cases k with
 |inl i=>obtain ⟨t,e⟩:=(show ∃t,u=Value.int i t from r);subst e;exact ymx P w i t
 |inr x=>obtain ⟨t,e⟩:=(show ∃t,u=Value.str x t from r);subst e;exact ymy P w x t
theorem yl2 {P:Program}{w:World}:∀{ks:List Key}{us:List Value},Vals (ks.map kV) us→ItemsAre (yb0 P w) ks us
 |[],_,r=>by rw[List.map_nil] at r;cases r;exact .nil
 |k::ks,_,r=>by
  rw[List.map_cons] at r
  cases r with
  |cons h t=>exact .cons (ywa h) (yl2 t)
abbrev KT (H:Hp):List (List Key×V)→List (List Key×Addr×Value)→Prop:=Paired fun p q=>p.1=q.1∧H q.2.1=some (.tup (p.1.map kV))∧RelV p.2 q.2.2
theorem KT.val {H:Hp}{kvs:List (List Key×V)}{xs:List (List Key×Addr×Value)}(r:KT H kvs xs)(k:List Key):RelO (ynh kvs k) ((atKey xs k).map (·.2)):=by
 induction r with
 |nil=>exact True.intro
 |@cons p q ps qs h t ih=>
  obtain ⟨h1,_,h2⟩:=h
  by_cases e:p.1=k
  ·have e':q.1=k:=h1.symm.trans e
   have b:atKey (q::qs) k=some q.2:=by simp [atKey,List.find?_cons,e']
   rw[yhm e,b];exact h2
  ·have e':¬ q.1=k:=fun z=>e (h1.trans z)
   have b:atKey (q::qs) k=atKey qs k:=by simp [atKey,List.find?_cons,e']
   rw[yhn e,b];exact ih
theorem KT.repl {H:Hp}{kvs:List (List Key×V)}{xs:List (List Key×Addr×Value)}(r:KT H kvs xs)(k:List Key){y:V}{u:Value}(ry:RelV y u) :
 KT H (kvs.map fun kv=>if kv.1=k then (kv.1,y) else kv) (xs.map (putAt k u)):=by
 induction r with
 |nil=>exact .nil
 |@cons p q ps qs h t ih=>
  rw[List.map_cons,List.map_cons]
  refine .cons ?_ ih
  obtain ⟨h1,h2,h3⟩:=h
  unfold putAt
  by_cases e:p.1=k
  ·rw[if_pos e,if_pos (h1.symm.trans e)];exact⟨h1,h2,ry⟩
  ·rw[if_neg e,if_neg (fun z=>e (h1.trans z))];exact⟨h1,h2,h3⟩
theorem KT.put {H:Hp}{kvs:List (List Key×V)}{xs:List (List Key×Addr×Value)}(r:KT H kvs xs)(k:List Key){b:Addr}{y:V}{u:Value}(hb:H b=some (.tup (k.map kV)))(ry:RelV y u) :
 KT H (yib kvs k y) (storedH xs k b u):=by
 have e:(kvs.any fun kv=>decide (kv.1=k))=(atKey xs k).isSome:=by
  rw[ykk,(r.val k).isSome_eq,Option.isSome_map]
 unfold yib storedH
 rw[e]
 by_cases q:(atKey xs k).isSome=true
 ·rw[if_pos q,if_pos q];exact r.repl k ry
 ·rw[if_neg q,if_neg q];exact Paired.snoc r ⟨rfl,hb,ry⟩
theorem KT.keeps {H H':Hp}{kvs:List (List Key×V)}{xs:List (List Key×Addr×Value)}(r:KT H kvs xs)(ht:∀b ys,H b=some (.tup ys)→H' b=some (.tup ys)):KT H' kvs xs:=
 Paired.mapP r fun _ _ z=>⟨z.1,ht _ _ z.2.1,z.2.2⟩
section
variable {P:Program}{w:World}{H:Hp}{h:Heap}{a:Addr}
theorem yx2 {u:HO}(ok:HOk P w H h)(e:Rd H a u):ObjOk P w H h a u:=e.ok ok
theorem yt3 {kvs:List (Key×V)}(ok:HOk P w H h)(e:Rd H a (.dK kvs)):kvs.length≤sizeLine∧(a == sysModules)=false∧∃vs,KV kvs vs∧h.DictOf (yb0 P w) a vs:=
 show ObjOk P w H h a (.dK kvs) from yx2 ok e
theorem yzc {kvs:List (Key×V)}(ok:HOk P w H h)(e:H a=some (.dK kvs)):kvs.length≤sizeLine∧(a == sysModules)=false∧∃vs,KV kvs vs∧h.DictOf (yb0 P w) a vs:=yt3 ok (.inl e)
theorem yot {ks:List Key}(ok:HOk P w H h)(e:H a=some (.tup (ks.map kV))):(tupleKind (yb0 P w)).is h ks a:=by
 obtain ⟨_,its,r,o,h1,h2,n,h3⟩:=(show ObjOk P w H h a (.tup (ks.map kV)) from ok a _ e)
 exact⟨o,its.toArray,n,h1,h2,h3,by simpa using yl2 r⟩
theorem yt4 {kvs:List (List Key×V)}(ok:HOk P w H h)(e:Rd H a (.dT kvs)):kvs.length≤sizeLine∧(a == sysModules)=false∧
 ∃xs,KT H kvs xs∧h.DictOfH (tupleKind (yb0 P w)) a xs:=by
 obtain ⟨z,y,xs,r,o,es,ep,h1,h2,h3,h4,h5⟩:=(show ObjOk P w H h a (.dT kvs) from yx2 ok e)
 refine⟨z,y,xs,r,o,es,ep,h1,h2,h3,h4,fun x hx=>?_,h5⟩
 have all:∀{l:List (List Key×V)}{m:List (List Key×Addr×Value)},KT H l m→∀x∈m,(tupleKind (yb0 P w)).is h x.1 x.2.1:=by
  intro l m q
  induction q with
  |nil=>intro x hx;exact nomatch hx
  |@cons p q ps qs hq t ih=>
   intro x hx
   rcases List.mem_cons.mp hx with e|hx
   ·subst e
    exact yot ok (by rw[← hq.1];exact hq.2.1)
   ·exact ih x hx
 exact all r x hx
theorem yx3 {kvs:List (List Key×V)}(ok:HOk P w H h)(e:H a=some (.dT kvs)):kvs.length≤sizeLine∧(a == sysModules)=false∧
 ∃xs,KT H kvs xs∧h.DictOfH (tupleKind (yb0 P w)) a xs:=yt4 ok (.inl e)
end
def yys (H:Hp)(a:Addr)(y:V)(r:Option V):Prop:=
 (∃kvs k,Rd H a (.dK kvs)∧y=kV k∧r=ynh kvs k)∨∃kvs k b,Rd H a (.dT kvs)∧y = .ref b∧H b=some (.tup (k.map kV))∧r=ynh kvs k
def DPut (H:Hp)(a:Addr)(y v:V)(H':Hp):Prop:=
 (∃kvs k,H a=some (.dK kvs)∧y=kV k∧kvs.length<sizeLine∧H'=upd H a (.dK (yib kvs k v)))∨
 ∃kvs k b,H a=some (.dT kvs)∧y = .ref b∧H b=some (.tup (k.map kV))∧kvs.length<sizeLine∧H'=upd H a (.dT (yib kvs k v))
theorem DPut.t {H:Hp}{a b:Addr}{kvs:List (List Key×V)}{k:List Key}{v:V}(e:H a=some (.dT kvs))(eb:H b=some (.tup (k.map kV)))(hl:kvs.length<sizeLine) :
 DPut H a (.ref b) v (upd H a (.dT (yib kvs k v))):=.inr ⟨kvs,k,b,e,rfl,eb,hl,rfl⟩
section
variable {X:Cx}{pins:List (Addr×Obj)}{σ:St}{H:Hp}{s:Shared}{a:Addr}{y v:V}{u r:Value}{o:Option V}{A:Around}{E:Value→Shared→Prop}
theorem Inv.big (I:Inv X pins σ H s):sysModules<s.heap.objs.size:=by
 have h:mainGlobals<s.heap.objs.size:=(I.mod.glob.keeps I.bk).lt
 exact Nat.lt_trans (by decide) h
theorem yr6 {Q:Value→Shared→Prop}(hu:A.units+1<cLine)(I:Inv X pins σ H s)(g:yys H a y (some v))(ry:RelV y u)(h:∀w' s',Inv X pins σ H s'→RelV v w'→Q w' s') :
 wpAny (model X.prog X.w) A (getItem (.ref a) u) Q E s:=by
 rcases g with ⟨kvs,k,e,ey,l⟩ | ⟨kvs,k,b,e,ey,eb,l⟩
 ·subst ey
  obtain ⟨z,hd,vs,rel,dd⟩:=yt3 I.hok e
  obtain ⟨w',hw,rw'⟩:=RelO.some_of (v:=v) (o:=valueAt vs k) (by rw[l];exact rel.val k)
  exact wpAny_getItem_of (ywa ry) dd.mapOf hw (h w' _ (I.tok _) rw')
 ·subst ey
  cases (show u=Value.ref b from ry)
  obtain ⟨z,hd,xs,rel,dd⟩:=yt4 I.hok e
  obtain ⟨w',hw,rw'⟩:=RelO.some_of (v:=v) (o:=(atKey xs k).map (·.2)) (by rw[l];exact rel.val k)
  obtain ⟨p,hp,hp2⟩:=Option.map_eq_some_iff.mp hw
  refine wpAny_getItem_heap (tupleKind_room_in1 hu) (yot I.hok eb) dd hp ?_
  rw[hp2]
  exact h w' _ (I.tok _) rw'
theorem ykl {h':Heap}{t':Nat}{ob:HO}(I:Inv X pins σ H s)(mu:Mut (H a))(hs:Heap.SameBut a s.heap h')(he:∃q,h'.get? a=some q)(new:ObjOk X.prog X.w (upd H a ob) h' a ob) :
 Inv X pins σ (upd H a ob) { s with heap:=h',toks:=t' }:=
 I.write (x:=a) (e:=a) mu (.inl rfl) (fun b q hb z=>(hs.2 b hb).trans z) he new
theorem yx4 {P:Program}{w:World}{H':Hp}{h':Heap}{kvs:List (Key×V)}{vs:List (Key×Value)}(z:kvs.length≤sizeLine)(hd:(a == sysModules)=false)(rel:KV kvs vs)(dd:h'.DictOf (yb0 P w) a vs) :
 ObjOk P w H' h' a (.dK kvs):=⟨z,hd,vs,rel,dd⟩
theorem yr7 {H':Hp}{Q:Unit→Shared→Prop}(hu:A.units+1<cLine)(I:Inv X pins σ H s)(g:DPut H a y v H')(ry:RelV y u)(rv:RelV v r)(h:∀s',Inv X pins σ H' s'→Q () s') :
 wpAny (model X.prog X.w) A (setItem (.ref a) u r) Q E s:=by
 rcases g with ⟨kvs,k,e,ey,l,eH⟩ | ⟨kvs,k,b,e,ey,eb,l,eH⟩
 ·subst ey eH
  obtain ⟨z,hd,vs,rel,dd⟩:=yzc I.hok e
  have hz:vs.length≤sizeLine:=by rw[← rel.length];exact z
  have hl:(yib kvs k v).length≤sizeLine:=by have:=ye4 kvs k v;omega
  refine wpAny_setItem_pairs (hsz:=hz) (ywa ry) dd fun h' dd' hs=>h _ ?_
  have he:∃q,h'.get? a=some q:=let ⟨q,_,_,hq,_⟩:=dd';⟨q,hq⟩
  exact ykl I (by rw[e];exact True.intro) hs he (yx4 hl hd (rel.put k rv) dd')
 ·subst ey eH
  cases (show u=Value.ref b from ry)
  obtain ⟨z,hd,xs,rel,dd⟩:=yx3 I.hok e
  have hz:xs.length≤sizeLine:=by rw[← Paired.length rel];exact z
  have hl:(yib kvs k v).length≤sizeLine:=by have:=ye4 kvs k v;omega
  refine wpAny_setItem_heap (hsz:=hz) (tupleKind_room_in1 hu) (yot I.hok eb) dd fun h' dd' hs=>h _ ?_
  obtain ⟨q,es,ep,hq,h2,h3,h4,_,h5⟩:=dd'
  refine ykl I (by rw[e];exact True.intro) hs ⟨q,hq⟩ ⟨hl,hd,_,(rel.put k eb rv).keeps fun c ys ec=>?_,q,es,ep,hq,h2,h3,h4,h5⟩
  rw[yal (ymz ec e (fun z=>nomatch z))]
  exact ec
end
section
variable {X:Cx}{pins:List (Addr×Obj)}{σ:St}{H:Hp}{s:Shared}{a:Addr}{kvs:List (Key×V)}{k:Key}{u:Value}{A:Around}{E:Value→Shared→Prop}
end
def yzt (i:Expr):Prop:=∀ov iv,subscripted i false ov iv=operate [ov,iv] (getItem ov iv)
theorem ywb {prog:Program}{w:World}{A:Around}{E:Value→Shared→Prop}{s:Shared}{env:Env}{value slice:Expr}{pos:Pos}{T id:String}{Q:Value→Shared→Prop}
 (hl:typeLookup (.type T) "__getitem__" = pure (some (.builtin id))) (hs:yzt slice)
 (h:wpAny (model prog w) A (eval value env) (fun o s₁=>wpAny (model prog w) A (eval slice env) (fun i s₂=>s₂.TypeIs o T∧wpAny (model prog w) A (getItem o i) Q E s₂) E s₁) E s) :
 wpAny (model prog w) A (eval (.Subscript value slice pos) env) Q E s:=by
 refine Subscript_ (wpAny_mono h (fun o s₁ h₁=>wpAny_mono h₁ (fun i s₂ h₂=>?_) fun _ _ x=>x) fun _ _ x=>x)
 obtain ⟨hT,h₂⟩:=h₂
 unfold subscriptTail
 refine zwb0 ?_
 rw[getitemInPython_of_ne hT.not_modules]
 refine zwb0 (wpAny_specialOf hT hl ?_)
 have fin:wpAny (model prog w) A (subscripted slice false o i) (fun r s₃=>wpAny (model prog w) A (letTemporaryGo value o r >>= fun _=>pure r) Q E s₃) E s₂:=by
  rw[hs o i]
  exact wpAny_operating (wpAny_mono h₂ (fun r s₃ h₃=>zwb0 (wpAny_letTemporaryGo (zwp0 h₃))) fun _ _ x=>x)
 first
  |exact zwp0 (zwb0 fin)
  |exact zwb0 (zwp0 (zwb0 fin))
  |exact zwb0 fin
theorem yni {X:Cx}{pins:List (Addr×Obj)}{σ:St}{H:Hp}{s:Shared}{a:Addr}{y:V}{o:Option V} (I:Inv X pins σ H s) (g:yys H a y o):s.TypeIs (.ref a) "dict" := by
 rcases g with ⟨kvs,k,e,_,_⟩ | ⟨kvs,k,b,e,_,_,_⟩
 ·obtain ⟨_,_,vs,_,dd⟩:=yt3 I.hok e
  exact dd.typeIs
 ·obtain ⟨_,_,xs,_,dd⟩:=yt4 I.hok e
  exact dd.typeIs
def yzd (td ty:TE):TE:=fun σ H Q=>td σ H fun x H1=>ty σ H1 fun y H2=>∃a v,x = .ref a∧yys H2 a y (some v)∧Q v H2
def yze (td ty tv:TE):TS:=fun D σ H=>tv σ H fun v H1=>td σ H1 fun x H2=>ty σ H2 fun y H3=>∃a H4,x = .ref a∧DPut H3 a y v H4∧D.nx σ H4
section
variable {X:Cx}{o i e value:Expr}{pos pos' tpos:Pos}{td ty tv:TE}
theorem ywc (hu:X.A.units+1<cLine)(ho:PE X o td)(hi:PE X i ty)(hs:yzt i):PE X (.Subscript o i pos) (yzd td ty):=by
 intro pins s σ H Q I h
 refine ywb PySem.F.slot_dict_getitem.lookup hs (thn (ho pins s σ H _ I h) fun u s1 ⟨x,H1,I1,rx,q1⟩=>thn (hi pins s1 σ H1 _ I1 q1) fun iv s2 ⟨y,H2,I2,ry,a,v,ex,g,q2⟩=>?_)
 subst ex
 obtain rfl:u=Value.ref a:=rx
 exact⟨yni I2 g,yr6 hu I2 g ry fun w' s3 I3 rw'=>⟨v,H2,I3,rw',q2⟩⟩
theorem ywd (hu:X.A.units+1<cLine)(ho:PE X o td)(hi:PE X i ty)(hv:PE X value tv)(hs:swapsWith value (some (.Subscript o i pos')) pos.line X.env=pure false) :
 PS X (.Assign [.Subscript o i pos'] value pos) (yze td ty tv):=by
 intro pins s σ H D I h
 refine wpAny_Assign_Subscript (thn (hv pins s σ H _ I h) fun r s1 ⟨v,H1,I1,rv,q1⟩=>thn (ho pins s1 σ H1 _ I1 q1) fun u s2 ⟨x,H2,I2,rx,q2⟩=>thn (hi pins s2 σ H2 _ I2 q2) fun iv s3 ⟨y,H3,I3,ry,a,H4,ex,g,q3⟩=>?_) hs
 subst ex
 obtain rfl:u=Value.ref a:=rx
 exact yr7 hu I3 g ry rv fun s4 I4=>⟨σ,H4,I4,q3⟩
end
theorem you {P:Program}{w:World}{H:Hp} (h:Heap) (hb:sysModules<h.objs.size):ObjOk P w H (h.push { cls:=.type "dict",data:=.dict #[] }) h.objs.size (.dT []) :=
 ⟨Nat.zero_le _,beq_eq_false_iff_ne.mpr (Ne.symm (Nat.ne_of_lt hb)),[],.nil,_,#[],0,Heap.get?_push_size _ rfl,⟨rfl,rfl,rfl⟩,rfl,rfl,List.nodup_nil⟩
def yx5:TE:=fun _ H Q=>∀p,H p=none→Q (.ref p) (upd H p (.dT []))
section
variable {X:Cx}{pos:Pos}
theorem yt5:PE X (.Dict [] [] pos) yx5:=fun pins s σ H Q I h=>
 wpAny_Dict_empty ⟨.ref s.heap.objs.size,_,I.laid (a:=s.heap.objs.size) (o:=.dT []) (t':=s.toks) (fun _ _ q=>Heap.get?_push_of_some _ q) (Nat.le_refl _) (you s.heap I.big),rfl,h _ (I.hok.fresh (Nat.le_refl _))⟩
end
def IsD (H:Hp)(a:Addr):Prop:=(∃kvs,Rd H a (.dK kvs))∨∃kvs,Rd H a (.dT kvs)
theorem yx6 {X:Cx}{pins:List (Addr×Obj)}{σ:St}{H:Hp}{s:Shared}{a:Addr}(I:Inv X pins σ H s)(d:IsD H a) :
 s.TypeIs (.ref a) "dict" ∧ (∀b,Value.ref a = .ref b→∃ob,s.heap.get? b=some ob∧ob.dict=none)∧(a == sysModules)=false:=by
 rcases d with ⟨kvs,e⟩ | ⟨kvs,e⟩
 ·obtain ⟨_,hd,vs,_,dd⟩:=yt3 I.hok e
  refine⟨dd.typeIs,fun b q=>?_,hd⟩
  cases q
  obtain ⟨ob,_,_,h1,h2,_⟩:=dd
  exact⟨ob,h1,h2.2.1⟩
 ·obtain ⟨_,hd,xs,_,dd⟩:=yt4 I.hok e
  refine⟨dd.typeIs,fun b q=>?_,hd⟩
  cases q
  obtain ⟨ob,_,_,h1,h2,_⟩:=dd
  exact⟨ob,h1,h2.2.1⟩
section
variable {X:Cx}{pins:List (Addr×Obj)}{σ:St}{H:Hp}{s:Shared}{a:Addr}{y d:V}{u r:Value}{o:Option V}{A:Around}{E:Value→Shared→Prop}
end
section
variable {X:Cx}{o e f:Expr}{apos cpos:Pos}{td ty tx:TE}
end
section
variable {X:Cx}{pins:List (Addr×Obj)}{σ:St}{H:Hp}{s:Shared}{a:Addr}{kvs:List (Key×V)}{A:Around}{E:Value→Shared→Prop}
end
section
variable {X:Cx}{pins:List (Addr×Obj)}{σ:St}{H:Hp}{s:Shared}{a:Addr}{y:V}{u:Value}{A:Around}{E:Value→Shared→Prop}
end
section
variable {X:Cx}{pins:List (Addr×Obj)}{σ:St}{H:Hp}{s:Shared}
theorem yr8 {a b:Addr}{kvs:List (List Key×V)}{k:List Key}{v:V}{r:Value}{A:Around}{E:Value→Shared→Prop}{Q:Unit→Shared→Prop}(hu:A.units<cLine)(I:Inv X pins σ H s)(e:H a=some (.dT kvs))(eb:H b=some (.tup (k.map kV)))(l:kvs.length<sizeLine)(rv:RelV v r)
 (h:∀s',Inv X pins σ (upd H a (.dT (yib kvs k v))) s'→Q () s'):wpAny (model X.prog X.w) A (dictSet a (.ref b) r) Q E s:=by
 obtain ⟨z,hd,xs,rel,dd⟩:=yx3 I.hok e
 have lp:=ye4 kvs k v
 refine wpAny_dictSet_heap (hsz:=by rw[← Paired.length rel];exact z) (show (tupleKind (yb0 X.prog X.w)).room A from hu) (yot I.hok eb) dd fun h' dd' hs=>h _ ?_
 obtain ⟨q,es,ep,hq,h2,h3,h4,_,h5⟩:=dd'
 refine ykl I (by rw[e];exact True.intro) hs ⟨q,hq⟩ ⟨by omega,hd,_,(rel.put k eb rv).keeps fun c ys ec=>?_,q,es,ep,hq,h2,h3,h4,h5⟩
 rw[yal (ymz ec e (fun z=>nomatch z))];exact ec
theorem Inv.freeze {a:Addr}{u:HO}{o:Obj}(I:Inv X pins σ H s)(e:H a=some u)(mu:Mut (H a))(ho:s.heap.get? a=some o)(hu:ObjOk X.prog X.w (upd H a (.frz o u)) s.heap a u):Inv X pins σ (upd H a (.frz o u)) s:=
 I.write (x:=a) (e:=a) (t':=s.toks) (h':=s.heap) mu (.inl rfl) (fun b q _ z=>z) ⟨o,ho⟩ ⟨ho,hu⟩
def zai (t:TE):TE:=fun σ H Q=>t σ H fun x H1=>∃a kvs,x = .ref a∧H1 a=some (.dT kvs)∧∀o,Q x (upd H1 a (.frz o (.dT kvs)))
theorem yvh {e:Expr}{t:TE}(h:PE X e t):PE X e (zai t):=by
 intro pins s σ H Q I hw
 refine thn (h pins s σ H _ I hw) fun v s1 ⟨x,H1,I1,r1,a,kvs,ex,ea,q⟩=>?_
 obtain ⟨z,hd,xs,rel,o,es,ep,h1,h2,h3,h4,h5⟩:=(show ObjOk X.prog X.w H1 s1.heap a (.dT kvs) from I1.hok a _ ea)
 refine⟨x,_,I1.freeze ea (by rw[ea];exact True.intro) h1 ⟨z,hd,xs,Paired.mapP rel fun _ _ y=>⟨y.1,?_,y.2.2⟩,o,es,ep,h1,h2,h3,h4,h5⟩,r1,q o⟩
 rw[yal (ymz y.2.1 ea (fun z=>nomatch z))];exact y.2.1
end
def yx7 (ix:List (Option Nat))(wi:TI)(g:TG)(ti:TT)(tk tv:TE):TE:=fun σ H Q=>wi σ H fun J H1=>∀D,H1 D=none→∃W:Nat→Nat→Hp→Prop,(∃m,W 0 m (upd H1 D (.dT [])))∧∀i m H,W i m H→
 (J.stop i H∧Q (.ref D) H)∨(J.go i H∧∀x H',J.yld i H x H'→g x (ybq ix σ) H' fun σ2 H2=>(∀(k:Nat) v,(ybq ix σ)[k]? = some (some v)→σ2[k]? = some (some v))∧ti σ2 H2 fun b H3=>
  if b=true then tk σ2 H3 fun y H4=>tv σ2 H4 fun z H5=>∃kvs k bb,H5 D=some (.dT kvs)∧y = .ref bb∧H5 bb=some (.tup (k.map kV))∧kvs.length<sizeLine∧∃m',m' < m∧W (i+1) m' (upd H5 D (.dT (yib kvs k z))) else ∃m',m' < m∧W (i+1) m' H3)
section
variable {X:Cx}{N':List Str}{ix:List (Option Nat)}{scope:Scope}{kx vx tg iter:Expr}{ifs:List Expr}{pos:Pos}{wi:TI}{g:TG}{ti:TT}{tk tv:TE}
theorem ypw {X':Cx}{σ₀:St}{H:Hp}{s:Shared}{Q:VK}{it D:Addr}{fp:List Addr}{tn:Nat→Heap→Prop}{J:It}{W:Nat→Nat→Hp→Prop}{m0:Nat}(hu:X'.A.units<cLine)(I:Inv X' [] σ₀ H s)(hcalm:X'.calm=true)(hxe:X'.xe=fun _ _=>False)
 (T:Turn X'.prog X'.w X'.K tg J fp it tn) (st:tn 0 s.heap) (hf:∀b∈fp,yfy X' [] H b) (hg:PG X' tg g) (hi:ymu X' ifs ti) (hk:PE X' kx tk) (hv:PE X' vx tv) (w0:W 0 m0 H)
 (turn:∀i m H,W i m H→(J.stop i H∧Q (.ref D) H)∨(J.go i H∧∀x H',J.yld i H x H'→g x σ₀ H' fun σ2 H2=>(∀(k:Nat) v,σ₀[k]? = some (some v)→σ2[k]? = some (some v))∧ti σ2 H2 fun b H3=>
  if b=true then tk σ2 H3 fun y H4=>tv σ2 H4 fun z H5=>∃kvs k bb,H5 D=some (.dT kvs)∧y = .ref bb∧H5 bb=some (.tup (k.map kV))∧kvs.length<sizeLine∧∃m',m' < m∧W (i+1) m' (upd H5 D (.dT (yib kvs k z))) else ∃m',m' < m∧W (i+1) m' H3)) :
 codeAny (model X'.prog X'.w) X'.A (.compStart (.DictComp kx vx [⟨tg,iter,ifs,0⟩] scope pos) 0 (.ref it) (.ref D) X'.env) (fun r s'=>(∃f,r = .ok f)∧∃H',Inv X' [] σ₀ H' s'∧Q (.ref D) H') s:=by
 have stat:∀{H':Hp},(∀b∈fp,H' b=none)→∀b∈fp,yfy X' [] H' b:=fun hn b hb=>⟨hn b hb,(hf b hb).2⟩
 have loop:codeAny (model X'.prog X'.w) X'.A (.compLoop (.DictComp kx vx [⟨tg,iter,ifs,0⟩] scope pos) 0 (.ref it) (.ref D) X'.env) (fun r s'=>(∃f,r = .ok f)∧∃H',Inv X' [] σ₀ H' s'∧Q (.ref D) H') s:=by
  refine codeAny_loop rfl (fun n s'=>∃i H',Inv X' [] σ₀ H' s'∧tn i s'.heap∧(∀b∈fp,H' b=none)∧W i n H') ?_ m0 ⟨0,H,I,st,fun b hb=>(hf b hb).1,w0⟩
  rintro n s1 ⟨i,H1,I1,st1,fr1,w1⟩
  show wpAny _ X'.A ((compTurn (.DictComp kx vx [⟨tg,iter,ifs,0⟩] scope pos) 0 (.ref it) (.ref D) X'.env).onRaise (fun x=>do noteFrame x X'.env;theTreesLotGoes x)) _ _ s1
  refine wpAny_noted ?_
  have noE:∀{α:Type}{t:Sem α}{P:α→Shared→Prop}{F:Value→Shared→Prop}{s:Shared},wpAny (model X'.prog X'.w) X'.A t P X'.xe s→wpAny (model X'.prog X'.w) X'.A t P F s:=fun h=>wpAny_mono h (fun _ _ x=>x) fun e s' x=>by rw[hxe] at x;exact x.elim
  rw[compTurn_dict]
  refine zwb0 (wpAny_standAt (zwb0 ?_))
  rcases turn i n H1 w1 with ⟨stop,qn⟩ | ⟨go,step⟩
  ·refine thn (T.done X' rfl rfl rfl hcalm i [] s1 σ₀ H1 _ I1 (stat fr1) st1 stop) fun r s2 ⟨hr,I2⟩=>?_
   subst hr
   exact zwp0 ⟨⟨_,rfl⟩,H1,I2,qn⟩
  ·refine thn (T.item X' rfl rfl rfl hcalm i [] s1 σ₀ H1 _ I1 (stat fr1) st1 go) fun r s2 ⟨u,hr,h2⟩=>?_
   subst hr
   refine zwb0 (thn h2 fun _ s3 ⟨x,H3,I3,r3,y3,st3,fr3⟩=>?_)
   have I3':=I3.pinned (stat fr3) (T.obj _ _ st3)
   refine zwb0 (noE (thn (hg _ s3 σ₀ H3 x u _ I3' r3 (step x H3 y3)) fun _ s4 ⟨σ4,H4,I4,hk4,q4⟩=>?_))
   refine zwb0 (noE (thn (hi _ s4 σ4 H4 _ I4 q4) fun ok s5 ⟨H5,I5,q5⟩=>?_))
   have again':∀{s7:Shared}{H7:Hp}{m':Nat},Inv X' ([]++yf7 fp s3.heap) σ4 H7 s7→m' < n→W (i+1) m' H7→∃m,m<n∧∃i H',Inv X' [] σ₀ H' s7∧tn i s7.heap∧(∀b∈fp,H' b=none)∧W i m H':=fun {s7 H7 m'} I7 hm w7=>by
    refine⟨m',hm,i+1,H7,I7.unpinned.weak (by rw[I3.len,I7.len]) hk4,T.keep _ _ _ st3 fun b hb o e=>(I7.pin (b,o) (List.mem_append_right _ (List.mem_append_right _ (ybk hb e)))).1,fun b hb=>?_,w7⟩
    obtain ⟨o,e,d⟩:=T.obj _ _ st3 b hb
    exact(I7.pin (b,o) (List.mem_append_right _ (List.mem_append_right _ (ybk hb e)))).2.1
   cases ok with
   |false=>
    obtain ⟨m',hm,w7⟩:=q5
    exact zwp0 ⟨rfl,again' I5 hm w7⟩
   |true=>
    refine zwb0 (zwb0 (noE (thn (hk _ s5 σ4 H5 _ I5 q5) fun kv s6 ⟨yv,H6,I6,r6,q6⟩=>?_)))
    refine zwb0 (wpAny_holding (noE (thn (hv _ s6 σ4 H6 _ I6 q6) fun vv s7 ⟨zv,H7,I7,r7,kvs,k,bb,hD,ey,hbb,hz,m',hm,w7⟩=>?_)))
    subst ey
    cases r6
    refine zwb0 (wpAny_standAt (wpAny_holding ?_))
    exact yr8 hu I7 hD hbb hz r7 fun s8 I8=>zwp0 ⟨rfl,again' I8 hm w7⟩
 refine codeAny_compStart_dict loop (T.self _ 0 s _ _ st loop)
theorem ynj {pins:List (Addr×Obj)}{σ:St}{H:Hp}{s:Shared}{Q:VK}{it:Addr}{fp:List Addr}{tn:Nat→Heap→Prop}{J:It}{E:Value→Shared→Prop}(hu:X.A.units<cLine)(I:Inv X pins σ H s)(hcalm:X.calm=true)(S:CompScope X N' ix scope)
 (T:Turn X.prog X.w X.K tg J fp it tn) (st:tn 0 s.heap) (hf:∀b∈fp,yfy X pins H b)
 (hg:∀C s H fp,PG (yay X N' scope C s H fp) tg g) (hi:∀C s H fp,ymu (yay X N' scope C s H fp) ifs ti) (hk:∀C s H fp,PE (yay X N' scope C s H fp) kx tk) (hv:∀C s H fp,PE (yay X N' scope C s H fp) vx tv)
 (h:∀D,H D=none→∃W:Nat→Nat→Hp→Prop,(∃m,W 0 m (upd H D (.dT [])))∧∀i m H,W i m H→
  (J.stop i H∧Q (.ref D) H)∨(J.go i H∧∀x H',J.yld i H x H'→g x (ybq ix σ) H' fun σ2 H2=>(∀(k:Nat) v,(ybq ix σ)[k]? = some (some v)→σ2[k]? = some (some v))∧ti σ2 H2 fun b H3=>
   if b=true then tk σ2 H3 fun y H4=>tv σ2 H4 fun z H5=>∃kvs k bb,H5 D=some (.dT kvs)∧y = .ref bb∧H5 bb=some (.tup (k.map kV))∧kvs.length<sizeLine∧∃m',m' < m∧W (i+1) m' (upd H5 D (.dT (yib kvs k z))) else ∃m',m' < m∧W (i+1) m' H3)) :
 wpAny (model X.prog X.w) X.A newDict (fun acc s3=>wpAny (model X.prog X.w) X.A (newFunctionEnv scope X.env.globals (ygu X.env scope.names []) [] X.env.qual none .none (some X.env)) (fun cenv s4=>
  codeAny (model X.prog X.w) X.A (.compStart (.DictComp kx vx [⟨tg,iter,ifs,0⟩] scope pos) 0 (.ref it) acc { cenv with scope:=relabel scope X.env }) (yj4 X pins σ Q acc cenv.locals) s4) E s3) E s:=by
 refine wpAny_newObj_type ?_
 have fresh0:H s.heap.objs.size=none:=I.hok.fresh (Nat.le_refl _)
 have I3:Inv X pins σ (upd H s.heap.objs.size (.dT [])) { s with heap:=s.heap.push { cls:=.type "dict",data:=.dict #[] } } :=
  I.laid (a:=s.heap.objs.size) (o:=.dT []) (t':=s.toks) (fun b u e=>Heap.get?_push_of_some _ e) (Nat.le_refl _) (you s.heap I.big)
 obtain ⟨W,⟨m0,w0⟩,turn⟩:=h s.heap.objs.size fresh0
 generalize hD:s.heap.objs.size=D at *
 have lt0:∀b∈fp,b<s.heap.objs.size:=fun b hb=>by obtain ⟨o,e,_⟩:=T.obj 0 _ st b hb;exact Heap.lt_size e
 have hf3:∀b∈fp,yfy X pins (upd H D (.dT [])) b:=fun b hb=>by
  have nb:b≠D:=by rw[← hD];exact Nat.ne_of_lt (lt0 b hb)
  obtain ⟨f0,fr⟩:=hf b hb
  exact⟨by rw[yal nb];exact f0,fr⟩
 have st3:tn 0 (s.heap.push { cls:=.type "dict",data:=.dict #[] }):=T.keep _ _ _ st fun b hb o e=>Heap.get?_push_of_some _ e
 revert I3 st3
 generalize (s.heap.push { cls:=.type "dict",data:=.dict #[] })=h3
 intro I3 st3
 have lt3:∀b∈fp,b<h3.objs.size:=fun b hb=>by obtain ⟨o,e,_⟩:=T.obj 0 _ st3 b hb;exact Heap.lt_size e
 refine wpAny_newFunctionEnv S.nocell (fun x hx=>nomatch hx) (fun h4 hns hsb=>?_) S.kind
 have k4:∀b o,h3.get? b=some o→h4.get? b=some o:=fun b o e=>(hsb.2 b (Nat.ne_of_lt (Heap.lt_size e))).trans (Heap.get?_push_of_some _ e)
 have J4:Inv (yay X N' scope h3.objs.size { s with heap:=h3 } (upd H D (.dT [])) fp) [] (ybq ix σ) (upd H D (.dT [])) { s with heap:=h4,toks:=s.toks+([]:List (Str×Value)).length }:=
  yhl (s:={ s with heap:=h3 }) (tk:=s.toks+([]:List (Str×Value)).length) I3 hcalm S hf3 lt3 hns k4
 have st4:tn 0 ({ s with heap:=h4,toks:=s.toks+([]:List (Str×Value)).length }:Shared).heap:=T.keep _ _ _ st3 fun b hb o e=>k4 b o e
 have fr4:∀b∈fp,upd H D (.dT []) b=none:=fun b hb=>(hf3 b hb).1
 revert J4 st4
 generalize ({ s with heap:=h4,toks:=s.toks+([]:List (Str×Value)).length }:Shared)=s4
 intro J4 st4
 have hf4:∀b∈fp,yfy (yay X N' scope h3.objs.size { s with heap:=h3 } (upd H D (.dT [])) fp) [] (upd H D (.dT [])) b:=fun b hb=>
  ⟨fr4 b hb,Nat.ne_of_lt (lt3 b hb),J4.ok.exfs b hb,.inl hb,fun x c e=>(J4.ok.exf b hb).2 x c e,fun p hp=>nomatch hp⟩
 refine codeAny_mono (ypw (X':=yay X N' scope h3.objs.size { s with heap:=h3 } (upd H D (.dT [])) fp) (Q:=Q) (D:=D) hu J4 rfl rfl T st4 hf4 (hg _ _ _ _) (hi _ _ _ _) (hk _ _ _ _) (hv _ _ _ _) w0 turn) fun r s' ⟨hr,H',J',q'⟩=>?_
 refine⟨D,H',rfl,hr,I3.call' J'.os J'.base J'.hok J'.bare fun b hb=>?_,?_,?_,q'⟩
 ·obtain ⟨_,f1,_,f3,f4,f5⟩:=hf3 b hb
  exact⟨f3,f1,f4,f5⟩
 ·exact I3.fpOk (H':=H') (Nat.le_refl _) J'.free
 ·obtain ⟨m,hn,_⟩:=J'.loc
  exact⟨m,hn⟩
theorem yt6 (hu:X.A.units<cLine)(hcalm:X.calm=true)(S:CompScope X N' ix scope)(hit:PI X tg iter wi)
 (hg:∀C s H fp,PG (yay X N' scope C s H fp) tg g) (hi:∀C s H fp,ymu (yay X N' scope C s H fp) ifs ti) (hk:∀C s H fp,PE (yay X N' scope C s H fp) kx tk) (hv:∀C s H fp,PE (yay X N' scope C s H fp) vx tv)
 (hs:∀x,foldedSetIterable iter X.env x=pure x:=by intro _;rfl):PE X (.DictComp kx vx [⟨tg,iter,ifs,0⟩] scope pos) (yx7 ix wi g ti tk tv):=by
 intro pins s σ H Q I h
 show wpAny _ X.A (comprehension (.DictComp kx vx [⟨tg,iter,ifs,0⟩] scope pos) scope X.env _ newDict false (eval iter X.env)) _ _ s
 refine wpAny_comprehension_free (use:=none) rfl hs (yds I S) S.kind S.loc (thn (hit pins s σ H _ I h) fun v s1 h1=>thn h1 fun itv s2 h2=>?_)
 obtain ⟨it,fp,tn,J,H2,rfl,I2,T,st2,f2,q2⟩:=h2
 refine thn (ynj (E:=X.xe) (kx:=kx) (vx:=vx) (iter:=iter) (pos:=pos) hu I2 hcalm S T st2 f2 hg hi hk hv q2) fun acc s3 h3=>thn h3 fun cenv s4 h4=>codeAny_mono h4 fun r s' hr=>?_
 obtain ⟨D,H',rfl,⟨f,rfl⟩,I',⟨g0,g1,_,g3,g4,g5⟩,⟨m,hm⟩,q'⟩:=hr
 exact⟨m,hm,fun h' hsb=>⟨.ref D,H',I'.turned (t':=s'.toks) (fun b o hb e=>(hsb.2 b hb).trans e) g0 g1 g3 g4 g5,rfl,q'⟩⟩
end
section
variable {prog:Program}{w:World}{A:Around}{E:Value→Shared→Prop}{s:Shared}
def yyt (h:Heap)(d:Addr)(es:Array DictEntry)(ep:Nat):Prop:=∃o,h.get? d=some o∧o.data = .dict es ep
theorem yt7 {v d:Addr}{es:Array DictEntry}{ep:Nat}{Q:Value→Shared→Prop}(hv:s.heap.IsItemsView v d)(hm:yyt s.heap d es ep)
 (hQ:Q (.ref s.heap.objs.size) { s with heap:=s.heap.push { cls:=.type "dict_itemiterator",data:=.fields #[.none,.bool false,.ref d,.int 0 0,.int es.size 0,.int ep 0,.none,.none] } }):wpAny (model prog w) A (pyIter (.ref v)) Q E s:=by
 obtain ⟨ov,e1,_,e2⟩:=id hv
 obtain ⟨o,e3,e4⟩:=hm
 refine wpAny_pyIter_slot hv.typeIs PySem.F.slot_dict_items_iter (wpAny_call_entry PySem.F.slot_dict_items_iter hv.typeIs PySem.F.entry_dict_items_iter ?_ (PySem.F.args_dict_items_iter_1 _))
 unfold Builtin.«dict_items.__iter__»
 refine zwb0 (zwp0 (zwb0 ?_))
 unfold Builtin.Dict_items.dictOf
 refine zwb0 (wpAny_field e1 e2 (x:=.ref d) rfl (zwp0 (zwb0 ?_)))
 unfold Builtin.Dict_items.newIterator
 refine zwb0 (wpAny_dictEntries e3 e4 (zwb0 (wpAny_dictEpoch e3 e4 ?_)))
 simp only[show Builtin.Dict_items.ownsTuple "dict_itemiterator" = true from by decide,if_true]
 refine wpAny_newObj_type (zwp0 ⟨_,rfl,"dict_itemiterator",_,⟨_,Heap.get?_push_size _ rfl,rfl⟩,PySem.F.slot_dict_itemiterator_next.lookup,?_⟩) (by simp only[sizeOk,Builtin.Dict_items.ownedTupleFields,List.size_toArray,List.length_append,List.length_cons,List.length_nil,sizeLine_eq];omega)
 simpa [rawInt,Builtin.Dict_items.ownedTupleFields] using hQ
theorem yt8 {it d:Addr}{i ep:Nat}{es:Array DictEntry}{ok ov:Value}{Q:Option Value→Shared→Prop}(hit:IsItemIter s.heap it d i es.size ep ok ov)(hm:yyt s.heap d es ep)(hi:i<es.size)
 (hQ:∀h',IsItemIterOut h' it d (i+1) es.size ep es[i].key es[i].val s.heap.objs.size→h'.get? s.heap.objs.size=some { cls:=.type "tuple",data:=.seq #[es[i].key,es[i].val] } →
  h'.objs.size=s.heap.objs.size+1→(∀b o,b≠it→s.heap.get? b=some o→h'.get? b=some o)→Q (some (.ref s.heap.objs.size)) { s with heap:=h' }):wpAny (model prog w) A (pyNext (.ref it)) Q E s:=by
 obtain ⟨hp,g,dr,tk,os⟩:=s
 obtain ⟨od,hod,hdd⟩:=hm
 have hT:Shared.TypeIs ⟨hp,g,dr,tk,os⟩ (.ref it) "dict_itemiterator" := ⟨_,hit,rfl⟩
 unfold pyNext
 refine zwb0 (wpAny_attempt (wpAny_callSpecial?_slot (name:=Str.ofString "__next__") hT PySem.F.slot_dict_itemiterator_next (wpAny_call_entry PySem.F.slot_dict_itemiterator_next hT PySem.F.entry_dict_itemiterator_next ?_ (PySem.F.args_dict_itemiterator_next_1 _))))
 refine zwb0 (zwp0 (zwb0 (zwb0 ?_)))
 first|refine zwb0 (wpAny_typeNameOfWhole_itemiter hT (zwp0 ?_))|refine zwb0 (wpAny_typeNameOf_itemiter hT (zwp0 ?_))
 refine zwb0 (wpAny_fieldsOf hit rfl ?_)
 simp only[show Builtin.Dict_items.ownsTuple "dict_itemiterator" = true from by decide,if_true]
 show wpAny _ _ (if (Value.ref d == Value.none)=true then _ else _) _ _ _
 rw[if_neg (show ¬ ((Value.ref d == Value.none)=true) from Bool.false_ne_true)]
 refine zwb0 (zwp0 (zwb0 (wpAny_dictEntries hod hdd ?_)))
 rw[if_neg (by simp)]
 refine zwb0 (zwp0 (zwb0 (wpAny_dictEpoch hod hdd ?_)))
 rw[if_neg (by simp)]
 refine zwp0 ?_
 simp only[show ¬ ((i:Int)<0) from by omega,if_false,Int.toNat_natCast,Array.getElem?_eq_getElem hi]
 refine zwb0 ?_
 first|refine zwb0 (wpAny_typeNameOfWhole_itemiter hT (zwp0 ?_))|refine zwb0 (wpAny_typeNameOf_itemiter hT (zwp0 ?_))
 refine zwb0 (wpAny_isOneOf_itemiter hT ?_)
 show wpAny _ _ (setField (.ref it) 3 (rawInt ((i:Int)+1)) >>= _) _ _ ⟨hp,g,dr,tk,os⟩
 refine zwb0 (wpAny_setField_rec hit (by simp) fun h1 x1 y1=>?_)
 have y1':Heap.SameBut it hp h1:=y1
 have x1':IsItemIter h1 it d (i+1) es.size ep ok ov:=by
  unfold IsItemIter
  rw[show ((i+1:Nat):Int)=(i:Int)+1 from by omega]
  simpa [rawInt] using x1
 have hT1:Shared.TypeIs ⟨h1,g,dr,tk,os⟩ (.ref it) "dict_itemiterator" := ⟨_,x1',rfl⟩
 refine zwb0 (wpAny_holding (zwb0 (wpAny_isOneOf_itemiter hT1 (zwb0 (wpAny_isOneOf_itemiter hT1 ?_)))))
 show wpAny _ _ (Builtin.Dict_items.pairFromOwner (.ref it) 6 es[i].key es[i].val) _ _ ⟨h1,g,dr,tk,os⟩
 unfold Builtin.Dict_items.pairFromOwner
 refine zwb0 (wpAny_newTuple ?_)
 have x2:IsItemIter (h1.push { cls:=.type "tuple",data:=.seq #[es[i].key,es[i].val] }) it d (i+1) es.size ep ok ov:=Heap.get?_push_of_some _ x1'
 generalize e2:h1.push { cls:=.type "tuple",data:=.seq #[es[i].key,es[i].val] } = h2 at x2
 have z1:h1.objs.size=hp.objs.size:=y1'.1
 have lt:it<hp.objs.size:=Heap.lt_size hit
 have t2:h2.get? hp.objs.size=some { cls:=.type "tuple",data:=.seq #[es[i].key,es[i].val] }:=by rw[← e2,← z1];exact Heap.get?_push_size _ rfl
 have z2:h2.objs.size=hp.objs.size+1:=by rw[← e2,Heap.size_push,z1]
 have k2:∀b o,b≠it→hp.get? b=some o→h2.get? b=some o:=fun b o hb e=>by rw[← e2];exact Heap.get?_push_of_some _ (y1'.extBut b o hb e)
 show wpAny _ _ (Builtin.Dict_items.ownedTupleIsFree (.ref it) >>= _) _ _ ⟨h2,g,dr,tk,os⟩
 rw[z1]
 clear e2 x1 x1' y1 y1' hT1 z1 h1
 refine zwb0 ?_
 unfold Builtin.Dict_items.ownedTupleIsFree
 refine zwb0 (wpAny_field x2 rfl (x:=.none) rfl (zwp0 ?_))
 simp only[if_true]
 refine zwb0 (wpAny_field x2 rfl (x:=ok) rfl (zwb0 (wpAny_field x2 rfl (x:=ov) rfl ?_)))
 refine zwb0 (wpAny_setField_rec x2 (by simp) fun h3 x3 y3=>?_)
 have y3':Heap.SameBut it h2 h3:=y3
 have x3':IsItemIter h3 it d (i+1) es.size ep es[i].key ov:=x3
 refine zwb0 (wpAny_setField_rec x3' (by simp) fun h4 x4 y4=>?_)
 have y4':Heap.SameBut it h3 h4:=y4
 have x4':IsItemIter h4 it d (i+1) es.size ep es[i].key es[i].val:=x4
 refine zwb0 (wpAny_setField_rec x4' (by simp) fun h5 x5 y5=>?_)
 have y5':Heap.SameBut it h4 h5:=y5
 have x5':IsItemIterOut h5 it d (i+1) es.size ep es[i].key es[i].val hp.objs.size:=x5
 refine zwb0 (wpAny_setField_rec x5' (by simp) fun h6 x6 y6=>?_)
 have y6':Heap.SameBut it h5 h6:=y6
 have x6':IsItemIterOut h6 it d (i+1) es.size ep es[i].key es[i].val hp.objs.size:=x6
 have all:∀b o,b≠it→h2.get? b=some o→h6.get? b=some o:=fun b o hb e=>y6'.extBut b o hb (y5'.extBut b o hb (y4'.extBut b o hb (y3'.extBut b o hb e)))
 refine zwb0 (wpAny_letGo (zwp0 (zwp0 ⟨_,rfl,zwp0 (hQ h6 x6' (all _ _ (Nat.ne_of_gt lt) t2) ?_ fun b o hb e=>all b o hb (k2 b o hb e))⟩)))
 show h6.objs.size=hp.objs.size+1
 rw[y6'.1,y5'.1,y4'.1,y3'.1,z2]
theorem ywe {it d:Addr}{i ep:Nat}{es:Array DictEntry}{ok ov:Value}{Q:Option Value→Shared→Prop}(hh:A.handled=none)(hit:IsItemIter s.heap it d i es.size ep ok ov)(hm:yyt s.heap d es ep)(hi:es.size≤i)
 (hQ:∀h',Heap.ExtBut it s.heap h'→Q none { s with heap:=h' }):wpAny (model prog w) A (pyNext (.ref it)) Q E s:=by
 obtain ⟨od,hod,hdd⟩:=hm
 have hT:s.TypeIs (.ref it) "dict_itemiterator" := ⟨_,hit,rfl⟩
 unfold pyNext
 refine zwb0 (wpAny_attempt (wpAny_callSpecial?_slot (name:=Str.ofString "__next__") hT PySem.F.slot_dict_itemiterator_next (wpAny_call_entry PySem.F.slot_dict_itemiterator_next hT PySem.F.entry_dict_itemiterator_next ?_ (PySem.F.args_dict_itemiterator_next_1 _))))
 refine zwb0 (zwp0 (zwb0 (zwb0 ?_)))
 first|refine zwb0 (wpAny_typeNameOfWhole_itemiter hT (zwp0 ?_))|refine zwb0 (wpAny_typeNameOf_itemiter hT (zwp0 ?_))
 refine zwb0 (wpAny_fieldsOf hit rfl ?_)
 simp only[show Builtin.Dict_items.ownsTuple "dict_itemiterator" = true from by decide,if_true]
 show wpAny _ _ (if (Value.ref d == Value.none)=true then _ else _) _ _ s
 rw[if_neg (show ¬ ((Value.ref d == Value.none)=true) from Bool.false_ne_true)]
 refine zwb0 (zwp0 (zwb0 (wpAny_dictEntries hod hdd ?_)))
 rw[if_neg (by simp)]
 refine zwb0 (zwp0 (zwb0 (wpAny_dictEpoch hod hdd ?_)))
 rw[if_neg (by simp)]
 refine zwp0 ?_
 simp only[show ¬ ((i:Int)<0) from by omega,if_false,Int.toNat_natCast,Array.getElem?_eq_none hi]
 refine zwb0 ?_
 first|refine zwb0 (wpAny_typeNameOfWhole_itemiter hT (zwp0 ?_))|refine zwb0 (wpAny_typeNameOf_itemiter hT (zwp0 ?_))
 show wpAny _ _ (setField (.ref it) 2 .none >>= _) _ _ s
 refine zwb0 (wpAny_setField hit rfl (by simp) ?_)
 show wpAny _ _ (newExc (.type "StopIteration") [] >>= _) _ _ _
 refine zwb0 ?_
 simp only[newExc,newTuple]
 refine zwb0 (wpAny_newObj_type ?_ (by size_fits))
 refine zwb0 (m:=firstArgMember _ _) (wpAny_of_eq (a:=Value.none) (by first|rfl|(simp only[firstArgMember];rfl)) ?_)
 refine wpAny_newObj_type ?_ (by size_fits)
 simp only[raiseNew]
 refine zwb0 (wpAny_handled ?_)
 rw[show A.in1.handled=none from hh]
 refine zwb0 (zwp0 (wpAny_throw ?_))
 refine zwb0 (wpAny_isInstance (b:=true) (T := "StopIteration") ⟨_,Heap.get?_push_size _ rfl,rfl⟩ isSubtype_stop ?_)
 exact zwp0 (hQ _ (((Heap.SameBut.update ..).extBut.push _).push _))
end
section
variable {prog:Program}{w:World}{A:Around}{E:Value→Shared→Prop}{s:Shared}
end
def Itd (o:Obj)(kvs:List (List Key×V))(a:Addr):It:=
 ⟨fun i H=>H a=some (.frz o (.dT kvs))∧i<kvs.length,
  fun i H v H'=>∃p b k x,v = .ref p∧H p=none∧H' = upd H p (.tup [.ref b,x])∧kvs[i]? = some (k,x)∧H b=some (.tup (k.map kV)),
  fun i H=>H a=some (.frz o (.dT kvs))∧kvs.length≤i⟩
def yzf (it d:Addr)(n ep:Nat)(i:Nat)(h:Heap):Prop:=∃ok ov,IsItemIter h it d i n ep ok ov
theorem ynk {X:Cx}{pins:List (Addr×Obj)}{σ:St}{H:Hp}{s:Shared}{a:Addr}{o:Obj}{kvs:List (List Key×V)}(I:Inv X pins σ H s)(e:H a=some (.frz o (.dT kvs))):∃es ep xs,o.data = .dict es ep∧yyt s.heap a es ep∧KT H kvs xs∧es.toList=xs.map (entryOfKey (tupleKind (yb0 X.prog X.w)))∧es.size=kvs.length:=by
 obtain ⟨h1,z,hd,xs,rel,o',es,ep,h2,h3,h4,h5,h6⟩:=(show ObjOk X.prog X.w H s.heap a (.frz o (.dT kvs)) from I.hok a _ e)
 rw[h1] at h2
 cases h2
 exact⟨es,ep,xs,h4,⟨o,h1,h4⟩,rel,h5,by rw[size_of_entries h5];exact(Paired.length rel).symm⟩
theorem yzg {H:Hp}{kvs:List (List Key×V)}{xs:List (List Key×Addr×Value)}(r:KT H kvs xs):∀{i:Nat}{q:List Key×Addr×Value},xs[i]? = some q→∃p,kvs[i]? = some p∧p.1=q.1∧H q.2.1=some (.tup (p.1.map kV))∧RelV p.2 q.2.2:=by
 induction r with
 |nil=>intro i q e;cases e
 |cons h t ih=>
  intro i q e
  cases i with
  |zero=>cases e;exact⟨_,rfl,h⟩
  |succ i=>exact ih e
theorem yi2:entryFor table "dict_itemiterator.__iter__" = some Builtin.«dict_keyiterator.__iter__»:=entryFor_alias (by kernel_rfl) rfl (id' := "dict_keyiterator.__iter__") (by decide +kernel) (by kernel_rfl)
theorem ypx {P:Program}{w:World}{K:PySem.W.Frag}{es:List Expr}{x1:Nat}{tp:Pos}{it d:Addr}{n ep:Nat}{o:Obj}{ents:Array DictEntry}{kvs:List (List Key×V)}(ho:o.data = .dict ents ep)(hn:ents.size=n):Turn P w K (.Tuple es x1 tp) (Itd o kvs d) [it] it (yzf it d n ep) where
 mem:=by simp
 obj:=fun i h ⟨ok,ov,t1⟩ c hc=>by
  have e:c=it:=by simpa using hc
  subst e
  exact⟨_,t1,fun v q=>by cases q⟩
 keep:=fun i h h' ⟨ok,ov,t1⟩ k=>⟨ok,ov,k it (by simp) _ t1⟩
 item:=by
  intro X hP hw hK hc i pins s σ H E I hf ⟨ok,ov,t1⟩ ⟨ea,hi⟩
  subst hP hw hK hn
  obtain ⟨es',ep',xs,e1,hm,rel,he,hsz⟩:=ynk I ea
  rw[ho] at e1
  cases e1
  have hi':i<ents.size:=by omega
  refine yt8 t1 hm hi' fun h' a1 a2 a3 a4=>?_
  refine⟨_,rfl,wpAny_letOwnedTupleGo_items a1 fun h'' c1 c2=>?_⟩
  have nz:s.heap.objs.size≠it:=Nat.ne_of_gt (Heap.lt_size t1)
  have I1:Inv X pins σ H { s with heap:=h'',toks:=s.toks }:=I.turnedL hf fun c o hc q=>by
   simp only[List.mem_cons,List.not_mem_nil,or_false] at hc
   exact c2.extBut c o hc (a4 c o hc q)
  have ex:ents[i]? = (xs[i]?).map (entryOfKey (tupleKind (yb0 X.prog X.w))):=entry_at he i
  rw[Array.getElem?_eq_getElem hi'] at ex
  cases q:xs[i]? with
  |none=>rw[q] at ex;cases ex
  |some x=>
   rw[q] at ex
   have eq1:ents[i]=entryOfKey (tupleKind (yb0 X.prog X.w)) x:=Option.some.inj ex
   obtain ⟨p,ep1,ek,hb,rv⟩:=yzg rel q
   have k1:ents[i].key = .ref x.2.1:=by rw[eq1];rfl
   have v1:ents[i].val=x.2.2:=by rw[eq1];rfl
   rw[k1,v1] at a2
   have I2:=I.trackNew (t':=s.toks) (o:=.tup [.ref x.2.1,p.2]) I1 (Nat.le_refl _) ⟨by show 2≤sizeLine;decide,[.ref x.2.1,x.2.2],.cons rfl (.cons rv .nil),⟨_,c2.extBut _ _ nz a2,rfl,_,rfl⟩⟩
   have fr:H s.heap.objs.size=none:=I.hok.fresh (Nat.le_refl _)
   refine⟨.ref s.heap.objs.size,_,I2,rfl,⟨s.heap.objs.size,x.2.1,p.1,p.2,rfl,fr,rfl,ep1,hb⟩,⟨_,_,c1⟩,fun c hc=>?_⟩
   have e:c=it:=by simpa using hc
   subst e
   rw[yal (Ne.symm nz)]
   exact(hf c (by simp)).1
 done:=by
  intro X hP hw hK hc i pins s σ H E I hf ⟨ok,ov,t1⟩ ⟨ea,hi⟩
  subst hP hw hK hn
  obtain ⟨es',ep',xs,e1,hm,rel,he,hsz⟩:=ynk I ea
  rw[ho] at e1
  cases e1
  refine ywe (I.ok.hd hc) t1 hm (by omega) fun h' kk=>⟨rfl,I.turnedL (t':=s.toks) hf fun c o hc q=>?_⟩
  simp only[List.mem_cons,List.not_mem_nil,or_false] at hc
  exact kk c o hc q
 self:=fun A _ s Q E ⟨ok,ov,t1⟩ h=>by
  have hT:s.TypeIs (.ref it) "dict_itemiterator" := ⟨_,t1,rfl⟩
  refine wpAny_pyIter_slot hT PySem.F.slot_dict_itemiterator_iter (wpAny_call_entry PySem.F.slot_dict_itemiterator_iter hT yi2 ?_ (PySem.F.args_dict_itemiterator_iter_1 _))
  show wpAny _ _ (ret (.ref it)) _ _ s
  exact zwp0 ⟨_,rfl,"dict_itemiterator",_,hT,PySem.F.slot_dict_itemiterator_next.lookup,h⟩
section
variable {X:Cx}{es:List Expr}{x1:Nat}{tp:Pos}{oe:Expr}{td:TE}{apos cpos:Pos}
def zaj (td:TE):TI:=fun σ H R=>td σ H fun x H1=>∃a o kvs,x = .ref a∧H1 a=some (.frz o (.dT kvs))∧R (Itd o kvs a) H1
theorem yx8 {pins:List (Addr×Obj)}{σ:St}{H:Hp}{s:Shared}{a:Addr}{o:Obj}{kvs:List (List Key×V)} (I:Inv X pins σ H s) (e:H a=some (.frz o (.dT kvs))):s.TypeIs (.ref a) "dict" ∧ (∀b,Value.ref a = .ref b→∃ob,s.heap.get? b=some ob∧ob.dict=none)∧(a == sysModules)=false:=yx6 I (.inr ⟨kvs,.inr ⟨o,e⟩⟩)
theorem yov (ho:PE X oe td) (hbase:attributeBase oe "items" X.env (eval oe X.env)=eval oe X.env:=by rfl) (hline:(apos.endLine == cpos.line)=true:=by rfl):PI X (.Tuple es x1 tp) (.Call (.Attribute oe "items" apos) [] [] cpos) (zaj td):=by
 intro pins s σ H R I h
 refine wpAny_Call_method0_late hbase hline (thn (ho pins s σ H _ I h) fun v s1 ⟨x,H1,I1,r1,a,o,kvs,ex,ea,q⟩=>?_)
 subst ex
 cases r1
 obtain ⟨t1,t2,t3⟩:=yx8 I1 ea
 refine⟨"dict","dict.items",PySem.F.plainAttrs_dict,PySem.F.slot_dict_items,PySem.F.type_dict_items,t1,t2,Calls.callWith_builtin rfl (PySem.evalArgs_none ?_)⟩
 refine wpAny_call_entry PySem.F.slot_dict_items t1 PySem.F.entry_dict_items ?_ (PySem.F.args_dict_items_1 _)
 unfold Builtin.«dict.items» Builtin.Dict.noArgs
 refine zwb0 (zwb0 (wpAny_notOrdered_dict t1 ?_))
 show wpAny _ _ (pure a) _ _ s1
 refine zwp0 ?_
 show wpAny _ _ (Builtin.Dict.showsAll a >>= _) _ _ s1
 unfold Builtin.Dict.showsAll
 rw[if_neg (by rw[t3];exact Bool.false_ne_true)]
 refine zwb0 (zwp0 (zwb0 (wpAny_newObj_type (zwp0 ⟨_,rfl,?_⟩))))
 obtain ⟨ents,ep,xs,e1,⟨o',r1,r2⟩,rel,he,hsz⟩:=ynk I1 ea
 have I2:Inv X pins σ H1 { s1 with heap:=s1.heap.push { cls:=.type "dict_items",data:=.fields #[.ref a] } }:=I1.kept (t':=s1.toks) fun b o e=>Heap.get?_push_of_some _ e
 refine yt7 (es:=ents) (ep:=ep) ⟨_,Heap.get?_push_size _ rfl,rfl,rfl⟩ ⟨o',Heap.get?_push_of_some _ r1,r2⟩ ?_
 revert I2
 generalize ({ s1 with heap:=s1.heap.push { cls:=.type "dict_items",data:=.fields #[.ref a] } }:Shared)=s2
 intro I2
 have I3:Inv X pins σ H1 { s2 with heap:=s2.heap.push { cls:=.type "dict_itemiterator",data:=.fields #[.none,.bool false,.ref a,.int 0 0,.int ents.size 0,.int ep 0,.none,.none] } }:=I2.kept (t':=s2.toks) fun b o e=>Heap.get?_push_of_some _ e
 refine⟨_,[s2.heap.objs.size],_,_,H1,rfl,I3,ypx (ep:=ep) (n:=ents.size) e1 rfl,⟨.none,.none,Heap.get?_push_size _ rfl⟩,fun c hc=>?_,q⟩
 have e:c=s2.heap.objs.size:=by simpa using hc
 subst e
 exact I2.fpOk (H':=H1) (Nat.le_refl _) (I2.hok.fresh (Nat.le_refl _))
end
section
variable {X:Cx}{tg:Expr}{oe:Expr}{td:TE}{apos cpos:Pos}
end
theorem ynl (elt target iter:Expr)(c0:Comprehension)(ifs:List Expr)(scope:Scope)(pos:Pos)(it acc:Value)(env:Env) :
 compTurn (.ListComp elt [c0,⟨target,iter,ifs,0⟩] scope pos) 1 it acc env=(do
  standAt iter.pos
  match ← pyNext it with
  |none=>pure (.done .next)
  |some v=>
   letOwnedTupleGo target it v
   assign target env v
   let mut ok:=true
   for c in ifs do
    if ok then ok ← isTrue c env (eval c env)
   if ok then
    (do let _ ← call (.builtin "list.append") [acc,← eval elt env])
   again (.compLoop (.ListComp elt [c0,⟨target,iter,ifs,0⟩] scope pos) 1 it acc env)):=by rfl
theorem yl3 (elt t0 i0 t1 i1:Expr)(ifs0 ifs:List Expr)(scope:Scope)(pos:Pos)(it acc:Value)(env:Env) :
 compTurn (.ListComp elt [⟨t0,i0,ifs0,0⟩,⟨t1,i1,ifs,0⟩] scope pos) 0 it acc env=(do
  standAt i0.pos
  match ← pyNext it with
  |none=>pure (.done .next)
  |some v=>
   letOwnedTupleGo t0 it v
   assign t0 env v
   let mut ok:=true
   for c in ifs0 do
    if ok then ok ← isTrue c env (eval c env)
   if ok then
    let x ← eval i1 env
    standAt i1.pos
    let x ← foldedSetIterable i1 env x
    let _ ← runOwn (.compStart (.ListComp elt [⟨t0,i0,ifs0,0⟩,⟨t1,i1,ifs,0⟩] scope pos) 1 (← holding [x] (pyIter x)) acc env) env
   again (.compLoop (.ListComp elt [⟨t0,i0,ifs0,0⟩,⟨t1,i1,ifs,0⟩] scope pos) 0 it acc env)):=by rfl
section
variable {prog:Program}{w:World}{A:Around}{R:Result→Shared→Prop}{s:Shared}
theorem yl4 {elt target iter ifs scope pos it acc env}{c0:Comprehension}
 (h0:codeAny (model prog w) A (.compLoop (.ListComp elt [c0,⟨target,iter,ifs,0⟩] scope pos) 1 it acc env) R s)
 (h:wpAny (model prog w) A (pyIter it) (fun it' s'=>codeAny (model prog w) A (.compLoop (.ListComp elt [c0,⟨target,iter,ifs,0⟩] scope pos) 1 it' acc env) R s') (notedBy (model prog w) A env fun x s'=>R (.error x) s') s) :
 codeAny (model prog w) A (.compStart (.ListComp elt [c0,⟨target,iter,ifs,0⟩] scope pos) 1 it acc env) R s:=by
 refine codeAny_of_tree ?_
 show wpAny _ _ ((compStart (.ListComp elt [c0,⟨target,iter,ifs,0⟩] scope pos) 1 it acc env).onRaise (fun x=>do noteFrame x env;standAt theWindowsPlace)) _ _ s
 refine wpAny_notedAt ?_
 unfold compStart
 show wpAny _ _ (ask >>= _) _ _ s
 refine zwb0 (wpAny_askSetting (wpAny_ite ?_))
 split
 ·first|exact zwb0 (zwp0 (zwp0 (And.intro rfl h0)))|exact zwp0 (And.intro rfl h0)
 ·refine zwb0 (wpAny_rule ?_)
  show wpAny _ _ (standAt iter.pos >>= _) _ _ s
  exact zwb0 (wpAny_standAt (zwb0 (wpAny_mono h (fun it' s' h'=>zwp0 (And.intro rfl h')) fun _ _ x=>x)))
end
section
variable {X:Cx}{N':List Str}{ix:List (Option Nat)}{scope:Scope}{elt tg iter:Expr}{ifs:List Expr}{pos:Pos}{wi:TI}{g:TG}{ti:TT}{te:TE}
theorem ywf {X':Cx}{c0:Comprehension}{pins:List (Addr×Obj)}{R:Hp→Prop}{σ₀:St}{H:Hp}{s:Shared}{it D:Addr}{fp:List Addr}{tn:Nat→Heap→Prop}{J:It}{W:Nat→Nat→Hp→Prop}{m0:Nat}(I:Inv X' pins σ₀ H s)(hcalm:X'.calm=true)(hxe:X'.xe=fun _ _=>False)
 (T:Turn X'.prog X'.w X'.K tg J fp it tn) (st:tn 0 s.heap) (hf:∀b∈fp,yfy X' pins H b) (hg:PG X' tg g) (hi:ymu X' ifs ti) (he:PE X' elt te) (w0:W 0 m0 H)
 (turn:∀i m H,W i m H→(J.stop i H∧R H)∨(J.go i H∧∀x H',J.yld i H x H'→g x σ₀ H' fun σ2 H2=>(∀(k:Nat) v,σ₀[k]? = some (some v)→σ2[k]? = some (some v))∧ti σ2 H2 fun b H3=>
  if b=true then te σ2 H3 fun y H4=>∃zs,H4 D=some (.lst zs)∧zs.length<sizeLine∧∃m',m' < m∧W (i+1) m' (upd H4 D (.lst (zs++[y]))) else ∃m',m' < m∧W (i+1) m' H3)) :
 codeAny (model X'.prog X'.w) X'.A (.compStart (.ListComp elt [c0,⟨tg,iter,ifs,0⟩] scope pos) 1 (.ref it) (.ref D) X'.env) (fun r s'=>(∃f,r = .ok f)∧∃H',Inv X' pins σ₀ H' s'∧R H') s:=by
 have stat:∀{H':Hp},(∀b∈fp,H' b=none)→∀b∈fp,yfy X' pins H' b:=fun hn b hb=>⟨hn b hb,(hf b hb).2⟩
 have loop:codeAny (model X'.prog X'.w) X'.A (.compLoop (.ListComp elt [c0,⟨tg,iter,ifs,0⟩] scope pos) 1 (.ref it) (.ref D) X'.env) (fun r s'=>(∃f,r = .ok f)∧∃H',Inv X' pins σ₀ H' s'∧R H') s:=by
  refine codeAny_loop rfl (fun n s'=>∃i H',Inv X' pins σ₀ H' s'∧tn i s'.heap∧(∀b∈fp,H' b=none)∧W i n H') ?_ m0 ⟨0,H,I,st,fun b hb=>(hf b hb).1,w0⟩
  rintro n s1 ⟨i,H1,I1,st1,fr1,w1⟩
  show wpAny _ X'.A ((compTurn (.ListComp elt [c0,⟨tg,iter,ifs,0⟩] scope pos) 1 (.ref it) (.ref D) X'.env).onRaise (fun x=>do noteFrame x X'.env;theTreesLotGoes x)) _ _ s1
  refine wpAny_noted ?_
  have noE:∀{α:Type}{t:Sem α}{P:α→Shared→Prop}{F:Value→Shared→Prop}{s:Shared},wpAny (model X'.prog X'.w) X'.A t P X'.xe s→wpAny (model X'.prog X'.w) X'.A t P F s:=fun h=>wpAny_mono h (fun _ _ x=>x) fun e s' x=>by rw[hxe] at x;exact x.elim
  rw[ynl]
  refine zwb0 (wpAny_standAt (zwb0 ?_))
  rcases turn i n H1 w1 with ⟨stop,qn⟩ | ⟨go,step⟩
  ·refine thn (T.done X' rfl rfl rfl hcalm i pins s1 σ₀ H1 _ I1 (stat fr1) st1 stop) fun r s2 ⟨hr,I2⟩=>?_
   subst hr
   exact zwp0 ⟨⟨_,rfl⟩,H1,I2,qn⟩
  ·refine thn (T.item X' rfl rfl rfl hcalm i pins s1 σ₀ H1 _ I1 (stat fr1) st1 go) fun r s2 ⟨u,hr,h2⟩=>?_
   subst hr
   refine zwb0 (thn h2 fun _ s3 ⟨x,H3,I3,r3,y3,st3,fr3⟩=>?_)
   have I3':=I3.pinned (stat fr3) (T.obj _ _ st3)
   refine zwb0 (noE (thn (hg _ s3 σ₀ H3 x u _ I3' r3 (step x H3 y3)) fun _ s4 ⟨σ4,H4,I4,hk4,q4⟩=>?_))
   refine zwb0 (noE (thn (hi _ s4 σ4 H4 _ I4 q4) fun ok s5 ⟨H5,I5,q5⟩=>?_))
   have again':∀{s7:Shared}{H7:Hp}{m':Nat},Inv X' (pins++yf7 fp s3.heap) σ4 H7 s7→m' < n→W (i+1) m' H7→∃m,m<n∧∃i H',Inv X' pins σ₀ H' s7∧tn i s7.heap∧(∀b∈fp,H' b=none)∧W i m H':=fun {s7 H7 m'} I7 hm w7=>by
    refine⟨m',hm,i+1,H7,I7.unpinned.weak (by rw[I3.len,I7.len]) hk4,T.keep _ _ _ st3 fun b hb o e=>(I7.pin (b,o) (List.mem_append_right _ (List.mem_append_right _ (ybk hb e)))).1,fun b hb=>?_,w7⟩
    obtain ⟨o,e,d⟩:=T.obj _ _ st3 b hb
    exact(I7.pin (b,o) (List.mem_append_right _ (List.mem_append_right _ (ybk hb e)))).2.1
   cases ok with
   |false=>
    obtain ⟨m',hm,w7⟩:=q5
    exact zwp0 ⟨rfl,again' I5 hm w7⟩
   |true=>
    refine zwb0 (zwb0 (noE (thn (he _ s5 σ4 H5 _ I5 q5) fun y s6 ⟨yv,H6,I6,r6,zs,hD,hz,m',hm,w7⟩=>?_)))
    refine zwb0 (noE (thn (yc0 (X:=X') _ s6 σ4 H6 (.ref D) [yv] (.ref D) [y] (fun v H7=>H7=upd H6 D (.lst (zs++[yv]))) I6 rfl (.cons r6 .nil) ⟨D,zs,yv,rfl,rfl,hD,hz,rfl⟩) fun v s7 ⟨vv,H7,I7,_,e7⟩=>?_))
    subst e7
    exact zwp0 (zwp0 ⟨rfl,again' I7 hm w7⟩)
 refine yl4 loop (T.self _ 0 s _ _ st loop)
variable {t1 i1:Expr}{wi1:TI}{g1:TG}
def two (J:It)(R:Hp→Prop)(D:Addr)(σ₀:St)(g:TG)(wi1:TI)(g1:TG)(ti:TT)(te:TE)(W:Nat→Nat→Hp→Prop):Prop:=∀i m H,W i m H→(J.stop i H∧R H)∨(J.go i H∧∀x H',J.yld i H x H'→g x σ₀ H' fun σ1 H1=>(∀(k:Nat) v,σ₀[k]? = some (some v)→σ1[k]? = some (some v))∧wi1 σ1 H1 fun J1 H2=>
 ∃W1:Nat→Nat→Hp→Prop,(∃m1,W1 0 m1 H2)∧∀j m1 H3,W1 j m1 H3→(J1.stop j H3∧∃m',m' < m∧W (i+1) m' H3)∨(J1.go j H3∧∀y H4,J1.yld j H3 y H4→g1 y σ1 H4 fun σ2 H5=>(∀(k:Nat) v,σ1[k]? = some (some v)→σ2[k]? = some (some v))∧ti σ2 H5 fun b H6=>
  if b=true then te σ2 H6 fun z H7=>∃zs,H7 D=some (.lst zs)∧zs.length<sizeLine∧∃m',m' < m1∧W1 (j+1) m' (upd H7 D (.lst (zs++[z]))) else ∃m',m' < m1∧W1 (j+1) m' H6))
def yx9 (ix:List (Option Nat))(wi:TI)(g:TG)(wi1:TI)(g1:TG)(ti:TT)(te:TE):TE:=fun σ H Q=>wi σ H fun J H1=>∀D,H1 D=none→∃W:Nat→Nat→Hp→Prop,(∃m,W 0 m (upd H1 D (.lst [])))∧two J (Q (.ref D)) D (ybq ix σ) g wi1 g1 ti te W
theorem ypy {X':Cx}{σ₀:St}{H:Hp}{s:Shared}{R:Hp→Prop}{it D:Addr}{fp:List Addr}{tn:Nat→Heap→Prop}{J:It}{W:Nat→Nat→Hp→Prop}{m0:Nat}(I:Inv X' [] σ₀ H s)(hcalm:X'.calm=true)(hxe:X'.xe=fun _ _=>False)
 (T:Turn X'.prog X'.w X'.K tg J fp it tn) (st:tn 0 s.heap) (hf:∀b∈fp,yfy X' [] H b) (hg:PG X' tg g) (hi1:PI X' t1 i1 wi1) (hg1:PG X' t1 g1) (hi:ymu X' ifs ti) (he:PE X' elt te) (w0:W 0 m0 H) (hs1:∀x,foldedSetIterable i1 X'.env x=pure x)
 (turn:two J R D σ₀ g wi1 g1 ti te W) :
 codeAny (model X'.prog X'.w) X'.A (.compStart (.ListComp elt [⟨tg,iter,[],0⟩,⟨t1,i1,ifs,0⟩] scope pos) 0 (.ref it) (.ref D) X'.env) (fun r s'=>(∃f,r = .ok f)∧∃H',Inv X' [] σ₀ H' s'∧R H') s:=by
 have stat:∀{H':Hp},(∀b∈fp,H' b=none)→∀b∈fp,yfy X' [] H' b:=fun hn b hb=>⟨hn b hb,(hf b hb).2⟩
 have loop:codeAny (model X'.prog X'.w) X'.A (.compLoop (.ListComp elt [⟨tg,iter,[],0⟩,⟨t1,i1,ifs,0⟩] scope pos) 0 (.ref it) (.ref D) X'.env) (fun r s'=>(∃f,r = .ok f)∧∃H',Inv X' [] σ₀ H' s'∧R H') s:=by
  refine codeAny_loop rfl (fun n s'=>∃i H',Inv X' [] σ₀ H' s'∧tn i s'.heap∧(∀b∈fp,H' b=none)∧W i n H') ?_ m0 ⟨0,H,I,st,fun b hb=>(hf b hb).1,w0⟩
  rintro n s1 ⟨i,H1,I1,st1,fr1,w1⟩
  show wpAny _ X'.A ((compTurn (.ListComp elt [⟨tg,iter,[],0⟩,⟨t1,i1,ifs,0⟩] scope pos) 0 (.ref it) (.ref D) X'.env).onRaise (fun x=>do noteFrame x X'.env;theTreesLotGoes x)) _ _ s1
  refine wpAny_noted ?_
  have noE:∀{α:Type}{t:Sem α}{P:α→Shared→Prop}{F:Value→Shared→Prop}{s:Shared},wpAny (model X'.prog X'.w) X'.A t P X'.xe s→wpAny (model X'.prog X'.w) X'.A t P F s:=fun h=>wpAny_mono h (fun _ _ x=>x) fun e s' x=>by rw[hxe] at x;exact x.elim
  rw[yl3]
  refine zwb0 (wpAny_standAt (zwb0 ?_))
  rcases turn i n H1 w1 with ⟨stop,qn⟩ | ⟨go,step⟩
  ·refine thn (T.done X' rfl rfl rfl hcalm i [] s1 σ₀ H1 _ I1 (stat fr1) st1 stop) fun r s2 ⟨hr,I2⟩=>?_
   subst hr
   exact zwp0 ⟨⟨_,rfl⟩,H1,I2,qn⟩
  ·refine thn (T.item X' rfl rfl rfl hcalm i [] s1 σ₀ H1 _ I1 (stat fr1) st1 go) fun r s2 ⟨u,hr,h2⟩=>?_
   subst hr
   refine zwb0 (thn h2 fun _ s3 ⟨x,H3,I3,r3,y3,st3,fr3⟩=>?_)
   have I3':=I3.pinned (stat fr3) (T.obj _ _ st3)
   refine zwb0 (noE (thn (hg _ s3 σ₀ H3 x u _ I3' r3 (step x H3 y3)) fun _ s4 ⟨σ4,H4,I4,hk4,q4⟩=>?_))
   refine zwb0 (zwp0 ?_)
   simp only[if_true]
   refine zwb0 (noE (thn (hi1 _ s4 σ4 H4 _ I4 q4) fun v5 s5 h5=>?_))
   refine zwb0 (wpAny_standAt (zwb0 (wpAny_of_eq (hs1 v5) ?_)))
   refine zwb0 (wpAny_holding (noE (thn h5 fun itv s6 h6=>?_)))
   obtain ⟨it1,fp1,tn1,J1,H6,rfl,I6,T1,st6,f6,W1,⟨m1,w6⟩,turn1⟩:=h6
   refine zwb0 (wpAny_runOwn (h:=none) (codeAny_mono (ywf (pins:=[]++yf7 fp s3.heap) (c0:=⟨tg,iter,[],0⟩) (R:=fun H'=>∃m',m' < n∧W (i+1) m' H') (tg:=t1) (iter:=i1) (pos:=pos) (scope:=scope) I6 hcalm hxe T1 st6 f6 hg1 hi he w6 turn1) fun r s7 h7=>?_))
   obtain ⟨⟨fl,rfl⟩,H7,I7,m',hm,w7⟩:=h7
   refine zwp0 ⟨rfl,m',hm,i+1,H7,I7.unpinned.weak (by rw[I3.len,I7.len]) hk4,T.keep _ _ _ st3 fun b hb o e=>(I7.pin (b,o) (List.mem_append_right _ (List.mem_append_right _ (ybk hb e)))).1,fun b hb=>?_,w7⟩
   obtain ⟨o,e,d⟩:=T.obj _ _ st3 b hb
   exact(I7.pin (b,o) (List.mem_append_right _ (List.mem_append_right _ (ybk hb e)))).2.1
 refine codeAny_compStart_list loop (T.self _ 0 s _ _ st loop)
theorem ynm {pins:List (Addr×Obj)}{σ:St}{H:Hp}{s:Shared}{Q:VK}{it:Addr}{fp:List Addr}{tn:Nat→Heap→Prop}{J:It}{E:Value→Shared→Prop}(I:Inv X pins σ H s)(hcalm:X.calm=true)(S:CompScope X N' ix scope)
 (T:Turn X.prog X.w X.K tg J fp it tn) (st:tn 0 s.heap) (hf:∀b∈fp,yfy X pins H b)
 (hg:∀C s H fp,PG (yay X N' scope C s H fp) tg g) (hi1:∀C s H fp,PI (yay X N' scope C s H fp) t1 i1 wi1) (hg1:∀C s H fp,PG (yay X N' scope C s H fp) t1 g1) (hi:∀C s H fp,ymu (yay X N' scope C s H fp) ifs ti) (he:∀C s H fp,PE (yay X N' scope C s H fp) elt te) (hs1:∀C s H fp x,foldedSetIterable i1 (yay X N' scope C s H fp).env x=pure x)
 (h:∀D,H D=none→∃W:Nat→Nat→Hp→Prop,(∃m,W 0 m (upd H D (.lst [])))∧two J (Q (.ref D)) D (ybq ix σ) g wi1 g1 ti te W) :
 wpAny (model X.prog X.w) X.A (newList []) (fun acc s3=>wpAny (model X.prog X.w) X.A (newFunctionEnv scope X.env.globals (ygu X.env scope.names []) [] X.env.qual none .none (some X.env)) (fun cenv s4=>
  codeAny (model X.prog X.w) X.A (.compStart (.ListComp elt [⟨tg,iter,[],0⟩,⟨t1,i1,ifs,0⟩] scope pos) 0 (.ref it) acc { cenv with scope:=relabel scope X.env }) (yj4 X pins σ Q acc cenv.locals) s4) E s3) E s:=by
 refine wpAny_newList ?_
 have fresh0:H s.heap.objs.size=none:=I.hok.fresh (Nat.le_refl _)
 have I3:Inv X pins σ (upd H s.heap.objs.size (.lst [])) { s with heap:=s.heap.push { cls:=.type "list",data:=.seq ([]:List Value).toArray } } :=
  I.laid (t':=s.toks) (fun b u e=>Heap.get?_push_of_some _ e) (Nat.le_refl _) ⟨by show 0≤sizeLine;exact Nat.zero_le _,[],0,.nil,Heap.get?_push_size _ rfl⟩
 obtain ⟨W,⟨m0,w0⟩,turn⟩:=h s.heap.objs.size fresh0
 generalize hD:s.heap.objs.size=D at *
 have lt0:∀b∈fp,b<s.heap.objs.size:=fun b hb=>by obtain ⟨o,e,_⟩:=T.obj 0 _ st b hb;exact Heap.lt_size e
 have hf3:∀b∈fp,yfy X pins (upd H D (.lst [])) b:=fun b hb=>by
  have nb:b≠D:=by rw[← hD];exact Nat.ne_of_lt (lt0 b hb)
  obtain ⟨f0,fr⟩:=hf b hb
  exact⟨by rw[yal nb];exact f0,fr⟩
 have st3:tn 0 (s.heap.push { cls:=.type "list",data:=.seq ([]:List Value).toArray }):=T.keep _ _ _ st fun b hb o e=>Heap.get?_push_of_some _ e
 revert I3 st3
 generalize (s.heap.push { cls:=.type "list",data:=.seq ([]:List Value).toArray })=h3
 intro I3 st3
 have lt3:∀b∈fp,b<h3.objs.size:=fun b hb=>by obtain ⟨o,e,_⟩:=T.obj 0 _ st3 b hb;exact Heap.lt_size e
 refine wpAny_newFunctionEnv S.nocell (fun x hx=>nomatch hx) (fun h4 hns hsb=>?_) S.kind
 have k4:∀b o,h3.get? b=some o→h4.get? b=some o:=fun b o e=>(hsb.2 b (Nat.ne_of_lt (Heap.lt_size e))).trans (Heap.get?_push_of_some _ e)
 have J4:Inv (yay X N' scope h3.objs.size { s with heap:=h3 } (upd H D (.lst [])) fp) [] (ybq ix σ) (upd H D (.lst [])) { s with heap:=h4,toks:=s.toks+([]:List (Str×Value)).length }:=
  yhl (s:={ s with heap:=h3 }) (tk:=s.toks+([]:List (Str×Value)).length) I3 hcalm S hf3 lt3 hns k4
 have st4:tn 0 ({ s with heap:=h4,toks:=s.toks+([]:List (Str×Value)).length }:Shared).heap:=T.keep _ _ _ st3 fun b hb o e=>k4 b o e
 have fr4:∀b∈fp,upd H D (.lst []) b=none:=fun b hb=>(hf3 b hb).1
 revert J4 st4
 generalize ({ s with heap:=h4,toks:=s.toks+([]:List (Str×Value)).length }:Shared)=s4
 intro J4 st4
 have hf4:∀b∈fp,yfy (yay X N' scope h3.objs.size { s with heap:=h3 } (upd H D (.lst [])) fp) [] (upd H D (.lst [])) b:=fun b hb=>
  ⟨fr4 b hb,Nat.ne_of_lt (lt3 b hb),J4.ok.exfs b hb,.inl hb,fun x c e=>(J4.ok.exf b hb).2 x c e,fun p hp=>nomatch hp⟩
 refine codeAny_mono (ypy (X':=yay X N' scope h3.objs.size { s with heap:=h3 } (upd H D (.lst [])) fp) (R:=Q (.ref D)) (D:=D) J4 rfl rfl T st4 hf4 (hg _ _ _ _) (hi1 _ _ _ _) (hg1 _ _ _ _) (hi _ _ _ _) (he _ _ _ _) w0 (hs1 _ _ _ _) turn) fun r s' ⟨hr,H',J',q'⟩=>?_
 refine⟨D,H',rfl,hr,I3.call' J'.os J'.base J'.hok J'.bare fun b hb=>?_,?_,?_,q'⟩
 ·obtain ⟨_,f1,_,f3,f4,f5⟩:=hf3 b hb
  exact⟨f3,f1,f4,f5⟩
 ·exact I3.fpOk (H':=H') (Nat.le_refl _) J'.free
 ·obtain ⟨m,hn,_⟩:=J'.loc
  exact⟨m,hn⟩
theorem yt9 (hcalm:X.calm=true)(S:CompScope X N' ix scope)(hit:PI X tg iter wi)
 (hg:∀C s H fp,PG (yay X N' scope C s H fp) tg g) (hi1:∀C s H fp,PI (yay X N' scope C s H fp) t1 i1 wi1) (hg1:∀C s H fp,PG (yay X N' scope C s H fp) t1 g1) (hi:∀C s H fp,ymu (yay X N' scope C s H fp) ifs ti) (he:∀C s H fp,PE (yay X N' scope C s H fp) elt te)
 (hs1:∀C s H fp x,foldedSetIterable i1 (yay X N' scope C s H fp).env x=pure x:=by intros;rfl) (hs:∀x,foldedSetIterable iter X.env x=pure x:=by intro _;rfl):PE X (.ListComp elt [⟨tg,iter,[],0⟩,⟨t1,i1,ifs,0⟩] scope pos) (yx9 ix wi g wi1 g1 ti te):=by
 intro pins s σ H Q I h
 rw[eval_ListComp]
 refine wpAny_comprehension_free (use:=none) rfl hs (yds I S) S.kind S.loc (thn (hit pins s σ H _ I h) fun v s1 h1=>thn h1 fun itv s2 h2=>?_)
 obtain ⟨it,fp,tn,J,H2,rfl,I2,T,st2,f2,q2⟩:=h2
 refine thn (ynm (E:=X.xe) (elt:=elt) (iter:=iter) (pos:=pos) I2 hcalm S T st2 f2 hg hi1 hg1 hi he hs1 q2) fun acc s3 h3=>thn h3 fun cenv s4 h4=>codeAny_mono h4 fun r s' hr=>?_
 obtain ⟨D,H',rfl,⟨f,rfl⟩,I',⟨g0,g1,_,g3,g4,g5⟩,⟨m,hm⟩,q'⟩:=hr
 exact⟨m,hm,fun h' hsb=>⟨.ref D,H',I'.turned (t':=s'.toks) (fun b o hb e=>(hsb.2 b hb).trans e) g0 g1 g3 g4 g5,rfl,q'⟩⟩
end
def ypz (xs:Array Nat):Prop:=∀(i j:Nat) (hi:i<xs.size) (hj:j<xs.size),i<j→xs[i]<xs[j]
theorem yua {xs:Array Nat}{j:Nat}(h:ypz xs):∀(fuel lo hi:Nat),lo≤hi→hi≤xs.size→hi-lo≤fuel→(∀(k:Nat) (hk:k<xs.size),k<lo→xs[k]<j)→(∀(k:Nat) (hk:k<xs.size),hi≤k→j≤xs[k])→
 SetTable.below.go xs j fuel lo hi≤xs.size∧(∀(k:Nat) (hk:k<xs.size),k<SetTable.below.go xs j fuel lo hi→xs[k]<j)∧∀(k:Nat) (hk:k<xs.size),SetTable.below.go xs j fuel lo hi≤k→j≤xs[k]:=by
 intro fuel
 induction fuel with
 |zero=>
  intro lo hi h1 h2 h3 h4 h5
  have e:lo=hi:=by omega
  subst e
  exact⟨h2,h4,h5⟩
 |succ n ih=>
  intro lo hi h1 h2 h3 h4 h5
  unfold SetTable.below.go
  by_cases c:lo<hi
  ·rw[if_pos c]
   dsimp only
   have hm:(lo+hi) / 2<xs.size:=by omega
   have eg:xs.getD ((lo+hi) / 2) j=xs[(lo+hi) / 2]:=by rw[Array.getD_eq_getD_getElem?,Array.getElem?_eq_getElem hm];rfl
   rw[eg]
   by_cases c2:xs[(lo+hi) / 2]<j
   ·rw[if_pos c2]
    refine ih _ _ (by omega) h2 (by omega) (fun k hk hlt=>?_) h5
    by_cases c3:k=(lo+hi) / 2
    ·subst c3;exact c2
    ·have:=h k ((lo+hi) / 2) hk hm (by omega)
     omega
   ·rw[if_neg c2]
    refine ih _ _ (by omega) (by omega) (by omega) h4 (fun k hk hge=>?_)
    by_cases c3:k=(lo+hi) / 2
    ·subst c3;omega
    ·have:=h ((lo+hi) / 2) k hm hk (by omega)
     omega
  ·rw[if_neg c]
   have e:lo=hi:=by omega
   subst e
   exact⟨h2,h4,h5⟩
theorem yow {xs:Array Nat}(h:ypz xs)(j:Nat):SetTable.below xs j≤xs.size∧(∀(k:Nat) (hk:k<xs.size),k<SetTable.below xs j→xs[k]<j)∧∀(k:Nat) (hk:k<xs.size),SetTable.below xs j≤k→j≤xs[k]:=
 yua h xs.size 0 xs.size (Nat.zero_le _) (Nat.le_refl _) (by omega) (fun k _ z=>absurd z (Nat.not_lt_zero _)) (fun k hk z=>absurd hk (by omega))
theorem ynn {α:Type}(xs:Array α)(p:Nat)(x:α)(hp:p≤xs.size):(SetTable.insertAt xs p x).size=xs.size+1:=by
 unfold SetTable.insertAt
 rw[Array.size_append,Array.size_push,Array.size_extract,Array.size_extract]
 omega
theorem yp0 {α:Type}(xs:Array α)(p:Nat)(x:α)(hp:p≤xs.size)(i:Nat):(SetTable.insertAt xs p x)[i]? = if i<p then xs[i]? else if i=p then some x else xs[i-1]?:=by
 unfold SetTable.insertAt
 have s1:((xs.extract 0 p).push x).size=p+1:=by rw[Array.size_push,Array.size_extract];omega
 by_cases c1:i<p
 ·rw[if_pos c1,Array.getElem?_append_left (by omega),Array.getElem?_push_lt (by rw[Array.size_extract];omega)]
  rw[← Array.getElem?_eq_getElem,Array.getElem?_extract]
  rw[if_pos (by omega)]
  congr 1
  omega
 ·rw[if_neg c1]
  by_cases c2:i=p
  ·subst c2
   rw[if_pos rfl,Array.getElem?_append_left (by omega),Array.getElem?_push,if_pos (by rw[Array.size_extract];omega)]
  ·rw[if_neg c2,Array.getElem?_append_right (by omega),Array.getElem?_extract,s1]
   by_cases c3:i-(p+1)<xs.size-p
   ·rw[if_pos (by omega)]
    congr 1
    omega
   ·rw[if_neg (by omega),Array.getElem?_eq_none (by omega)]
theorem yno {xs:Array Nat}(h:ypz xs){j:Nat}(hn:xs[SetTable.below xs j]?≠some j):ypz (SetTable.insertAt xs (SetTable.below xs j) j):=by
 obtain ⟨b1,b2,b3⟩:=yow h j
 generalize SetTable.below xs j=p at *
 have val:∀(i:Nat) (hi:i<(SetTable.insertAt xs p j).size),some (SetTable.insertAt xs p j)[i]=if i<p then xs[i]? else if i=p then some j else xs[i-1]?:=fun i hi=>by rw[← yp0 xs p j b1 i,Array.getElem?_eq_getElem hi]
 have above:∀(k:Nat) (hk:k<xs.size),p≤k→j<xs[k]:=fun k hk hpk=>by
  have hp:p<xs.size:=by omega
  have h1:=b3 p hp (Nat.le_refl _)
  have h2:xs[p]≠j:=fun z=>hn (by rw[Array.getElem?_eq_getElem hp,z])
  by_cases c:k=p
  ·subst c;omega
  ·have:=h p k hp hk (by omega)
   omega
 intro i k hi hk hik
 have sz:=ynn xs p j b1
 have vi:=val i hi
 have vk:=val k hk
 by_cases c1:k<p
 ·rw[if_pos (by omega),Array.getElem?_eq_getElem (by omega)] at vi
  rw[if_pos c1,Array.getElem?_eq_getElem (by omega)] at vk
  rw[Option.some.inj vi,Option.some.inj vk]
  exact h i k (by omega) (by omega) hik
 ·rw[if_neg c1] at vk
  by_cases c2:k=p
  ·rw[if_pos c2] at vk
   rw[if_pos (by omega),Array.getElem?_eq_getElem (by omega)] at vi
   rw[Option.some.inj vi,Option.some.inj vk]
   exact b2 i (by omega) (by omega)
  ·rw[if_neg c2,Array.getElem?_eq_getElem (by omega)] at vk
   rw[Option.some.inj vk]
   by_cases c3:i<p
   ·rw[if_pos c3,Array.getElem?_eq_getElem (by omega)] at vi
    rw[Option.some.inj vi]
    exact h i (k-1) (by omega) (by omega) (by omega)
   ·rw[if_neg c3] at vi
    by_cases c4:i=p
    ·rw[if_pos c4] at vi
     rw[Option.some.inj vi]
     exact above (k-1) (by omega) (by omega)
    ·rw[if_neg c4,Array.getElem?_eq_getElem (by omega)] at vi
     rw[Option.some.inj vi]
     exact h (i-1) (k-1) (by omega) (by omega) (by omega)
theorem yfq (n:Nat):ypz (Array.range n):=fun i j hi hj hij=>by simpa using hij
theorem yl5 {t:SetTable}{j:Nat}(h:t.slot j = .empty∨t.slot j = .dummy):t.place[SetTable.below t.place j]?≠some j:=fun e=>by
 unfold SetTable.slot at h
 dsimp only at h
 rw[e] at h
 simp at h
theorem yub {t:SetTable}{ha:Nat→Int}{h:Int}:∀(fuel:Nat) (p:SetTable.Probe) {j:Nat}{d:Option Nat},(∀x,p.dummy=some x→t.slot x = .dummy)→SetTable.probe.go t ha h fuel p=some (.empty j d)→t.slot j = .empty∧∀x,d=some x→t.slot x = .dummy:=by
 intro fuel
 induction fuel with
 |zero=>intro p j d _ e;cases e
 |succ n ih=>
  intro p j d hp e
  unfold SetTable.probe.go at e
  have adv:∀q:SetTable.Probe,(t.advance q).dummy=q.dummy:=fun q=>by unfold SetTable.advance;split <;> rfl
  cases q:t.slot p.j with
  |empty=>
   rw[q] at e
   cases e
   exact⟨q,hp⟩
  |dummy=>
   rw[q] at e
   refine ih _ (fun x hx=>?_) e
   rw[adv] at hx
   cases hx
   exact q
  |live i=>
   rw[q] at e
   dsimp only at e
   split at e
   ·cases e
   ·exact ih _ (fun x hx=>hp x (by rw[adv] at hx;exact hx)) e
theorem ykm {t:SetTable}{h:Int}{j:Nat}{b:Bool}(e:t.freeSlot h=some (j,b)):t.place[SetTable.below t.place j]?≠some j:=by
 unfold SetTable.freeSlot at e
 split at e
 ·rename_i j' d hp
  obtain ⟨p1,p2⟩:=yub _ _ (fun x hx=>(by cases hx)) hp
  cases d with
  |none=>cases e;exact yl5 (.inl p1)
  |some x=>cases e;exact yl5 (.inr (p2 x rfl))
 ·cases e
theorem yic {t:SetTable}(es:Array (Int×Value))(h:Int)(x:Value)(hr:ypz t.place):ypz (layNew t es h x).2.1.place∧(layNew t es h x).2.1.led=t.led:=by
 unfold layNew
 split
 ·rename_i slot wd e
  dsimp only
  unfold SetTable.orStandIn
  split
  ·exact⟨yno hr (ykm e),rfl⟩
  ·exact⟨yfq _,rfl⟩
 ·exact⟨yfq _,rfl⟩
theorem ykn {t:SetTable}(es:Array (Int×Value))(n:Nat):ypz (relayAll t es n).2.1.place∧(relayAll t es n).2.1.led=t.led:=by
 unfold relayAll
 split
 ·rename_i t' order e
  dsimp only
  split
  ·unfold SetTable.relaid SetTable.laid at e
   cases q:SetTable.layClean (SetTable.sizeAbove n-1) (es.map (·.1)) with
   |none=>rw[q] at e;cases e
   |some owner=>
    rw[q] at e
    cases e
    refine⟨fun i j hi hj hij=>?_,rfl⟩
    have pw:(((List.range (SetTable.sizeAbove n-1+1)).filterMap fun j=>(owner.getD j none).map (j,·)).map (·.1)).Pairwise (· < ·):=by
     rw[List.pairwise_map]
     refine List.Pairwise.filterMap (R:=(· < ·)) _ (fun a a' haa b hb b' hb'=>?_) List.pairwise_lt_range
     cases q1:owner.getD a none with
     |none=>rw[q1] at hb;cases hb
     |some v1=>
      cases q2:owner.getD a' none with
      |none=>rw[q2] at hb';cases hb'
      |some v2=>rw[q1] at hb;rw[q2] at hb';cases hb;cases hb';exact haa
    have:=List.pairwise_iff_getElem.mp pw i j (by simpa using hi) (by simpa using hj) hij
    simpa using this
  ·exact⟨yfq _,rfl⟩
 ·exact⟨yfq _,rfl⟩
def byT (w:World):Bool:=w.params.followText "set-order"
def kOf (e:Int×Value):Int:=match e.2 with
 |.int k _=>k
 |_=>0
def AllI (l:List (Int×Value)):Prop:=∀e∈l,∃k t,e=(hashInt k,.int k t)
def SetI (w:World)(a:Addr)(ns:List Int)(h:Heap):Prop:=∃o es ep t,h.get? a=some o∧o.ExactSet∧o.data = .set es ep t∧AllI es.toList∧(es.toList.map kOf).Perm ns∧es.size<scanBound∧t.fits es.size=true∧t.led = !byT w∧ypz t.place
section
variable {prog:Program}{w:World}{A:Around}{E:Value→Shared→Prop}{s:Shared}
theorem AllI.elems {l:List (Int×Value)}(h:AllI l):ElemsOf (intKind prog w) l:=fun e he=>by
 obtain ⟨k,t,rfl⟩:=h e he
 exact⟨⟨k,intKind_is prog w k t,rfl⟩,rfl⟩
theorem AllI.perm {l l':List (Int×Value)}(h:AllI l)(p:l'.Perm l):AllI l':=fun e he=>h e (p.mem_iff.mp he)
theorem AllI.has {l:List (Int×Value)}(h:AllI l)(x:Int):x∈l.map kOf↔∃e∈l,(intKind prog w).is x e.2=true:=by
 constructor
 ·intro m
  obtain ⟨e,he,rfl⟩:=List.mem_map.mp m
  obtain ⟨k,t,rfl⟩:=h e he
  exact⟨_,he,intKind_is prog w k t⟩
 ·rintro ⟨e,he,hx⟩
  obtain ⟨k,t,rfl⟩:=h e he
  have:x=k:=(intKind prog w).inj _ x k hx (intKind_is prog w k t)
  subst this
  exact List.mem_map.mpr ⟨_,he,rfl⟩
theorem SetI.typeIs {a:Addr}{ns:List Int} (S:SetI w a ns s.heap):s.TypeIs (.ref a) "set" := let ⟨o,_,_,_,ho,hc,_⟩:=S;⟨o,ho,hc.1⟩
theorem SetI.keep {a:Addr}{ns:List Int}{h h':Heap}(S:SetI w a ns h)(k:∀o,h.get? a=some o→h'.get? a=some o):SetI w a ns h':=let ⟨o,es,ep,t,ho,r⟩:=S;⟨o,es,ep,t,k o ho,r⟩
theorem yl6 {a:Addr}{o:Obj}{es es':Array (Int×Value)}{ep:Nat}{t t':SetTable}{ns:List Int}{h:Heap}(ho:h.get? a=some o)(hex:o.ExactSet)(hd:o.data = .set es ep t)(r:AllI es'.toList∧(es'.toList.map kOf).Perm ns∧es'.size<scanBound∧t'.fits es'.size=true∧t'.led = !byT w∧ypz t'.place) :
 (h.update a (Obj.putSet es' t')).get? a=some { o with data:=.set es' (ep+1) t' }∧SetI w a ns (h.update a (Obj.putSet es' t')):=by
 have hg:(h.update a (Obj.putSet es' t')).get? a=some { o with data:=.set es' (ep+1) t' }:=by
  have:=Heap.get?_update_self (Obj.putSet es' t') ho (by rw[putSet_of es' t' hd];rfl)
  rw[putSet_of es' t' hd] at this
  exact this
 exact⟨hg,_,es',ep+1,t',hg,hex,rfl,r⟩
theorem ywg {Q:Value→Shared→Prop} (h:∀h',(∀b o,s.heap.get? b=some o→h'.get? b=some o)→h'.objs.size=s.heap.objs.size+1→SetI w s.heap.objs.size [] h'→Q (.ref s.heap.objs.size) { s with heap:=h' }):wpAny (model prog w) A (newSet (.type "set")) Q E s:=by
 unfold newSet setsByText
 refine zwb0 (zwb0 (wpAny_askSetting (zwp0 ?_)))
 dsimp only
 simp only[newObj]
 refine zwb0 (wpAny_alloc (zwp0 (h _ (fun b o e=>Heap.get?_push_of_some _ e) (Heap.size_push ..) ⟨_,#[],0,_,Heap.get?_push_size _ rfl,⟨rfl,rfl,rfl⟩,rfl,fun e he=>by simp at he,by exact List.Perm.refl _,by decide,by rfl,rfl,fun i j hi=>by simp [SetTable.fresh] at hi⟩)))
theorem yho {g:Bool→Sem Unit}(hg:∀(b:Bool) (s₁:Shared) (Q':Unit→Shared→Prop),Q' () s₁→wpAny (model prog w) A (g b) Q' E s₁)
 {a:Addr}{o:Obj}{es es1:Array (Int×Value)}{ep:Nat}{t t2:SetTable}{ns:List Int}{wd:Bool}{R:Option Bool→Shared→Prop} (ho:s.heap.get? a=some o) (hex:o.ExactSet) (hd:o.data = .set es ep t)
 (r:AllI es1.toList∧(es1.toList.map kOf).Perm ns∧es1.size<scanBound∧t2.fits es1.size=true∧t2.led = !byT w∧ypz t2.place) (h:∀h',Heap.SameBut a s.heap h'→SetI w a ns h'→R (some true) { s with heap:=h' }) :
 wpAny (model prog w) A (do
  storeSet a es1 t2
  if (!wd&&t2.tooFull)=true then do
   g (relayAll t2 es1 (SetTable.grown es1.size)).2.2
   storeSet a (relayAll t2 es1 (SetTable.grown es1.size)).1 (relayAll t2 es1 (SetTable.grown es1.size)).2.1
   pure (some true)
   else pure (some true)) R E s:=by
 obtain ⟨r1,r2,r3,r4,r5,r6⟩:=id r
 refine zwb0 (wpAny_storeSet_of ho hd ?_ (fits_of_scanBound r3))
 obtain ⟨o1,S1⟩:=yl6 (w:=w) ho hex hd r
 have u1:=Heap.SameBut.update s.heap a (Obj.putSet es1 t2)
 split
 ·have hp:=relayAll_perm t2 es1 (SetTable.grown es1.size)
  have hf:=relayAll_fits t2 es1 (SetTable.grown es1.size)
  obtain ⟨hr,hl⟩:=ykn (t:=t2) es1 (SetTable.grown es1.size)
  generalize relayAll t2 es1 (SetTable.grown es1.size)=Rl at hp hf hr hl ⊢
  obtain ⟨es2,t3,gave⟩:=Rl
  dsimp only at hp hf hr hl ⊢
  have hz:es2.size=es1.size:=by rw[← Array.length_toList,hp.length_eq,Array.length_toList]
  refine zwb0 (hg _ _ _ ?_)
  refine zwb0 (wpAny_storeSet_of o1 rfl ?_ (fits_of_scanBound (by rw[hz];exact r3)))
  obtain ⟨_,S2⟩:=yl6 (w:=w) (ns:=ns) o1 hex rfl ⟨r1.perm hp,(hp.map kOf).trans r2,by rw[hz];exact r3,hf,by rw[hl];exact r5,hr⟩
  exact zwp0 (h _ (u1.trans (Heap.SameBut.update _ a _)) S2)
 ·exact zwp0 (h _ u1 S1)
theorem ywh {a:Addr}{ns:List Int}{x:Int}{tx:Tok}{Q:Value→Shared→Prop}(S:SetI w a ns s.heap)(hn:ns.length+1<scanBound)
 (h:∀h',Heap.SameBut a s.heap h'→SetI w a (if x∈ns then ns else ns++[x]) h'→Q .none { s with heap:=h',toks:=s.toks+1 }):wpAny (model prog w) A (call (.builtin "set.add") [.ref a,.int x tx]) Q E s:=by
 refine wpAny_call_entry PySem.F.slot_set_add S.typeIs PySem.F.entry_set_add ?_ (PySem.F.args_set_add_2 _ _)
 unfold Builtin.«set.add» Builtin.Frozenset.oneOther
 simp only[List.isEmpty_nil,bind_assoc]
 unfold Builtin.Frozenset.addrOf setAdd
 refine zwb0 (zwp0 ?_)
 try dsimp only
 refine zwb0 (zwp0 ?_)
 try dsimp only
 refine zwb0 (wpAny_holding (zwb0 ((intKind prog w).pyHash (intKind_is prog w x tx) ?_)))
 obtain ⟨o,es,ep,t,ho,hex,hd,hel,hpm,hb,hf,hled,hrise⟩:=S
 have hsz:es.size=ns.length:=by rw[← Array.length_toList,← hpm.length_eq,List.length_map]
 have elems:ElemsOf (intKind prog w) es.toList:=hel.elems
 have key:=intKind_is prog w x tx
 unfold setAddHashed setAddHashedIn
 refine wpAny_holding (zwb0 (wpAny_setState_of (s:={ s with toks:=s.toks+1 }) ho hd hf ?_))
 dsimp only
 rw[byScan_of (x:=.int x tx) rfl hb elems]
 simp only[↓reduceIte]
 unfold setAddByScan
 refine zwb0 (zwb0 (wpAny_rule (zwb0 (wpAny_setScan_of key ho hd hf elems ?_))))
 have mem:=(hel.has (prog:=prog) (w:=w) x)
 cases hr:List.findIdx? (fun e=>(intKind prog w).is x e.2) es.toList with
 |some j=>
  dsimp only
  obtain ⟨hj,hpj,_⟩:=List.findIdx?_eq_some_iff_getElem.mp hr
  have hx:x∈ns:=hpm.mem_iff.mp (mem.mpr ⟨_,List.getElem_mem hj,hpj⟩)
  rw[if_pos hx] at h
  refine zwp0 (zwp0 ?_)
  show wpAny _ _ (ret Value.none) _ _ _
  exact zwp0 ⟨_,rfl,h s.heap (Heap.SameBut.refl a s.heap) ⟨o,es,ep,t,ho,hex,hd,hel,hpm,hb,hf,hled,hrise⟩⟩
 |none=>
  dsimp only
  have hx:x ∉ ns:=fun z=>by
   obtain ⟨e,he,hp⟩:=mem.mp (hpm.mem_iff.mpr z)
   have:=List.findIdx?_eq_none_iff.mp hr e he
   rw[hp] at this
   cases this
  rw[if_neg hx] at h
  have hgw:∀(b:Bool) {s₁:Shared}{Q':Unit→Shared→Prop},Q' () s₁→wpAny (model prog w) A.in1 (match b with|true=>rule "set.scan.the-table-gave-way" | false=>pure ()) Q' E s₁:=fun b s₁ Q' hq=>by cases b <;> first|exact zwp0 hq|exact wpAny_rule hq
  have hp1:=layNew_perm t es ((intKind prog w).hash x) (.int x tx)
  have hf1:=layNew_fits t es ((intKind prog w).hash x) (.int x tx)
  obtain ⟨hr1,hl1⟩:=yic es ((intKind prog w).hash x) (.int x tx) hrise
  generalize layNew t es ((intKind prog w).hash x) (.int x tx)=L at hp1 hf1 hr1 hl1 ⊢
  obtain ⟨es1,t1,wd,gave⟩:=L
  dsimp only at hp1 hf1 hr1 hl1 ⊢
  rw[Array.toList_push] at hp1
  have el1:AllI es1.toList:=AllI.perm (l:=es.toList++[((intKind prog w).hash x,.int x tx)]) (fun e he=>by
   rcases List.mem_append.mp he with z|z
   ·exact hel e z
   ·rw[List.mem_singleton.mp z];exact⟨x,tx,rfl⟩) hp1
  have pm1:(es1.toList.map kOf).Perm (ns++[x]):=(hp1.map kOf).trans (by rw[List.map_append];exact hpm.append_right _)
  have sz1:es1.size<scanBound:=by rw[← Array.length_toList,hp1.length_eq,List.length_append,Array.length_toList,hsz];exact hn
  refine zwb0 (hgw _ ?_)
  have fin:∀h',Heap.SameBut a s.heap h'→SetI w a (ns++[x]) h'→wpAny (model prog w) A.in1 (ret Value.none) (fun r s'=>∃v,r = .done (.ret v)∧Q v s') E { s with heap:=h',toks:=s.toks+1 }:=fun h' sb S'=>zwp0 ⟨_,rfl,h h' sb S'⟩
  split
  ·refine zwb0 ?_
   rw[hashByValue_scannable 8 (x:=.int x tx) rfl]
   refine zwp0 ?_
   simp only[plainKind,↓reduceIte]
   refine yho (w:=w) (ns:=ns++[x]) ?_ ho hex hd ⟨el1,pm1,sz1,hf1,by rw[hl1];exact hled,hr1⟩ ?_
   ·intro b s₁ Q' hq;cases b <;> first|exact zwp0 hq|exact wpAny_rule hq
   ·intro h' sb S';dsimp only;exact zwp0 (fin h' sb S')
  ·refine zwb0 (zwp0 ?_)
   simp only[↓reduceIte]
   refine yho (w:=w) (ns:=ns++[x]) ?_ ho hex hd ⟨el1,pm1,sz1,hf1,by rw[hl1];exact hled,hr1⟩ ?_
   ·intro b s₁ Q' hq;cases b <;> first|exact zwp0 hq|exact wpAny_rule hq
   ·intro h' sb S';dsimp only;exact zwp0 (fin h' sb S')
end
def HS (w:World)(a:Addr)(ns:List Int):HO:=.ext (SetI w a ns)
theorem ywi {P:Program}{w:World}{H:Hp}{h:Heap}{a:Addr}{ns:List Int}(S:SetI w a ns h):ObjOk P w H h a (HS w a ns):=⟨S,(let ⟨o,_,_,_,ho,_⟩:=S;⟨o,ho⟩),fun h1 h2 S1 k=>S1.keep k⟩
theorem yya {X:Cx}{pins:List (Addr×Obj)}{σ:St}{H:Hp}{s:Shared}{a:Addr}{ns:List Int}(I:Inv X pins σ H s)(e:H a=some (HS X.w a ns)):SetI X.w a ns s.heap:=(show ObjOk X.prog X.w H s.heap a (HS X.w a ns) from I.hok a _ e).1
theorem yzh {X:Cx}{pins:List (Addr×Obj)}{σ:St}{H:Hp}{s:Shared}{a:Addr}{ns:List Int}{x:Int}{tx:Tok}{A:Around}{E:Value→Shared→Prop}{Q:Value→Shared→Prop}(I:Inv X pins σ H s)(e:H a=some (HS X.w a ns))(hn:ns.length+1<scanBound)
 (h:∀s',Inv X pins σ (upd H a (HS X.w a (if x∈ns then ns else ns++[x]))) s'→Q .none s'):wpAny (model X.prog X.w) A (call (.builtin "set.add") [.ref a,.int x tx]) Q E s :=
 ywh (w:=X.w) (yya I e) hn fun h' sb S'=>h _ (ykl I (by rw[e];exact True.intro) sb (let ⟨o,_,_,_,ho,_⟩:=S';⟨o,ho⟩) (ywi S'))
theorem yl7 (elt target iter:Expr)(ifs:List Expr)(scope:Scope)(pos:Pos)(it acc:Value)(env:Env) :
 compTurn (.SetComp elt [⟨target,iter,ifs,0⟩] scope pos) 0 it acc env=(do
  standAt iter.pos
  match ← pyNext it with
  |none=>pure (.done .next)
  |some v=>
   letOwnedTupleGo target it v
   assign target env v
   let mut ok:=true
   for c in ifs do
    if ok then ok ← isTrue c env (eval c env)
   if ok then
    (do let v ← eval elt env;standAt elt.pos;let _ ← call (.builtin "set.add") [acc,v])
   again (.compLoop (.SetComp elt [⟨target,iter,ifs,0⟩] scope pos) 0 it acc env)):=by rfl
section
variable {prog:Program}{w:World}{A:Around}{R:Result→Shared→Prop}{s:Shared}
theorem yko {elt target iter ifs scope pos it acc env}
 (h0:codeAny (model prog w) A (.compLoop (.SetComp elt [⟨target,iter,ifs,0⟩] scope pos) 0 it acc env) R s)
 (h:wpAny (model prog w) A (pyIter it) (fun it' s'=>codeAny (model prog w) A (.compLoop (.SetComp elt [⟨target,iter,ifs,0⟩] scope pos) 0 it' acc env) R s') (notedBy (model prog w) A env fun x s'=>R (.error x) s') s) :
 codeAny (model prog w) A (.compStart (.SetComp elt [⟨target,iter,ifs,0⟩] scope pos) 0 it acc env) R s:=by
 refine codeAny_of_tree ?_
 show wpAny _ _ ((compStart (.SetComp elt [⟨target,iter,ifs,0⟩] scope pos) 0 it acc env).onRaise (fun x=>do noteFrame x env;standAt theWindowsPlace)) _ _ s
 refine wpAny_notedAt ?_
 unfold compStart
 show wpAny _ _ (ask >>= _) _ _ s
 refine zwb0 (wpAny_askSetting (wpAny_ite ?_))
 split
 ·first|exact zwb0 (zwp0 (zwp0 (And.intro rfl h0)))|exact zwp0 (And.intro rfl h0)
 ·refine zwb0 (wpAny_rule ?_)
  show wpAny _ _ (standAt iter.pos >>= _) _ _ s
  exact zwb0 (wpAny_standAt (zwb0 (wpAny_mono h (fun it' s' h'=>zwp0 (And.intro rfl h')) fun _ _ x=>x)))
end
section
variable {X:Cx}{N':List Str}{ix:List (Option Nat)}{scope:Scope}{elt tg iter:Expr}{ifs:List Expr}{pos:Pos}{wi:TI}{g:TG}{ti:TT}{te:TE}
def yyb (w:World)(ix:List (Option Nat))(wi:TI)(g:TG)(ti:TT)(te:TE):TE:=fun σ H Q=>wi σ H fun J H1=>∀D,H1 D=none→∃W:Nat→Nat→Hp→Prop,(∃m,W 0 m (upd H1 D (HS w D [])))∧∀i m H,W i m H→
 (J.stop i H∧Q (.ref D) H)∨(J.go i H∧∀x H',J.yld i H x H'→g x (ybq ix σ) H' fun σ2 H2=>(∀(k:Nat) v,(ybq ix σ)[k]? = some (some v)→σ2[k]? = some (some v))∧ti σ2 H2 fun b H3=>
  if b=true then te σ2 H3 fun y H4=>∃ns x,H4 D=some (HS w D ns)∧y = .int x∧ns.length+1<scanBound∧∃m',m' < m∧W (i+1) m' (upd H4 D (HS w D (if x∈ns then ns else ns++[x]))) else ∃m',m' < m∧W (i+1) m' H3)
theorem yp1 {X':Cx}{σ₀:St}{H:Hp}{s:Shared}{Q:VK}{it D:Addr}{fp:List Addr}{tn:Nat→Heap→Prop}{J:It}{W:Nat→Nat→Hp→Prop}{m0:Nat}(I:Inv X' [] σ₀ H s)(hcalm:X'.calm=true)(hxe:X'.xe=fun _ _=>False)
 (T:Turn X'.prog X'.w X'.K tg J fp it tn) (st:tn 0 s.heap) (hf:∀b∈fp,yfy X' [] H b) (hg:PG X' tg g) (hi:ymu X' ifs ti) (he:PE X' elt te) (w0:W 0 m0 H)
 (turn:∀i m H,W i m H→(J.stop i H∧Q (.ref D) H)∨(J.go i H∧∀x H',J.yld i H x H'→g x σ₀ H' fun σ2 H2=>(∀(k:Nat) v,σ₀[k]? = some (some v)→σ2[k]? = some (some v))∧ti σ2 H2 fun b H3=>
  if b=true then te σ2 H3 fun y H4=>∃ns x,H4 D=some (HS X'.w D ns)∧y = .int x∧ns.length+1<scanBound∧∃m',m' < m∧W (i+1) m' (upd H4 D (HS X'.w D (if x∈ns then ns else ns++[x]))) else ∃m',m' < m∧W (i+1) m' H3)) :
 codeAny (model X'.prog X'.w) X'.A (.compStart (.SetComp elt [⟨tg,iter,ifs,0⟩] scope pos) 0 (.ref it) (.ref D) X'.env) (fun r s'=>(∃f,r = .ok f)∧∃H',Inv X' [] σ₀ H' s'∧Q (.ref D) H') s:=by
 have stat:∀{H':Hp},(∀b∈fp,H' b=none)→∀b∈fp,yfy X' [] H' b:=fun hn b hb=>⟨hn b hb,(hf b hb).2⟩
 have loop:codeAny (model X'.prog X'.w) X'.A (.compLoop (.SetComp elt [⟨tg,iter,ifs,0⟩] scope pos) 0 (.ref it) (.ref D) X'.env) (fun r s'=>(∃f,r = .ok f)∧∃H',Inv X' [] σ₀ H' s'∧Q (.ref D) H') s:=by
  refine codeAny_loop rfl (fun n s'=>∃i H',Inv X' [] σ₀ H' s'∧tn i s'.heap∧(∀b∈fp,H' b=none)∧W i n H') ?_ m0 ⟨0,H,I,st,fun b hb=>(hf b hb).1,w0⟩
  rintro n s1 ⟨i,H1,I1,st1,fr1,w1⟩
  show wpAny _ X'.A ((compTurn (.SetComp elt [⟨tg,iter,ifs,0⟩] scope pos) 0 (.ref it) (.ref D) X'.env).onRaise (fun x=>do noteFrame x X'.env;theTreesLotGoes x)) _ _ s1
  refine wpAny_noted ?_
  have noE:∀{α:Type}{t:Sem α}{P:α→Shared→Prop}{F:Value→Shared→Prop}{s:Shared},wpAny (model X'.prog X'.w) X'.A t P X'.xe s→wpAny (model X'.prog X'.w) X'.A t P F s:=fun h=>wpAny_mono h (fun _ _ x=>x) fun e s' x=>by rw[hxe] at x;exact x.elim
  rw[yl7]
  refine zwb0 (wpAny_standAt (zwb0 ?_))
  rcases turn i n H1 w1 with ⟨stop,qn⟩ | ⟨go,step⟩
  ·refine thn (T.done X' rfl rfl rfl hcalm i [] s1 σ₀ H1 _ I1 (stat fr1) st1 stop) fun r s2 ⟨hr,I2⟩=>?_
   subst hr
   exact zwp0 ⟨⟨_,rfl⟩,H1,I2,qn⟩
  ·refine thn (T.item X' rfl rfl rfl hcalm i [] s1 σ₀ H1 _ I1 (stat fr1) st1 go) fun r s2 ⟨u,hr,h2⟩=>?_
   subst hr
   refine zwb0 (thn h2 fun _ s3 ⟨x,H3,I3,r3,y3,st3,fr3⟩=>?_)
   have I3':=I3.pinned (stat fr3) (T.obj _ _ st3)
   refine zwb0 (noE (thn (hg _ s3 σ₀ H3 x u _ I3' r3 (step x H3 y3)) fun _ s4 ⟨σ4,H4,I4,hk4,q4⟩=>?_))
   refine zwb0 (noE (thn (hi _ s4 σ4 H4 _ I4 q4) fun ok s5 ⟨H5,I5,q5⟩=>?_))
   have again':∀{s7:Shared}{H7:Hp}{m':Nat},Inv X' ([]++yf7 fp s3.heap) σ4 H7 s7→m' < n→W (i+1) m' H7→∃m,m<n∧∃i H',Inv X' [] σ₀ H' s7∧tn i s7.heap∧(∀b∈fp,H' b=none)∧W i m H':=fun {s7 H7 m'} I7 hm w7=>by
    refine⟨m',hm,i+1,H7,I7.unpinned.weak (by rw[I3.len,I7.len]) hk4,T.keep _ _ _ st3 fun b hb o e=>(I7.pin (b,o) (List.mem_append_right _ (List.mem_append_right _ (ybk hb e)))).1,fun b hb=>?_,w7⟩
    obtain ⟨o,e,d⟩:=T.obj _ _ st3 b hb
    exact(I7.pin (b,o) (List.mem_append_right _ (List.mem_append_right _ (ybk hb e)))).2.1
   cases ok with
   |false=>
    obtain ⟨m',hm,w7⟩:=q5
    exact zwp0 ⟨rfl,again' I5 hm w7⟩
   |true=>
    refine zwb0 (zwb0 (noE (thn (he _ s5 σ4 H5 _ I5 q5) fun y s6 ⟨yv,H6,I6,r6,ns,x6,hD,ey,hz,m',hm,w7⟩=>?_)))
    subst ey
    obtain ⟨tx,rfl⟩:=r6
    refine zwb0 (wpAny_standAt (zwb0 ?_))
    exact yzh I6 hD hz fun s8 I8=>zwp0 (zwp0 ⟨rfl,again' I8 hm w7⟩)
 refine yko loop (T.self _ 0 s _ _ st loop)
theorem ynp {pins:List (Addr×Obj)}{σ:St}{H:Hp}{s:Shared}{Q:VK}{it:Addr}{fp:List Addr}{tn:Nat→Heap→Prop}{J:It}{E:Value→Shared→Prop}(I:Inv X pins σ H s)(hcalm:X.calm=true)(S:CompScope X N' ix scope)
 (T:Turn X.prog X.w X.K tg J fp it tn) (st:tn 0 s.heap) (hf:∀b∈fp,yfy X pins H b)
 (hg:∀C s H fp,PG (yay X N' scope C s H fp) tg g) (hi:∀C s H fp,ymu (yay X N' scope C s H fp) ifs ti) (he:∀C s H fp,PE (yay X N' scope C s H fp) elt te)
 (h:∀D,H D=none→∃W:Nat→Nat→Hp→Prop,(∃m,W 0 m (upd H D (HS X.w D [])))∧∀i m H,W i m H→
  (J.stop i H∧Q (.ref D) H)∨(J.go i H∧∀x H',J.yld i H x H'→g x (ybq ix σ) H' fun σ2 H2=>(∀(k:Nat) v,(ybq ix σ)[k]? = some (some v)→σ2[k]? = some (some v))∧ti σ2 H2 fun b H3=>
   if b=true then te σ2 H3 fun y H4=>∃ns x,H4 D=some (HS X.w D ns)∧y = .int x∧ns.length+1<scanBound∧∃m',m' < m∧W (i+1) m' (upd H4 D (HS X.w D (if x∈ns then ns else ns++[x]))) else ∃m',m' < m∧W (i+1) m' H3)) :
 wpAny (model X.prog X.w) X.A (newSet (.type "set")) (fun acc s3=>wpAny (model X.prog X.w) X.A (newFunctionEnv scope X.env.globals (ygu X.env scope.names []) [] X.env.qual none .none (some X.env)) (fun cenv s4 =>
  codeAny (model X.prog X.w) X.A (.compStart (.SetComp elt [⟨tg,iter,ifs,0⟩] scope pos) 0 (.ref it) acc { cenv with scope:=relabel scope X.env }) (yj4 X pins σ Q acc cenv.locals) s4) E s3) E s:=by
 refine ywg (w:=X.w) fun h3 kk hsz S3=>?_
 have fresh0:H s.heap.objs.size=none:=I.hok.fresh (Nat.le_refl _)
 obtain ⟨W,⟨m0,w0⟩,turn⟩:=h s.heap.objs.size fresh0
 have lt0:∀b∈fp,b<s.heap.objs.size:=fun b hb=>by obtain ⟨o,e,_⟩:=T.obj 0 _ st b hb;exact Heap.lt_size e
 generalize hD:s.heap.objs.size=D at *
 have I3:Inv X pins σ (upd H D (HS X.w D [])) { s with heap:=h3 }:=I.laid (a:=D) (o:=HS X.w D []) (t':=s.toks) kk (Nat.le_of_eq hD) (ywi S3)
 have hf3:∀b∈fp,yfy X pins (upd H D (HS X.w D [])) b:=fun b hb=>by
  obtain ⟨f0,fr⟩:=hf b hb
  exact⟨by rw[yal (Nat.ne_of_lt (lt0 b hb))];exact f0,fr⟩
 have st3:tn 0 h3:=T.keep _ _ _ st fun b hb o e=>kk b o e
 have lt3:∀b∈fp,b<h3.objs.size:=fun b hb=>by obtain ⟨o,e,_⟩:=T.obj 0 _ st3 b hb;exact Heap.lt_size e
 refine wpAny_newFunctionEnv S.nocell (fun x hx=>nomatch hx) (fun h4 hns hsb=>?_) S.kind
 have k4:∀b o,h3.get? b=some o→h4.get? b=some o:=fun b o e=>(hsb.2 b (Nat.ne_of_lt (Heap.lt_size e))).trans (Heap.get?_push_of_some _ e)
 have J4:Inv (yay X N' scope h3.objs.size { s with heap:=h3 } (upd H D (HS X.w D [])) fp) [] (ybq ix σ) (upd H D (HS X.w D [])) { s with heap:=h4,toks:=s.toks+([]:List (Str×Value)).length }:=
  yhl (s:={ s with heap:=h3 }) (tk:=s.toks+([]:List (Str×Value)).length) I3 hcalm S hf3 lt3 hns k4
 have st4:tn 0 ({ s with heap:=h4,toks:=s.toks+([]:List (Str×Value)).length }:Shared).heap:=T.keep _ _ _ st3 fun b hb o e=>k4 b o e
 have fr4:∀b∈fp,upd H D (HS X.w D []) b=none:=fun b hb=>(hf3 b hb).1
 revert J4 st4
 generalize ({ s with heap:=h4,toks:=s.toks+([]:List (Str×Value)).length }:Shared)=s4
 intro J4 st4
 have hf4:∀b∈fp,yfy (yay X N' scope h3.objs.size { s with heap:=h3 } (upd H D (HS X.w D [])) fp) [] (upd H D (HS X.w D [])) b:=fun b hb=>
  ⟨fr4 b hb,Nat.ne_of_lt (lt3 b hb),J4.ok.exfs b hb,.inl hb,fun x c e=>(J4.ok.exf b hb).2 x c e,fun p hp=>nomatch hp⟩
 refine codeAny_mono (yp1 (X':=yay X N' scope h3.objs.size { s with heap:=h3 } (upd H D (HS X.w D [])) fp) (Q:=Q) (D:=D) J4 rfl rfl T st4 hf4 (hg _ _ _ _) (hi _ _ _ _) (he _ _ _ _) w0 turn) fun r s' ⟨hr,H',J',q'⟩=>?_
 refine⟨D,H',rfl,hr,I3.call' J'.os J'.base J'.hok J'.bare fun b hb=>?_,?_,?_,q'⟩
 ·obtain ⟨_,f1,_,f3,f4,f5⟩:=hf3 b hb
  exact⟨f3,f1,f4,f5⟩
 ·exact I3.fpOk (H':=H') (Nat.le_refl _) J'.free
 ·obtain ⟨m,hn,_⟩:=J'.loc
  exact⟨m,hn⟩
theorem yox (hcalm:X.calm=true)(S:CompScope X N' ix scope)(hit:PI X tg iter wi)
 (hg:∀C s H fp,PG (yay X N' scope C s H fp) tg g) (hi:∀C s H fp,ymu (yay X N' scope C s H fp) ifs ti) (he:∀C s H fp,PE (yay X N' scope C s H fp) elt te)
 (hs:∀x,foldedSetIterable iter X.env x=pure x:=by intro _;rfl):PE X (.SetComp elt [⟨tg,iter,ifs,0⟩] scope pos) (yyb X.w ix wi g ti te):=by
 intro pins s σ H Q I h
 show wpAny _ X.A (comprehension (.SetComp elt [⟨tg,iter,ifs,0⟩] scope pos) scope X.env _ (newSet (.type "set")) false (eval iter X.env)) _ _ s
 refine wpAny_comprehension_free (use:=none) rfl hs (yds I S) S.kind S.loc (thn (hit pins s σ H _ I h) fun v s1 h1=>thn h1 fun itv s2 h2=>?_)
 obtain ⟨it,fp,tn,J,H2,rfl,I2,T,st2,f2,q2⟩:=h2
 refine thn (ynp (E:=X.xe) (elt:=elt) (iter:=iter) (pos:=pos) I2 hcalm S T st2 f2 hg hi he q2) fun acc s3 h3=>thn h3 fun cenv s4 h4=>codeAny_mono h4 fun r s' hr=>?_
 obtain ⟨D,H',rfl,⟨f,rfl⟩,I',⟨g0,g1,_,g3,g4,g5⟩,⟨m,hm⟩,q'⟩:=hr
 exact⟨m,hm,fun h' hsb=>⟨.ref D,H',I'.turned (t':=s'.toks) (fun b o hb e=>(hsb.2 b hb).trans e) g0 g1 g3 g4 g5,rfl,q'⟩⟩
end
theorem ygz {α:Type}:∀{l:List α}{i:Nat} (hi:i<l.length),(l[i]::l.eraseIdx i).Perm l
 |x::r,0,_=>List.Perm.refl _
 |x::r,i+1,hi=>by
  have hi':i<r.length:=by simpa using hi
  have h:=ygz hi'
  show (r[i]::x::r.eraseIdx i).Perm (x::r)
  exact(List.Perm.swap x r[i] _).trans (h.cons x)
theorem ywj {α:Type}(next:Nat→Nat):∀(fuel k:Nat) (left:List α) (out:Array α),left.length=fuel→(pickOrder.go next fuel k left out).toList.Perm (out.toList++left):=by
 intro fuel
 induction fuel with
 |zero=>
  intro k left out h
  rw[List.length_eq_zero_iff.mp h,List.append_nil]
  exact List.Perm.refl _
 |succ n ih=>
  intro k left out h
  unfold pickOrder.go
  have hi:next k % left.length<left.length:=Nat.mod_lt _ (by omega)
  rw[List.getElem?_eq_getElem hi]
  dsimp only
  refine(ih _ _ _ (by rw[List.length_eraseIdx,if_pos hi];omega)).trans ?_
  rw[Array.toList_push,List.append_assoc]
  refine List.Perm.append_left _ ?_
  exact ygz hi
theorem yid {α:Type}(next:Nat→Nat)(xs:Array α):(pickOrder next xs).toList.Perm xs.toList:=by
 have:=ywj next xs.size 0 xs.toList #[] (by simp)
 simpa [pickOrder] using this
section
variable {prog:Program}{w:World}{A:Around}{E:Value→Shared→Prop}{s:Shared}
theorem yl8 {src:Source}{n:Nat}{Q:Nat→Shared→Prop}(hn:n≠0)(h:∀i d,i<n→Q i { s with drawn:=d }):wpAny (model prog w) A (choose src n) Q E s:=
 fun _ _ _=>⟨hn,h _ _ (Nat.mod_lt _ (Nat.pos_of_ne_zero hn))⟩
theorem yie {α:Type}:∀(n:Nat) (xs:List α) (s:Shared) {Q:List α→Shared→Prop},xs.length=n→(∀ys d,ys.Perm xs→Q ys { s with drawn:=d })→wpAny (model prog w) A (drawOrder n xs) Q E s:=by
 intro n
 induction n with
 |zero=>
  intro xs s Q h q
  unfold drawOrder
  rw[List.length_eq_zero_iff.mp h] at q
  exact zwp0 (q [] s.drawn (List.Perm.refl _))
 |succ n ih=>
  intro xs s Q h q
  cases xs with
  |nil=>cases h
  |cons x r=>
   unfold drawOrder
   refine zwb0 (yl8 (by simp) fun i d hi=>?_)
   rw[List.getElem?_eq_getElem hi]
   dsimp only
   refine zwb0 (ih _ _ (by rw[List.length_eraseIdx,if_pos hi];omega) fun ys d' hp=>zwp0 (q _ d' ?_))
   exact(hp.cons _).trans (ygz hi)
end
theorem slot_set_iterator_next:Slot "set_iterator" "__next__" "set_iterator.__next__" :=
 .of (owner := "set_iterator") (n := "__next__") (by rw[typeLookup_type,builtinLookup_eq_fast];kernel_rfl) (by decide +kernel) (by decide +kernel) (by decide +kernel) (by first|exact .inl (by decide +kernel)|exact .inr (by decide +kernel)) (by rw[isSubtype_type];kernel_rfl)
theorem yc3:entryFor table "set_iterator.__next__" = some Builtin.«set_iterator.__next__»:=entryFor_of_tree (by kernel_rfl)
theorem yc9 (a:Value):argsOk "set_iterator.__next__" ⟨[a],[]⟩:=by unfold argsOk;kernel_rfl
theorem yi3:entryFor table "set.__iter__" = some Builtin.«frozenset.__iter__»:=entryFor_alias (by kernel_rfl) rfl (id' := "frozenset.__iter__") (by decide +kernel) (by kernel_rfl)
def yhk (h:Heap) (I:Addr) (first:Value) (i:Nat) (a:Addr) (n ep:Nat):Prop:=h.get? I=some { cls:=.type "set_iterator",data:=.fields #[first,.int i 0,.ref a,.int n 0,.int ep 0] }
inductive Way (w:World) (a:Addr) (es:Array (Int×Value)) (ep:Nat) (t:SetTable):List Value→(Nat→Heap→Value→Prop)→List Addr→Prop
 |led (h:byT w=false) (hl:t.led=true) (hp:(t.plain || decide (es.size≤1))=true):Way w a es ep t (es.toList.map (·.2)) (fun i _ f=>f=rawInt ((if i=0 then 0 else t.place.getD (i-1) 0+1:Nat):Int)) []
 |text (h:byT w=true):Way w a es ep t ((pickOrder (w.params.setOrder a ep) es).toList.map (·.2)) (fun _ _ f=>f=rawInt 0) []
 |drawn {ps:List Nat}{tp:Addr} (h:ps.Perm (List.range es.size)):Way w a es ep t (ps.filterMap fun i=>(es[i]?).map (·.2)) (fun _ hp f=>f = .ref tp∧∃o n,hp.get? tp=some o∧o.data = .seq (ps.map fun (i:Nat)=>rawInt i).toArray n) [tp]
theorem Way.perm {w:World}{a:Addr}{es:Array (Int×Value)}{ep:Nat}{t:SetTable}{vals:List Value}{F:Nat→Heap→Value→Prop}{ex:List Addr}(y:Way w a es ep t vals F ex):vals.Perm (es.toList.map (·.2)):=by
 cases y with
 |led=>exact List.Perm.refl _
 |text=>exact(yid _ es).map _
 |drawn h=>
  refine(h.filterMap _).trans ?_
  have:(List.range es.size).filterMap (fun i=>(es[i]?).map (·.2))=es.toList.map (·.2):=by
   have e:=PySem.filterMap_getElem?_range es
   rw[← e,List.map_filterMap]
  rw[this]
section
variable {prog:Program}{w:World}{A:Around}{E:Value→Shared→Prop}{s:Shared}
theorem yuc {a:Addr}{o:Obj}{es:Array (Int×Value)}{ep:Nat}{t:SetTable}{Q:Value→Shared→Prop}(ho:s.heap.get? a=some o)(hex:o.ExactSet)(hd:o.data = .set es ep t)(hf:t.fits es.size=true)(hled:t.led = !byT w)(hb:es.size<scanBound)
 (h:∀I h' d vals F ex first,Way w a es ep t vals F ex→F 0 h' first→yhk h' I first 0 a es.size ep→(∀b o,s.heap.get? b=some o→h'.get? b=some o)→s.heap.objs.size≤I→(∀b∈ex,s.heap.objs.size≤b∧b<I)→I<h'.objs.size→Q (.ref I) { s with heap:=h',drawn:=d }):wpAny (model prog w) A (pyIter (.ref a)) Q E s:=by
 have hT:s.TypeIs (.ref a) "set" := ⟨o,ho,hex.1⟩
 refine wpAny_pyIter_slot hT PySem.F.slot_set_iter (wpAny_call_entry PySem.F.slot_set_iter hT yi3 ?_ (PySem.F.args_set_iter_1 _))
 unfold Builtin.«frozenset.__iter__» Builtin.Frozenset.slot0 slotArgs
 simp only[List.isEmpty_nil,Bool.not_true,Bool.false_eq_true,↓reduceIte,bind_assoc,List.length_nil,bne_self_eq_false]
 unfold Builtin.Frozenset.addrOf Builtin.Frozenset.sizeOf
 refine zwb0 (zwp0 (zwb0 (zwp0 (zwb0 (zwb0 (wpAny_setEntries_of ho hd hf (zwp0 ?_)))))))
 refine zwb0 ?_
 unfold setDrawn setsByText
 refine zwb0 (wpAny_setState_of ho hd hf ?_)
 dsimp only
 refine zwb0 (zwb0 (wpAny_askSetting (zwp0 (zwp0 ?_))))
 have fin:∀(first:Value) (s1:Shared) (d:Drawn) (h1:Heap),s1 = { s with heap:=h1,drawn:=d }→(∀b o,s.heap.get? b=some o→h1.get? b=some o)→(∀I h',I=h1.objs.size→(∀b o,h1.get? b=some o→h'.get? b=some o)→yhk h' I first 0 a es.size ep→I<h'.objs.size→Q (.ref I) { s with heap:=h',drawn:=d })→
  wpAny (model prog w) A.in1 (do let e ← setEpoch a;let x ← newFields "set_iterator" [first,rawInt 0,Value.ref a,rawInt es.size,rawInt e];ret x) (fun fin s'=>∃v,fin=Fin.done (Flow.ret v)∧∃T' r,s'.TypeIs v T'∧typeLookup (Value.type T') (Str.ofString "__next__")=pure (some r)∧Q v s') E s1:=by
  intro first s1 d h1 e1 k1 q
  subst e1
  refine zwb0 (wpAny_setEpoch_of (k1 _ _ ho) hd hf ?_)
  refine zwb0 (wpAny_newObj_type (zwp0 ⟨_,rfl,"set_iterator",_,⟨_,Heap.get?_push_size _ rfl,rfl⟩,slot_set_iterator_next.lookup,?_⟩))
  exact q h1.objs.size _ rfl (fun b o e=>Heap.get?_push_of_some _ e) (Heap.get?_push_size _ rfl) (by rw[Heap.size_push];exact Nat.lt_succ_self _)
 split
 ·rename_i c0
  refine zwb0 (yie _ _ _ (List.length_range ..) fun ys d hp=>?_)
  have hlen:ys.length=es.size:=by rw[hp.length_eq,List.length_range]
  refine zwb0 (wpAny_newTuple ?_ (by rw[List.length_map,hlen];exact fits_of_scanBound hb))
  refine fin _ _ d (s.heap.push { cls:=.type "tuple",data:=.seq (ys.map fun (i:Nat)=>rawInt i).toArray }) rfl (fun b o e=>Heap.get?_push_of_some _ e) fun I h' eI kI si lI=>?_
  have sz:=Heap.size_push s.heap ({ cls:=.type "tuple",data:=.seq (ys.map fun (i:Nat)=>rawInt i).toArray }:Obj)
  refine h I h' d _ _ _ _ (.drawn (tp:=s.heap.objs.size) hp) ⟨rfl,_,_,kI _ _ (Heap.get?_push_size _ rfl),rfl⟩ si (fun b o e=>kI _ _ (Heap.get?_push_of_some _ e)) (by omega) (fun b hb=>?_) lI
  rw[List.mem_singleton.mp hb]
  exact⟨Nat.le_refl _,by rw[eI];exact Nat.lt_of_lt_of_eq (Nat.lt_succ_self _) sz.symm⟩
 ·rename_i c0
  have c:¬ (!byT w&&(!t.plain&&decide (es.size > 1)))=true:=c0
  refine zwb0 (zwp0 ?_)
  refine fin _ _ s.drawn s.heap rfl (fun b o e=>e) fun I h' eI kI si lI=>?_
  cases bt:byT w with
  |true=>exact h I h' s.drawn _ _ _ _ (.text bt) rfl si kI (by omega) (fun b hb=>by cases hb) lI
  |false=>
   refine h I h' s.drawn _ _ _ _ (.led bt (by rw[hled,bt];rfl) ?_) rfl si kI (by omega) (fun b hb=>by cases hb) lI
   rw[bt] at c
   cases hp:t.plain with
   |true=>rfl
   |false=>
    rw[hp] at c
    have:¬ es.size > 1:=fun z=>c (by simp [z])
    simp
    omega
end
theorem yp2 {place:Array Nat}(h:ypz place){i:Nat}(hi:i≤place.size):SetTable.below place (if i=0 then 0 else place.getD (i-1) 0+1)=i:=by
 obtain ⟨b1,b2,b3⟩:=yow h (if i=0 then 0 else place.getD (i-1) 0+1)
 generalize SetTable.below place (if i=0 then 0 else place.getD (i-1) 0+1)=b at *
 by_cases c:i=0
 ·rw[if_pos c] at b2
  by_cases z:b=0
  ·omega
  ·have:=b2 0 (by omega) (by omega)
   omega
 ·rw[if_neg c] at b2 b3
  have hm:i-1<place.size:=by omega
  have eg:place.getD (i-1) 0=place[i-1]:=by rw[Array.getD_eq_getD_getElem?,Array.getElem?_eq_getElem hm];rfl
  rw[eg] at b2 b3
  rcases Nat.lt_trichotomy b i with z|z|z
  ·have:=b3 (i-1) hm (by omega)
   omega
  ·exact z
  ·have h1:=b2 i (by omega) z
   have h2:=h (i-1) i hm (by omega) (by omega)
   omega
section
variable {prog:Program}{w:World}{A:Around}{E:Value→Shared→Prop}{s:Shared}
def ywk (w:World)(h:Heap)(a:Addr)(es:Array (Int×Value))(ep:Nat)(t:SetTable):Prop:=(∃o,h.get? a=some o∧o.data = .set es ep t)∧t.fits es.size=true∧ypz t.place
theorem yoy {a:Addr}{es:Array (Int×Value)}{ep i g e':Nat}{t:SetTable}{Q:Option (Value×Nat)→Shared→Prop}(hS:ywk w s.heap a es ep t)(bt:byT w=false)(hl:t.led=true)(hp:(t.plain || decide (es.size≤1))=true)(hi:i≤es.size)
 (h1:∀hlt:i<es.size,Q (some (es[i].2,t.place.getD i 0+1)) s) (h2:i=es.size→Q none s):wpAny (model prog w) A (setNext a (if i=0 then 0 else t.place.getD (i-1) 0+1) g e') Q E s:=by
 obtain ⟨⟨o,ho,hd⟩,hf,hr⟩:=hS
 have hz:t.place.size=es.size:=by
  simp only[SetTable.fits,Bool.and_eq_true,beq_iff_eq] at hf
  exact hf.1
 unfold setNext setsByText
 refine zwb0 (wpAny_setState_of ho hd hf ?_)
 dsimp only
 refine zwb0 (zwb0 (wpAny_askSetting (zwp0 ?_)))
 have bt':¬ (⟨(model prog w).prog,(model prog w).w.params⟩ : Setting).params.followText "set-order" = true:=fun z=>by have:byT w=true:=z;rw[bt] at this;cases this
 rw[if_neg bt']
 split
 ·rename_i c0
  have c:(!t.plain&&decide (es.size > 1))=true:=c0
  simp only[Bool.and_eq_true,Bool.not_eq_true',decide_eq_true_eq] at c
  rw[c.1] at hp
  simp at hp
  omega
 ·refine zwb0 ?_
  show wpAny _ _ (if (!t.led && !es.isEmpty)=true then unsupported "set:maker-not-led" else pure ()) _ _ s
  rw[if_neg (by rw[hl];simp)]
  refine zwp0 ?_
  rw[yp2 hr (by omega)]
  by_cases c:i<es.size
  ·rw[Array.getElem?_eq_getElem c,Array.getElem?_eq_getElem (by omega)]
   have e1:t.place.getD i 0=t.place[i]'(by omega):=by rw[Array.getD_eq_getD_getElem?,Array.getElem?_eq_getElem (by omega)];rfl
   rw[e1] at h1
   exact zwp0 (h1 c)
  ·rw[Array.getElem?_eq_none (by omega)]
   exact zwp0 (h2 (by omega))
theorem yl9 {a:Addr}{es:Array (Int×Value)}{ep i sl:Nat}{t:SetTable}{Q:Option (Value×Nat)→Shared→Prop}(hS:ywk w s.heap a es ep t)(bt:byT w=true)(h:Q (((pickOrder (w.params.setOrder a ep) es)[i]?).map fun e=>(e.2,sl)) s):wpAny (model prog w) A (setNext a sl i ep) Q E s:=by
 obtain ⟨⟨o,ho,hd⟩,hf,hr⟩:=hS
 unfold setNext setsByText
 refine zwb0 (wpAny_setState_of ho hd hf ?_)
 dsimp only
 refine zwb0 (zwb0 (wpAny_askSetting (zwp0 ?_)))
 have bt':(⟨(model prog w).prog,(model prog w).w.params⟩ : Setting).params.followText "set-order" = true:=bt
 rw[if_pos bt',if_neg (by simp)]
 refine zwb0 ?_
 first|refine zwp0 ?_|skip
 unfold setWalk setsByText
 refine zwb0 (wpAny_setState_of ho hd hf ?_)
 dsimp only
 refine zwb0 (zwb0 (wpAny_askSetting (zwp0 ?_)))
 rw[if_pos bt']
 exact zwb0 (wpAny_askSetting (zwp0 (zwp0 h)))
theorem yp3 {a:Addr}{es:Array (Int×Value)}{ep k:Nat}{t:SetTable}{Q:Value→Shared→Prop}(hS:ywk w s.heap a es ep t)(hk:k<es.size)(h:Q es[k].2 s):wpAny (model prog w) A (setNextDrawn a k ep) Q E s:=by
 obtain ⟨⟨o,ho,hd⟩,hf,hr⟩:=hS
 unfold setNextDrawn
 refine zwb0 (wpAny_setState_of ho hd hf ?_)
 dsimp only
 rw[if_neg (by simp),Array.getElem?_eq_getElem hk]
 exact zwp0 h
theorem yud {I a:Addr}{es:Array (Int×Value)}{ep:Nat}{t:SetTable}{vals:List Value}{F:Nat→Heap→Value→Prop}{ex:List Addr}{first:Value}{i:Nat}{Q:Option Value→Shared→Prop}(y:Way w a es ep t vals F ex)(hS:ywk w s.heap a es ep t)(hit:yhk s.heap I first i a es.size ep)(hF:F i s.heap first)(nI:∀b∈ex,b≠I)(naI:a≠I)(hi:i<es.size)
 (hQ:∀h' first' v,vals[i]? = some v→yhk h' I first' (i+1) a es.size ep→F (i+1) h' first'→(∀b o,b≠I→s.heap.get? b=some o→h'.get? b=some o)→Q (some v) { s with heap:=h' }):wpAny (model prog w) A (pyNext (.ref I)) Q E s:=by
 obtain ⟨⟨o,ho,hd⟩,hf,hr⟩:=id hS
 have hT:s.TypeIs (.ref I) "set_iterator" := ⟨_,hit,rfl⟩
 unfold pyNext
 refine zwb0 (wpAny_attempt (wpAny_callSpecial?_slot (name:=Str.ofString "__next__") hT slot_set_iterator_next (wpAny_call_entry slot_set_iterator_next hT yc3 ?_ (yc9 _))))
 unfold Builtin.«set_iterator.__next__»
 refine zwb0 (zwp0 ?_)
 refine zwb0 (wpAny_fieldsOf hit rfl ?_)
 dsimp only
 refine zwb0 (wpAny_setEntries_of ho hd hf ?_)
 rw[if_neg (by simp)]
 have yn8:∀{h1:Heap}{f:Value}{k:Nat} (v:Value) {R:Unit→Shared→Prop}{E':Value→Shared→Prop},yhk h1 I f k a es.size ep→(∀h2,yhk h2 I v k a es.size ep→Heap.SameBut I h1 h2→R () { s with heap:=h2 })→wpAny (model prog w) A.in1 (setField (.ref I) 0 v) R E' { s with heap:=h1 }:=fun {h1 f k} v {R E'} x q=>wpAny_setField_rec x (by simp) fun h2 x2 y2=>q h2 x2 y2
 have set1:∀{h1:Heap}{f:Value}{k:Nat}{R:Unit→Shared→Prop}{E':Value→Shared→Prop},yhk h1 I f k a es.size ep→(∀h2,yhk h2 I f (k+1) a es.size ep→Heap.SameBut I h1 h2→R () { s with heap:=h2 })→wpAny (model prog w) A.in1 (setField (.ref I) 1 (rawInt ((k:Int)+1))) R E' { s with heap:=h1 }:=fun {h1 f k R E'} x q=>wpAny_setField_rec x (by simp) fun h2 x2 y2=>q h2 (by
  unfold yhk
  rw[show ((k+1:Nat):Int)=(k:Int)+1 from by omega]
  simpa [rawInt] using x2) y2
 cases y with
 |led bt hl hp=>
  have hF':first=rawInt (if i=0 then 0 else t.place.getD (i-1) 0+1:Nat):=hF
  subst hF'
  show wpAny _ _ (do let r ← setNext a ((if i=0 then 0 else t.place.getD (i-1) 0+1:Nat):Int).toNat (i:Int).toNat (ep:Int).toNat;_) _ _ s
  rw[Int.toNat_natCast,Int.toNat_natCast,Int.toNat_natCast]
  refine zwb0 (yoy hS bt hl hp (Nat.le_of_lt hi) (fun hlt=>?_) fun z=>absurd z (by omega))
  dsimp only
  refine zwb0 (yn8 _ hit fun h2 x2 y2=>zwb0 (set1 x2 fun h3 x3 y3=>?_))
  refine zwp0 ⟨_,rfl,zwp0 (hQ h3 _ _ ?_ x3 ?_ fun b o hb e=>y3.extBut b o hb (y2.extBut b o hb e))⟩
  ·rw[List.getElem?_map,Array.getElem?_toList,Array.getElem?_eq_getElem hi];rfl
  ·show rawInt _=rawInt _
   rw[if_neg (by omega),Nat.add_sub_cancel]
 |text bt=>
  have hF':first=rawInt 0:=hF
  subst hF'
  show wpAny _ _ (do let r ← setNext a (0:Int).toNat (i:Int).toNat (ep:Int).toNat;_) _ _ s
  rw[Int.toNat_natCast,Int.toNat_natCast]
  refine zwb0 (yl9 hS bt ?_)
  have hz:(pickOrder (w.params.setOrder a ep) es).size=es.size:=by rw[← Array.length_toList,(yid _ es).length_eq,Array.length_toList]
  rw[Array.getElem?_eq_getElem (by omega)]
  dsimp only [Option.map]
  refine zwb0 (yn8 _ hit fun h2 x2 y2=>zwb0 (set1 x2 fun h3 x3 y3=>?_))
  refine zwp0 ⟨_,rfl,zwp0 (hQ h3 _ _ ?_ x3 rfl fun b o hb e=>y3.extBut b o hb (y2.extBut b o hb e))⟩
  rw[List.getElem?_map,Array.getElem?_toList,Array.getElem?_eq_getElem (by omega)];rfl
 |@drawn ps tp hp=>
  obtain ⟨rfl,ot,nt,h1,h2⟩:=hF
  dsimp only
  refine zwb0 ?_
  unfold seqItems?
  refine zwb0 (wpAny_load h1 ?_)
  rw[h2]
  refine zwp0 ?_
  dsimp only
  have hl:ps.length=es.size:=by rw[hp.length_eq,List.length_range]
  rw[Int.toNat_natCast,List.getElem?_toArray,List.getElem?_map,List.getElem?_eq_getElem (by omega)]
  have hk:ps[i]'(by omega)<es.size:=List.mem_range.mp (hp.mem_iff.mp (List.getElem_mem _))
  dsimp only [Option.map,rawInt]
  rw[Int.toNat_natCast,Int.toNat_natCast]
  refine zwb0 (yp3 hS hk ?_)
  refine zwb0 (set1 hit fun h3 x3 y3=>?_)
  refine zwp0 ⟨_,rfl,zwp0 (hQ h3 _ _ ?_ x3 ⟨rfl,ot,nt,y3.extBut _ _ (nI tp (by simp)) h1,h2⟩ fun b o hb e=>y3.extBut b o hb e)⟩
  have all:∀(l:List Nat),(∀k∈l,k<es.size)→l.filterMap (fun k=>(es[k]?).map (·.2))=l.map fun k=>(es.getD k (0,.none)).2:=by
   intro l
   induction l with
   |nil=>intro _;rfl
   |cons x r ih=>
    intro h
    have hx:=h x (.head _)
    rw[List.filterMap_cons,Array.getElem?_eq_getElem hx,Option.map_some]
    show es[x].2::_=_
    rw[ih fun k hk=>h k (.tail _ hk),List.map_cons,Array.getD_eq_getD_getElem?,Array.getElem?_eq_getElem hx]
    rfl
  rw[all ps fun k hk'=>List.mem_range.mp (hp.mem_iff.mp hk'),List.getElem?_map,List.getElem?_eq_getElem (by omega)]
  show some (es.getD (ps[i]'(by omega)) (0,.none)).2=_
  rw[Array.getD_eq_getD_getElem?,Array.getElem?_eq_getElem hk]
  rfl
theorem ywl {I a:Addr}{es:Array (Int×Value)}{ep:Nat}{t:SetTable}{vals:List Value}{F:Nat→Heap→Value→Prop}{ex:List Addr}{first:Value}{Q:Option Value→Shared→Prop}(hh:A.handled=none)(y:Way w a es ep t vals F ex)(hS:ywk w s.heap a es ep t)(hit:yhk s.heap I first es.size a es.size ep)(hF:F es.size s.heap first)
 (hQ:∀h',(∀b o,b≠I→s.heap.get? b=some o→h'.get? b=some o)→Q none { s with heap:=h' }):wpAny (model prog w) A (pyNext (.ref I)) Q E s:=by
 obtain ⟨⟨o,ho,hd⟩,hf,hr⟩:=id hS
 have hT:s.TypeIs (.ref I) "set_iterator" := ⟨_,hit,rfl⟩
 unfold pyNext
 refine zwb0 (wpAny_attempt (wpAny_callSpecial?_slot (name:=Str.ofString "__next__") hT slot_set_iterator_next (wpAny_call_entry slot_set_iterator_next hT yc3 ?_ (yc9 _))))
 unfold Builtin.«set_iterator.__next__»
 refine zwb0 (zwp0 ?_)
 refine zwb0 (wpAny_fieldsOf hit rfl ?_)
 dsimp only
 refine zwb0 (wpAny_setEntries_of ho hd hf ?_)
 rw[if_neg (by simp)]
 have stop:∀(h1:Heap),(∃vs,h1.get? I=some { cls:=.type "set_iterator",data:=.fields vs }∧2<vs.size)→(∀b o,b≠I→s.heap.get? b=some o→h1.get? b=some o)→wpAny (model prog w) A.in1 (do setField (.ref I) 2 .none;let x ← newExc (.type "StopIteration") [];raiseNew x) (fun fin s'=>∃v,fin=Fin.done (Flow.ret v)∧wpAny (model prog w) A (pure (some v)) Q E s')
  (fun e s'=>wpAny (model prog w) A (do let b ← isInstance e (.type "StopIteration");if b=true then pure none else throw e) Q E s') { s with heap:=h1 }:=by
  rintro h1 ⟨vs,e1,e2⟩ k1
  refine zwb0 (wpAny_setField e1 rfl e2 ?_)
  refine zwb0 ?_
  simp only[newExc,newTuple]
  refine zwb0 (wpAny_newObj_type ?_ (by size_fits))
  refine zwb0 (m:=firstArgMember _ _) (wpAny_of_eq (a:=Value.none) (by first|rfl|(simp only[firstArgMember];rfl)) ?_)
  refine wpAny_newObj_type ?_ (by size_fits)
  simp only[raiseNew]
  refine zwb0 (wpAny_handled ?_)
  rw[show A.in1.handled=none from hh]
  refine zwb0 (zwp0 (wpAny_throw ?_))
  refine zwb0 (wpAny_isInstance (b:=true) (T := "StopIteration") ⟨_,Heap.get?_push_size _ rfl,rfl⟩ isSubtype_stop ?_)
  have u:=((Heap.SameBut.update h1 I (Obj.mapFields (·.setIfInBounds 2 Value.none))).extBut.push ({ cls:=.type "tuple",data:=.seq ([]:List Value).toArray }:Obj))
  exact zwp0 (hQ _ fun b o hb e=>Heap.get?_push_of_some _ (u b o hb (k1 b o hb e)))
 cases y with
 |led bt hl hp=>
  have hF':first=rawInt (if es.size=0 then 0 else t.place.getD (es.size-1) 0+1:Nat):=hF
  subst hF'
  show wpAny _ _ (do let r ← setNext a ((if es.size=0 then 0 else t.place.getD (es.size-1) 0+1:Nat):Int).toNat (es.size:Int).toNat (ep:Int).toNat;_) _ _ s
  rw[Int.toNat_natCast,Int.toNat_natCast,Int.toNat_natCast]
  refine zwb0 (yoy hS bt hl hp (Nat.le_refl _) (fun hlt=>absurd hlt (Nat.lt_irrefl _)) fun _=>?_)
  exact stop s.heap ⟨_,hit,by simp⟩ fun b o _ e=>e
 |text bt=>
  have hF':first=rawInt 0:=hF
  subst hF'
  show wpAny _ _ (do let r ← setNext a (0:Int).toNat (es.size:Int).toNat (ep:Int).toNat;_) _ _ s
  rw[Int.toNat_natCast,Int.toNat_natCast]
  refine zwb0 (yl9 hS bt ?_)
  have hz:(pickOrder (w.params.setOrder a ep) es).size=es.size:=by rw[← Array.length_toList,(yid _ es).length_eq,Array.length_toList]
  rw[Array.getElem?_eq_none (by omega)]
  exact stop s.heap ⟨_,hit,by simp⟩ fun b o _ e=>e
 |@drawn ps tp hp=>
  obtain ⟨rfl,ot,nt,h1,h2⟩:=hF
  dsimp only
  refine zwb0 ?_
  unfold seqItems?
  refine zwb0 (wpAny_load h1 ?_)
  rw[h2]
  refine zwp0 ?_
  dsimp only
  have hl:ps.length=es.size:=by rw[hp.length_eq,List.length_range]
  rw[Int.toNat_natCast,List.getElem?_toArray,List.getElem?_map,List.getElem?_eq_none (by omega)]
  dsimp only [Option.map]
  refine zwb0 (wpAny_setField_rec hit (by simp) fun h3 x3 y3=>?_)
  exact stop h3 ⟨_,x3,by simp⟩ fun b o hb e=>y3.extBut b o hb e
end
end L2
namespace L2
open PySem PySem.Spec PySem.W PyProof.Rows
variable {X:Cx}
def zak (K:PySem.W.Frag):List V→Hp→VK→Prop:=fun xs H Q=>∃(p:Addr) (ns:List Int),xs=[.ref p]∧SqL K H p (ns.map V.int)∧0<ns.length∧∀M,M∈ns→(∀a∈ns,M≤a)→Q (.int M) H
theorem yr9 (hc:X.calm=true):yft X (.builtin "min") (zak X.K):=by
 intro pins s σ H xs us Q I r h
 obtain ⟨p,ns,rfl,hq,hne,q⟩:=h
 obtain ⟨u,rfl,ru⟩:=r.one
 cases ru
 obtain ⟨its,rv,pl,hz⟩:=I.list hq
 have ia:=yf1 rv
 obtain ⟨ys,ey⟩:=ia.allInts.items
 have hl:=pl.isList
 have e2:ns=ys.toList.map (·.1):=by rw[← ia.numsOf,← nums_intItems,← ey]
 have hsz:0<ys.size:=by rw[e2,List.length_map,Array.length_toList] at hne;exact hne
 rw[ey] at hl
 refine min_intList (I.ok.hd hc) hl hsz fun v h' tk hv hk=>?_
 obtain ⟨t,rfl⟩:=intItems_at hv
 obtain ⟨h1,h2⟩:=argBest_lt (numAt ys) (ys.size-1)
 refine⟨.int _,H,I.kept (t':=tk) hk,⟨t,rfl⟩,q _ ?_ fun a ha=>?_⟩
 ·rw[e2,numAt_eq];exact getD_mem (by rw[List.length_map,Array.length_toList];omega)
 ·rw[e2] at ha
  obtain ⟨j,hj,rfl⟩:=mem_getD ha
  rw[List.length_map,Array.length_toList] at hj
  rw[← numAt_eq];exact h2 j (by omega)
theorem sub_set_self:isSubtype (.type "set") (.type "set")=pure true:=by rw[isSubtype_type];kernel_rfl
theorem yda:Slot "set_iterator" "__iter__" "set_iterator.__iter__" :=
 .of (owner := "set_iterator") (n := "__iter__") (by rw[typeLookup_type,builtinLookup_eq_fast];kernel_rfl) (by decide +kernel) (by decide +kernel) (by decide +kernel) (by first|exact .inl (by decide +kernel)|exact .inr (by decide +kernel)) (by rw[isSubtype_type];kernel_rfl)
theorem ye5:entryFor table "set_iterator.__iter__" = some Builtin.«dict_keyiterator.__iter__»:=entryFor_alias (by kernel_rfl) rfl (id' := "dict_keyiterator.__iter__") (by decide +kernel) (by kernel_rfl)
theorem yfb (a:Value):argsOk "set_iterator.__iter__" ⟨[a],[]⟩:=by unfold argsOk;kernel_rfl
def ywm:Value→Int
 |.int k _=>k
 |_=>0
theorem yoz:∀{l:List Value},(∀v∈l,∃k t,v = .int k t)→IntsAre l (l.map ywm)
 |[],_=>.nil
 |v::r,h=>by
  obtain ⟨k,t,rfl⟩:=h v (.head _)
  exact .cons k t (yoz fun u hu=>h u (.tail _ hu))
section
variable {prog:Program}{w:World}{A:Around}{E:Value→Shared→Prop}{s:Shared}
theorem Way.stay {a:Addr}{es:Array (Int×Value)}{ep:Nat}{t:SetTable}{vals:List Value}{F:Nat→Heap→Value→Prop}{ex:List Addr}(y:Way w a es ep t vals F ex){i:Nat}{h h':Heap}{f:Value}(hF:F i h f)(k:∀b∈ex,∀o,h.get? b=some o→h'.get? b=some o):F i h' f:=by
 cases y with
 |led=>exact hF
 |text=>exact hF
 |drawn hp=>
  obtain ⟨e,o,n,h1,h2⟩:=hF
  exact⟨e,o,n,k _ (by simp) o h1,h2⟩
theorem yue (hh:A.handled=none){I a:Addr}{es:Array (Int×Value)}{ep:Nat}{t:SetTable}{vals:List Value}{F:Nat→Heap→Value→Prop}{ex:List Addr}(y:Way w a es ep t vals F ex)(nI:∀b∈ex,b≠I)(naI:a≠I) :
 WalksS prog w A I (I::a::ex) [I] Eq es.size (fun i v=>vals[i]? = some v) (fun i s=>ywk w s.heap a es ep t∧∃first,yhk s.heap I first i a es.size ep∧F i s.heap first) where
 sub:=fun b hb=>by rw[List.mem_singleton.mp hb];exact .head _
 grefl:=fun _=>rfl
 gtrans:=fun _ _ _ h1 h2=>h1.trans h2
 frame:=fun i s h' tk ⟨⟨⟨o,ho,hd⟩,r⟩,first,hi,hF⟩ _ k=>⟨⟨⟨o,k a (.tail _ (.head _)) o ho,hd⟩,r⟩,first,k I (.head _) _ hi,y.stay hF fun b hb o e=>k b (.tail _ (.tail _ hb)) o e⟩
 item:=fun i s Q E hi ⟨hS,first,hit,hF⟩ hQ=>yud y hS hit hF nI naI hi fun h' f' v hv x1 x2 k=>by
  obtain ⟨⟨o,ho,hd⟩,r⟩:=hS
  exact hQ v _ hv ⟨⟨⟨o,k a o naI ho,hd⟩,r⟩,f',x1,x2⟩ ⟨fun b o hb e=>k b o (fun z=>hb (by rw[z];exact .head _)) e,rfl,rfl,rfl,Nat.le_refl _⟩
 done:=fun s Q E ⟨hS,first,hit,hF⟩ hQ=>ywl hh y hS hit hF fun h' k=>hQ _ ⟨fun b o hb e=>k b o (fun z=>hb (by rw[z];exact .head _)) e,rfl,rfl,rfl,Nat.le_refl _⟩
 self:=fun i s Q E ⟨_,first,hit,_⟩ h=>by
  have hT:s.TypeIs (.ref I) "set_iterator" := ⟨_,hit,rfl⟩
  refine wpAny_pyIter_slot hT yda (wpAny_call_entry yda hT ye5 ?_ (yfb _))
  show wpAny _ _ (ret (.ref I)) _ _ s
  exact zwp0 ⟨_,rfl,"set_iterator",_,hT,slot_set_iterator_next.lookup,h⟩
theorem ynq {a:Addr}{ns:List Int}{Q:List Value→Shared→Prop}(hh:A.handled=none)(S:SetI w a ns s.heap)
 (hQ:∀vals ms h' d tk,IntsAre vals ms→ms.Perm ns→(∀b o,s.heap.get? b=some o→h'.get? b=some o)→s.toks≤tk→Q vals { s with heap:=h',drawn:=d,toks:=tk }):wpAny (model prog w) A (collect (.ref a)) Q E s:=by
 obtain ⟨o,es,ep,t,ho,hex,hd,hel,hpm,hb,hf,hled,hrise⟩:=id S
 have hSa:s.heap.objs.size≠a:=Nat.ne_of_gt (Heap.lt_size ho)
 have hT:s.TypeIs (.ref a) "set" := ⟨o,ho,hex.1⟩
 unfold collect
 refine zwb0 (wpAny_runValue (codeAny_builtin PySem.F.entry_proto_collect ?_))
 rw[Around.under_plainId PySem.F.plain_proto_collect _]
 show wpAny _ A.in1 (newList [] >>= fun l=>again (.builtin "list.__iadd__" ⟨[l,.ref a],[]⟩)) _ _ s
 refine zwb0 (wpAny_newObj_type ?_)
 refine zwp0 ⟨plainId_quiet PySem.F.plain_list_iadd _,codeAny_builtin PySem.F.entry_list_iadd ?_⟩
 rw[Around.under_plainId PySem.F.plain_list_iadd _]
 have hS1:(s.heap.push { cls:=.type "list",data:=.seq ([]:List Value).toArray }).get? s.heap.objs.size=some { cls:=.type "list",data:=.seq ([]:List Value).toArray }:=Heap.get?_push_size _ rfl
 have k1:∀b o,s.heap.get? b=some o→(s.heap.push { cls:=.type "list",data:=.seq ([]:List Value).toArray }).get? b=some o:=fun b o e=>Heap.get?_push_of_some _ e
 have z1:(s.heap.push { cls:=.type "list",data:=.seq ([]:List Value).toArray }).objs.size=s.heap.objs.size+1:=Heap.size_push ..
 show wpAny _ A.in1 (Builtin.List.listExtendWith (.ref s.heap.objs.size) (.ref a) (.ref s.heap.objs.size)) _ _ _
 generalize s.heap.push { cls:=.type "list",data:=.seq ([]:List Value).toArray } = h1 at *
 generalize hL:s.heap.objs.size=L at *
 have ho1:=k1 _ _ ho
 unfold Builtin.List.listExtendWith
 refine zwb0 (wpAny_typeOf (s:={ s with heap:=h1 }) ⟨o,ho1,hex.1⟩ ?_)
 rw[if_neg (by simp [Builtin.List.listSameRef,hSa])]
 refine zwb0 (yuc (s:={ s with heap:=h1 }) ho1 hex hd hf hled hb fun I h2 d vals F ex first y hF hit k2 lI lex lt=>?_)
 refine zwb0 (wpAny_holding ?_)
 have ho2:=k2 _ _ ho1
 have hS2:=k2 _ _ hS1
 have hT2:Shared.TypeIs { s with heap:=h2,drawn:=d } (.ref a) "set" := ⟨o,ho2,hex.1⟩
 unfold Builtin.List.listLengthHint
 refine zwb0 (wpAny_specialOf hT2 PySem.F.slot_set_len.lookup ?_)
 have hsp:splitId "set.__len__" = some ("set","__len__"):=by decide +kernel
 dsimp only
 rw[hsp]
 dsimp only
 refine zwb0 (wpAny_isInstance (b:=true) hT2 sub_set_self ?_)
 rw[if_neg (by decide),if_pos (by kernel_rfl)]
 refine zwb0 (wpAny_typeOf hT2 ?_)
 refine zwp0 ?_
 rw[if_pos (by kernel_rfl)]
 refine zwb0 (wpAny_rule ?_)
 unfold Builtin.List.listTouch
 refine zwb0 (zwb0 (listUpdate_at (s:={ s with heap:=h2,drawn:=d }) hS2 rfl ?_ (by show 0≤sizeLine;decide) (by show 1≤sizeLine+1;decide)))
 have hS3:(h2.update L (Obj.mapSeq fun x=>x.push Value.none)).get? L=some { cls:=.type "list",data:=.seq (#[].push Value.none) 1 }:=Heap.get?_update_self _ hS2 rfl
 refine listUpdate_at (s:={ s with heap:=h2.update L (Obj.mapSeq fun x=>x.push Value.none),drawn:=d }) hS3 rfl ?_ (by show 1≤sizeLine;decide) (by show 0≤sizeLine+1;decide)
 have hS4:((h2.update L (Obj.mapSeq fun x=>x.push Value.none)).update L (Obj.mapSeq fun x=>x.pop)).get? L=some { cls:=.type "list",data:=.seq #[] 2 }:=Heap.get?_update_self _ hS3 rfl
 have k4:∀b o,b≠L→h2.get? b=some o→((h2.update L (Obj.mapSeq fun x=>x.push Value.none)).update L (Obj.mapSeq fun x=>x.pop)).get? b=some o:=fun b o hb e=>(Heap.get?_update_other _ _ (Ne.symm hb)).trans ((Heap.get?_update_other _ _ (Ne.symm hb)).trans e)
 show wpAny _ _ _ _ _ { s with heap:=(h2.update L (Obj.mapSeq fun x=>x.push Value.none)).update L (Obj.mapSeq fun x=>x.pop),drawn:=d }
 generalize (h2.update L (Obj.mapSeq fun x=>x.push Value.none)).update L (Obj.mapSeq fun x=>x.pop)=h4 at hS4 k4 ⊢
 have lI':L+1≤I:=by rw[← z1];exact lI
 have lex':∀b∈ex,L+1≤b∧b<I:=fun b hb=>⟨by rw[← z1];exact(lex b hb).1,(lex b hb).2⟩
 have naL:a<L:=by rw[← hL];exact Heap.lt_size ho
 have naI:a≠I:=Nat.ne_of_lt (Nat.lt_trans naL lI')
 have nI:∀b∈ex,b≠I:=fun b hb=>Nat.ne_of_lt (lex' b hb).2
 have nLI:I≠L:=Nat.ne_of_gt lI'
 have nLx:∀b∈ex,b≠L:=fun b hb=>Nat.ne_of_gt (lex' b hb).1
 have hLf:L ∉ I::a::ex:=fun m=>by
  rcases List.mem_cons.mp m with z|m
  ·exact nLI z.symm
  ·rcases List.mem_cons.mp m with z|m
   ·exact hSa z
   ·exact nLx L m rfl
 have Wk:WalksS prog w A.in1 I (I::a::ex) [I] Eq es.size (fun i v=>vals[i]? = some v) (fun i s=>ywk w s.heap a es ep t∧∃first,yhk s.heap I first i a es.size ep∧F i s.heap first):=yue (A:=A.in1) hh y nI naI
 refine zwp0 ⟨plainId_quiet PySem.F.plain_extend_loop _,codeAny_extend_loopS Wk (fits_of_scanBound hb) L hLf _ es.size 0 { s with heap:=h4,drawn:=d } #[] 2 rfl (Nat.zero_le _) ⟨⟨⟨o,k4 _ _ (Ne.symm hSa) ho2,hd⟩,hf,hrise⟩,first,k4 _ _ nLI hit,y.stay hF fun b hb o e=>k4 _ _ (nLx b hb) e⟩ hS4 (ItemsOf.nil _) fun s' acc' c' hm hS' hacc=>?_⟩
 show wpAny _ A (load L >>= _) _ _ s'
 refine zwb0 (wpAny_load hS' (zwp0 ?_))
 have hp:=y.perm
 have hlen:vals.length=es.size:=by rw[hp.length_eq,List.length_map,Array.length_toList]
 have eacc:acc'.toList=vals:=by
  refine List.ext_getElem? fun j=>?_
  by_cases hj:j<acc'.size
  ·rw[Array.getElem?_toList,Array.getElem?_eq_getElem hj]
   exact(hacc.2 j _ (Array.getElem?_eq_getElem hj)).symm
  ·rw[List.getElem?_eq_none (by rw[Array.length_toList];omega),List.getElem?_eq_none (by rw[hlen,← hacc.1];omega)]
 rw[eacc]
 obtain ⟨sh,sg,sd,st,so⟩:=s'
 have m2:s.gens=sg:=hm.gens
 have m4:so=s.os:=hm.os
 subst m2 m4
 refine hQ vals (vals.map ywm) sh sd st (yoz fun v hv=>?_) ?_ (fun b o e=>?_) hm.toks
 ·obtain ⟨e,he,rfl⟩:=List.mem_map.mp (hp.mem_iff.mp hv)
  obtain ⟨k,t,rfl⟩:=hel e he
  exact⟨k,t,rfl⟩
 ·refine(hp.map ywm).trans ?_
  rw[List.map_map]
  exact hpm
 ·have lt:b<L:=by rw[← hL];exact Heap.lt_size e
  refine hm.heap b o (fun z=>?_) (k4 _ _ (Nat.ne_of_lt lt) (k2 _ _ (k1 _ _ e)))
  rcases List.mem_cons.mp z with z|z
  ·exact Nat.ne_of_lt lt z
  ·exact Nat.ne_of_lt (Nat.lt_trans lt lI') (List.mem_singleton.mp z)
end
section
variable {X:Cx}
theorem Inv.drawn {pins:List (Addr×Obj)}{σ:St}{H:Hp}{s:Shared}(I:Inv X pins σ H s)(d:Drawn):Inv X pins σ H { s with drawn:=d }:=
 I.step (g':=s.gens) (d':=d) (t':=s.toks) (h':=s.heap) (ch:=[]) (fun _ z=>nomatch z) (fun b o _ _ _ e _=>e) (fun b o _ _ _ e _=>⟨o.slots,e⟩) (fun _ _ _ _ n=>n) (fun b o _ e=>⟨o,e⟩) (fun _ _ e=>e) (fun _ _ _ e=>e) (fun b ps e=>⟨#[],by rw[e];simp⟩) (fun m hm=>hm) I.hok I.bare
def yyc (w:World):List V→Hp→VK→Prop:=fun xs H Q=>∃(p:Addr) (ns:List Int),xs=[.ref p]∧H p=some (HS w p ns)∧ns.length<64∧∀(l:Addr) (ms:List Int),H l=none→ms.Perm ns→ms.Pairwise (·≤·)→Q (.ref l) (upd H l (.lst (ms.map V.int)))
theorem yg0 (hc:X.calm=true):yft X (.builtin "sorted") (yyc X.w):=by
 intro pins s σ H xs us Q I r h
 obtain ⟨p,ns,rfl,hq,h64,q⟩:=h
 obtain ⟨u,rfl,ru⟩:=r.one
 cases ru
 refine Calls.call_function_entry kind_sorted plain_sorted entry_sorted (args_sorted1 _) ?_
 unfold Builtin.«sorted»
 refine zwb0 (m:=checkCount "sorted" 1 1 _) (zwp0 ?_)
 refine zwb0 (ynq (w:=X.w) (show X.A.in1.handled=none from I.ok.hd hc) (yya I hq) fun vals ms h1 d tk ia pm k1 htk=>?_)
 have I1:Inv X pins σ H { s with heap:=h1,drawn:=d,toks:=tk }:=(I.kept (h':=h1) (t':=tk) k1).drawn d
 have lv:vals.length<64:=by rw[IntsAre.length ia,pm.length_eq];exact h64
 revert I1
 generalize ({ s with heap:=h1,drawn:=d,toks:=tk }:Shared)=s1
 intro I1
 refine zwb0 (wpAny_newList ?_ (by rw[sizeLine_eq];omega))
 have hoL:(s1.heap.push (seqObj "list" vals.toArray 0)).get? s1.heap.objs.size=some (seqObj "list" vals.toArray 0):=Heap.get?_push_size _ rfl
 show wpAny _ _ _ _ _ { s1 with heap:=s1.heap.push (seqObj "list" vals.toArray 0) }
 refine zwb0 (wpAny_holding (wpAny_call_entry slot_list_sort ⟨_,hoL,rfl⟩ entry_list_sort (list_sort_tree (s:={ s1 with heap:=s1.heap.push (seqObj "list" vals.toArray 0) }) hoL ia lv fun out ms' i1 i2 i3=>⟨_,rfl,?_⟩) (args_list_sort _)))
 refine zwp0 ⟨_,rfl,?_⟩
 obtain ⟨e,he⟩:=sortedHeap_at (out:=out) hoL
 refine⟨.ref s1.heap.objs.size,_,I1.laid (t':=s1.toks) (a:=s1.heap.objs.size) (o:=.lst (ms'.map V.int)) (fun b o e=>?_) (Nat.le_refl _) ⟨?_,out.toList,e,yrw i1,?_⟩,rfl,q _ ms' (I1.hok.fresh (Nat.le_refl _)) (i2.trans pm) i3⟩
 ·have lt:=Heap.lt_size e
  show (sortedHeap _ _ _ _).get? b=some o
  rw[sortedHeap_old (Nat.ne_of_lt lt) (by rw[size_push'];exact Nat.lt_succ_of_lt lt)]
  exact Heap.get?_push_of_some _ e
 ·rw[List.length_map,i2.length_eq,pm.length_eq,sizeLine_eq];omega
 ·rw[he]
end
theorem ysa {o:Obj}{kvs:List (List Key×V)}{a:Addr}{g:TG}{tb:TS}{D:Ends}{σ:St}{H:Hp}(Pv:Nat→St→Hp→Prop)(h0:Pv 0 σ H)(hl:∀i σ H,Pv i σ H→H a=some (.frz o (.dT kvs)))
 (hs:∀i k x σ H p b,kvs[i]? = some (k,x)→Pv i σ H→H p=none→H b=some (.tup (k.map kV))→g (.ref p) σ (upd H p (.tup [.ref b,x])) fun σ2 H2=>tb { D with nx:=Pv (i+1),ct:=Pv (i+1),bk:=D.nx } σ2 H2) (hd:∀σ H,Pv kvs.length σ H→D.nx σ H) :
 ∃W:Nat→Nat→St→Hp→Prop,(∃m,W 0 m σ H)∧∀i m σ H,W i m σ H→
  ((Itd o kvs a).stop i H∧D.nx σ H)∨((Itd o kvs a).go i H∧∃N:St→Hp→Prop,(∀σ' H',N σ' H'→∃m',m' < m∧W (i+1) m' σ' H')∧∀x H',(Itd o kvs a).yld i H x H'→g x σ H' fun σ2 H2=>tb { D with nx:=N,ct:=N,bk:=D.nx } σ2 H2):=by
 refine⟨fun i m σ H=>m=kvs.length-i∧i≤kvs.length∧Pv i σ H,⟨kvs.length,by simp,Nat.zero_le _,h0⟩,?_⟩
 rintro i m σ H ⟨rfl,hi,p⟩
 have q:=hl i σ H p
 by_cases hlt:i<kvs.length
 ·refine .inr ⟨⟨q,hlt⟩,Pv (i+1),fun σ' H' p'=>⟨kvs.length-(i+1),by omega,rfl,hlt,p'⟩,?_⟩
  rintro x H' ⟨pp,b,k,v,rfl,hp,rfl,e,hb⟩
  exact hs i k v σ H pp b e p hp hb
 ·have e:i=kvs.length:=by omega
  subst e
  exact .inl ⟨⟨q,Nat.le_refl _⟩,hd σ H p⟩
section
variable {o:Obj}{kvs:List (List Key×V)}{a D:Addr}{g:TG}{ti:TT}{te tk tv:TE}{σ₀:St}{H1:Hp}{R:Hp→Prop}
theorem yp4 (P:Nat→List V→Hp→Prop)(hD:H1 D=none)(hx:H1 a=some (.frz o (.dT kvs)))(hn:kvs.length≤1000)
 (st:∀i zs H H',P i zs H→(∀b o,b≠D→H b=some o→H' b=some o)→P i zs H') (h0:P 0 [] H1)
 (step:∀i k v zs H p b,kvs[i]? = some (k,v)→Same H1 H→P i zs H→H p=none→H b=some (.tup (k.map kV))→∀(K1:V→Hp→Prop) (K2:Hp→Prop),(∀y H4,Same (upd H p (.tup [.ref b,v])) H4→P (i+1) (zs++[y]) H4→K1 y H4)→(∀H3,Same (upd H p (.tup [.ref b,v])) H3→P (i+1) zs H3→K2 H3)→
  g (.ref p) σ₀ (upd H p (.tup [.ref b,v])) fun σ2 H2=>(∀(k:Nat) v,σ₀[k]? = some (some v)→σ2[k]? = some (some v))∧ti σ2 H2 fun b H3=>if b=true then te σ2 H3 K1 else K2 H3)
 (fin:∀zs H,Same H1 H→P kvs.length zs H→zs.length≤kvs.length→H D=some (.lst zs)→R H) :
 ∃W:Nat→Nat→Hp→Prop,(∃m,W 0 m (upd H1 D (.lst [])))∧∀i m H,W i m H→((Itd o kvs a).stop i H∧R H)∨((Itd o kvs a).go i H∧∀x H',(Itd o kvs a).yld i H x H'→g x σ₀ H' fun σ2 H2=>(∀(k:Nat) v,σ₀[k]? = some (some v)→σ2[k]? = some (some v))∧ti σ2 H2 fun b H3=>
  if b=true then te σ2 H3 fun y H4=>∃zs,H4 D=some (.lst zs)∧zs.length<sizeLine∧∃m',m' < m∧W (i+1) m' (upd H4 D (.lst (zs++[y]))) else ∃m',m' < m∧W (i+1) m' H3):=by
 refine⟨fun i m H=>i+m=kvs.length∧Same H1 H∧∃zs,H D=some (.lst zs)∧zs.length≤i∧P i zs H,⟨kvs.length,by omega,yac hD _,[],yaa,Nat.le_refl _,st _ _ _ _ h0 fun b o hb e=>by rw[yal hb];exact e⟩,?_⟩
 rintro i m H ⟨him,s1,zs,hz,hl,hp⟩
 have ex:=s1 _ _ hx
 by_cases hi:i<kvs.length
 ·refine .inr ⟨⟨ex,hi⟩,?_⟩
  rintro x H' ⟨p,b,k,v,rfl,hpn,rfl,e,hb⟩
  have sN:=yac hpn (.tup [.ref b,v])
  exact step i k v zs H p b e s1 hp hpn hb _ _ (fun y H4 s4 p4=>⟨zs,s4 _ _ (sN _ _ hz),yaq (by omega),m-1,by omega,by omega,((s1.trans sN).trans s4).young hD,zs++[y],yaa,by rw[List.length_append,List.length_singleton];omega,st _ _ _ _ p4 fun b o hb e=>by rw[yal hb];exact e⟩) fun H3 s3 p3=>⟨m-1,by omega,by omega,(s1.trans sN).trans s3,zs,s3 _ _ (sN _ _ hz),by omega,p3⟩
 ·have e:i=kvs.length:=by omega
  subst e
  exact .inl ⟨⟨ex,Nat.le_refl _⟩,fin zs H s1 hp hl hz⟩
theorem yuf {K:PySem.W.Frag}{xs:List V}(P:Nat→List (List Key×V)→Hp→Prop)(hD:H1 D=none)(hx:H1 a=some (.lst xs))(hn:xs.length≤1000)
 (st:∀i zs H H',P i zs H→(∀b o,b≠D→H b=some o→H' b=some o)→P i zs H') (h0:P 0 [] H1)
 (step:∀i x zs H,xs[i]? = some x→Same H1 H→P i zs H→∀(K1:V→Hp→V→Hp→Prop) (K2:Hp→Prop),(∀y H4 z H5,Same H H5→(∃k bb,y = .ref bb∧H5 bb=some (.tup (k.map kV))∧P (i+1) (yib zs k z) H5)→K1 y H4 z H5)→(∀H3,Same H H3→P (i+1) zs H3→K2 H3)→
  g x σ₀ H fun σ2 H2=>(∀(k:Nat) v,σ₀[k]? = some (some v)→σ2[k]? = some (some v))∧ti σ2 H2 fun b H3=>if b=true then tk σ2 H3 fun y H4=>tv σ2 H4 fun z H5=>K1 y H4 z H5 else K2 H3)
 (fin:∀zs H,Same H1 H→P xs.length zs H→H D=some (.dT zs)→R H) :
 ∃W:Nat→Nat→Hp→Prop,(∃m,W 0 m (upd H1 D (.dT [])))∧∀i m H,W i m H→((Itl K a).stop i H∧R H)∨((Itl K a).go i H∧∀x H',(Itl K a).yld i H x H'→g x σ₀ H' fun σ2 H2=>(∀(k:Nat) v,σ₀[k]? = some (some v)→σ2[k]? = some (some v))∧ti σ2 H2 fun b H3=>
  if b=true then tk σ2 H3 fun y H4=>tv σ2 H4 fun z H5=>∃kvs k bb,H5 D=some (.dT kvs)∧y = .ref bb∧H5 bb=some (.tup (k.map kV))∧kvs.length<sizeLine∧∃m',m' < m∧W (i+1) m' (upd H5 D (.dT (yib kvs k z))) else ∃m',m' < m∧W (i+1) m' H3):=by
 refine⟨fun i m H=>i+m=xs.length∧Same H1 H∧∃zs,H D=some (.dT zs)∧zs.length≤i∧P i zs H,⟨xs.length,by omega,yac hD _,[],yaa,Nat.le_refl _,st _ _ _ _ h0 fun b o hb e=>by rw[yal hb];exact e⟩,?_⟩
 rintro i m H ⟨him,s1,zs,hz,hl,hp⟩
 have ex:=s1 _ _ hx
 by_cases hi:i<xs.length
 ·refine .inr ⟨⟨xs,_,SqL.of ex,List.getElem?_eq_getElem hi⟩,?_⟩
  rintro x H' ⟨rfl,hy⟩
  refine step i x zs H' (hy _ (SqL.of ex)) s1 hp (fun y _ z H5=>∃kvs k bb,H5 D=some (.dT kvs)∧y = .ref bb∧H5 bb=some (.tup (k.map kV))∧kvs.length<sizeLine∧∃m',m' < m∧(i+1+m' = xs.length∧Same H1 (upd H5 D (.dT (yib kvs k z)))∧∃zs,upd H5 D (.dT (yib kvs k z)) D=some (.dT zs)∧zs.length≤i+1∧P (i+1) zs (upd H5 D (.dT (yib kvs k z))))) _ (fun y H4 z H5 s5 ⟨k,bb,ey,hb,p5⟩=>?_) fun H3 s3 p3=>⟨m-1,by omega,by omega,s1.trans s3,zs,s3 _ _ hz,by omega,p3⟩
  have lp:=ye4 zs k z
  exact⟨zs,k,bb,s5 _ _ hz,ey,hb,yaq (by omega),m-1,by omega,by omega,(s1.trans s5).young hD,_,yaa,by omega,st _ _ _ _ p5 fun b o hb e=>by rw[yal hb];exact e⟩
 ·have e:i=xs.length:=by omega
  subst e
  exact .inl ⟨⟨xs,SqL.of ex,Nat.le_refl _⟩,fin zs H s1 hp hz⟩
theorem yo0 {K:PySem.W.Frag}{w:World}{xs:List V}(P:Nat→List Int→Prop)(hD:H1 D=none)(hx:H1 a=some (.lst xs))(hn:xs.length≤1000)(h0:P 0 [])
 (step:∀i x ns H,xs[i]? = some x→Same H1 H→P i ns→∀(K1:V→Hp→Prop) (K2:Hp→Prop),(∀y z H4,y = .int z→Same H H4→P (i+1) (if z∈ns then ns else ns++[z])→K1 y H4)→(∀H3,Same H H3→P (i+1) ns→K2 H3)→
  g x σ₀ H fun σ2 H2=>(∀(k:Nat) v,σ₀[k]? = some (some v)→σ2[k]? = some (some v))∧ti σ2 H2 fun b H3=>if b=true then te σ2 H3 K1 else K2 H3)
 (fin:∀ns H,Same H1 H→P xs.length ns→ns.length≤xs.length→H D=some (HS w D ns)→R H) :
 ∃W:Nat→Nat→Hp→Prop,(∃m,W 0 m (upd H1 D (HS w D [])))∧∀i m H,W i m H→((Itl K a).stop i H∧R H)∨((Itl K a).go i H∧∀x H',(Itl K a).yld i H x H'→g x σ₀ H' fun σ2 H2=>(∀(k:Nat) v,σ₀[k]? = some (some v)→σ2[k]? = some (some v))∧ti σ2 H2 fun b H3=>
  if b=true then te σ2 H3 fun y H4=>∃ns x,H4 D=some (HS w D ns)∧y = .int x∧ns.length+1<scanBound∧∃m',m' < m∧W (i+1) m' (upd H4 D (HS w D (if x∈ns then ns else ns++[x]))) else ∃m',m' < m∧W (i+1) m' H3):=by
 refine⟨fun i m H=>i+m=xs.length∧Same H1 H∧∃ns,H D=some (HS w D ns)∧ns.length≤i∧P i ns,⟨xs.length,by omega,yac hD _,[],yaa,Nat.le_refl _,h0⟩,?_⟩
 rintro i m H ⟨him,s1,ns,hz,hl,hp⟩
 have ex:=s1 _ _ hx
 by_cases hi:i<xs.length
 ·refine .inr ⟨⟨xs,_,SqL.of ex,List.getElem?_eq_getElem hi⟩,?_⟩
  rintro x H' ⟨rfl,hy⟩
  refine step i x ns H' (hy _ (SqL.of ex)) s1 hp _ _ (fun y z H4 ey s4 p4=>⟨ns,z,s4 _ _ hz,ey,by have:scanBound=4096:=rfl;omega,m-1,by omega,by omega,(s1.trans s4).young hD,_,yaa,?_,p4⟩) fun H3 s3 p3=>⟨m-1,by omega,by omega,s1.trans s3,ns,s3 _ _ hz,by omega,p3⟩
  split
  ·omega
  ·rw[List.length_append,List.length_singleton];omega
 ·have e:i=xs.length:=by omega
  subst e
  exact .inl ⟨⟨xs,SqL.of ex,Nat.le_refl _⟩,fin ns H s1 hp hl hz⟩
end
def ygh (f l:Int):List Key:=[.inl f,.inl l]
def slk (ks:List (Int×Int))(v:Int→Int→Int):List (List Key×V):=ks.map fun p=>(ygh p.1 p.2,.int (v p.1 p.2))
def SlAt (H:Hp)(d:Addr)(ks:List (Int×Int))(v:Int→Int→Int):Prop:=∃o,H d=some (.frz o (.dT (slk ks v)))
theorem SlAt.same {H H':Hp}{d:Addr}{ks:List (Int×Int)}{v:Int→Int→Int}(h:SlAt H d ks v)(s:Same H H'):SlAt H' d ks v:=by
 obtain ⟨o,e⟩:=h
 exact⟨o,s _ _ e⟩
def yb5 (rs:List (List Int))(ds:List Int):Prop:=ds.Pairwise (· < ·)∧(∀d,d∈ds↔∃r∈rs,r.getD 0 0=d)∧ds.length≤rs.length
def yau (ds:List Int):List (Int×Int):=ds.flatMap fun f=>(ds.filter fun l=>decide (f≤l)).map fun l=>(f,l)
def yhp:Sp:=fun vs H Q _=>∃(a:Addr) (rs:List (List Int)),vs=[.ref a]∧Rows H a rs∧(∀r∈rs,r.length=3)∧rs.length≤60∧∀l ds H',H l=none→yb5 rs ds→Same H H'→ybd H' l ds→Q (.ref l) H'
def ye6:Sp:=fun vs H Q _=>∃(a:Addr) (rs:List (List Int)),vs=[.ref a]∧Rows H a rs∧(∀r∈rs,r.length=3)∧rs.length≤31∧∀l ds H',H l=none→yb5 rs ds→Same H H'→Rows H' l ((yau ds).map fun p=>[p.1,p.2])→Q (.ref l) H'
def yd3:Sp:=fun vs H Q _=>∃(a b:Addr) (tm:Int) (rs os:List (List Int)),vs=[.ref a,.ref b,.int tm]∧Rows H a rs∧(∀r∈rs,r.length=3)∧rs.length≤31∧Rows H b os∧(∀r∈os,r.length=2)∧os.length≤100∧∀d ds H',H d=none→yb5 rs ds→Same H H'→SlAt H' d (yau ds) (yan os tm)→Q (.ref d) H'
def yce (v:Int→Int→Int)(day u:Int):Int→Int→Int:=fun f l=>if f≤day∧day≤l then v f l-u else v f l
def yg1:Sp:=fun vs H Q _=>∃(d:Addr) (day u:Int) (ks:List (Int×Int)) (v:Int→Int→Int),vs=[.ref d,.int day,.int u]∧SlAt H d ks v∧ks.Nodup∧ks.length≤1000∧∀d' H',H d'=none→Same H H'→SlAt H' d' ks (yce v day u)→Q (.ref d') H'
def FreeIs (ks:List (Int×Int))(v:Int→Int→Int)(day left M:Int):Prop:=M≤left∧(∀p∈ks,p.1≤day→day≤p.2→M≤v p.1 p.2)∧(M=left∨∃p∈ks,p.1≤day∧day≤p.2∧M=v p.1 p.2)
def ykp:Sp:=fun vs H Q _=>∃(d p:Addr) (u day c du:Int) (ks:List (Int×Int)) (v:Int→Int→Int),vs=[.ref d,.ref p,.int u]∧SlAt H d ks v∧ks.length≤961∧H p=some (.tup [.int day,.int c,.int du])∧∀M H',Same H H'→FreeIs ks v day (c-u) M→Q (.int M) H'
theorem yf4 {ds:List Int}(h:ds.Pairwise (· < ·)):ds.Nodup:=h.imp fun z=>Int.ne_of_lt z
theorem yma {ds:List Int}(h:ds.Pairwise (· < ·)):(yau ds).Nodup:=by
 have nd:=yf4 h
 unfold yau
 suffices hh:∀es:List Int,es.Nodup→(es.flatMap fun f=>(ds.filter fun l=>decide (f≤l)).map fun l=>(f,l)).Nodup from hh ds nd
 intro es
 induction es with
 |nil=>intro _;exact List.nodup_nil
 |cons f r ih=>
  intro hn
  obtain ⟨h1,h2⟩:=List.nodup_cons.mp hn
  rw[List.flatMap_cons,List.nodup_append]
  refine⟨?_,ih h2,fun p hp q hq e=>?_⟩
  ·exact List.Pairwise.map _ (fun a b hab z=>hab (congrArg Prod.snd z)) (nd.filter _)
  ·obtain ⟨l,_,rfl⟩:=List.mem_map.mp hp
   obtain ⟨f',hf',hq'⟩:=List.mem_flatMap.mp hq
   obtain ⟨l',_,rfl⟩:=List.mem_map.mp hq'
   cases e
   exact h1 hf'
theorem ysb {ds:List Int}(h:ds.length≤31):(yau ds).length≤961:=by
 unfold yau
 have:∀es:List Int,(es.flatMap fun f=>(ds.filter fun l=>decide (f≤l)).map fun l=>(f,l)).length≤es.length*31:=by
  intro es
  induction es with
  |nil=>exact Nat.le_refl _
  |cons f r ih=>
   rw[List.flatMap_cons,List.length_append,List.length_map,List.length_cons]
   have:=List.length_filter_le (fun l=>decide (f≤l)) ds
   omega
 have:=this ds
 omega
theorem mem_str {ds:List Int}{f l:Int}:(f,l)∈yau ds↔f∈ds∧l∈ds∧f≤l:=by
 unfold yau
 constructor
 ·intro h
  obtain ⟨f',hf,h'⟩:=List.mem_flatMap.mp h
  obtain ⟨l',hl,e⟩:=List.mem_map.mp h'
  cases e
  obtain ⟨h1,h2⟩:=List.mem_filter.mp hl
  exact⟨hf,h1,of_decide_eq_true h2⟩
 ·rintro ⟨h1,h2,h3⟩
  exact List.mem_flatMap.mpr ⟨f,h1,List.mem_map.mpr ⟨l,List.mem_filter.mpr ⟨h2,decide_eq_true h3⟩,rfl⟩⟩
theorem ywn {f l f' l':Int}(h:ygh f l=ygh f' l'):f=f'∧l=l':=by
 unfold ygh at h
 simp only[List.cons.injEq,Sum.inl.injEq,and_true] at h
 exact h
theorem ysc {ks:List (Int×Int)}{v:Int→Int→Int}{f l:Int}(h:(f,l) ∉ ks):yib (slk ks v) (ygh f l) (.int (v f l))=slk (ks++[(f,l)]) v:=by
 have hn:ynh (slk ks v) (ygh f l)=none:=by
  unfold ynh slk
  rw[Option.map_eq_none_iff,List.find?_eq_none]
  intro x hx z
  obtain ⟨p,hp,rfl⟩:=List.mem_map.mp hx
  obtain ⟨e1,e2⟩:=ywn (of_decide_eq_true z)
  exact h (by rw[← e1,← e2];exact hp)
 rw[yt2 _ hn]
 unfold slk
 rw[List.map_append];rfl
end L2
namespace L2
def ye9 (ds:List Int)(i j:Nat):List (List Int):=((ds.take i).flatMap fun f=>(ds.filter fun l=>decide (f≤l)).map fun l=>[f,l])++((((ds.take j).filter fun l=>decide (ds.getD i 0≤l)).map fun l=>[ds.getD i 0,l]))
theorem yug {ds:List Int}{i j:Nat}(h:ds.length≤31):(ye9 ds i j).length≤1000:=by
 unfold ye9
 have:∀es:List Int,(es.flatMap fun f=>(ds.filter fun l=>decide (f≤l)).map fun l=>[f,l]).length≤es.length*31:=by
  intro es
  induction es with
  |nil=>exact Nat.le_refl _
  |cons f r ih=>
   rw[List.flatMap_cons,List.length_append,List.length_map,List.length_cons]
   have:=List.length_filter_le (fun l=>decide (f≤l)) ds
   omega
 have h1:=this (ds.take i)
 have h2:=List.length_filter_le (fun l=>decide (ds.getD i 0≤l)) (ds.take j)
 rw[List.length_append,List.length_map]
 rw[List.length_take] at h1 h2
 omega
end L2
namespace K16
open PySem L2
abbrev yeb:Stmt:=top 27
abbrev ymb:List Str:=["lots"]
abbrev yeq:List Str:=["lots"]
theorem yp5:FnScope ymb yeq (yab yeb):=⟨rfl,rfl,rfl,by decide +kernel,rfl,by decide +kernel,by decide +kernel⟩
abbrev ybn:Stmt:=top 28
abbrev yfv:List Str:=["lots","days"]
abbrev yck:List Str:=["lots"]
theorem sc_stretches_of:FnScope yfv yck (yab ybn):=⟨rfl,rfl,rfl,by decide +kernel,rfl,by decide +kernel,by decide +kernel⟩
abbrev ybo:Stmt:=top 29
abbrev yfw:List Str:=["lots","outs","term"]
abbrev ybz:List Str:=["lots","outs","term"]
theorem yif:FnScope yfw ybz (yab ybo):=⟨rfl,rfl,rfl,by decide +kernel,rfl,by decide +kernel,by decide +kernel⟩
abbrev yd4:Stmt:=top 30
abbrev yp6:List Str:=["slacks","day","units","told","first","last","slack"]
abbrev yer:List Str:=["slacks","day","units"]
theorem sc_lessened:FnScope yp6 yer (yab yd4):=⟨rfl,rfl,rfl,by decide +kernel,rfl,by decide +kernel,by decide +kernel⟩
abbrev yec:Stmt:=top 31
abbrev ymc:List Str:=["slacks","lot","units","day","count","duty","around"]
abbrev yfe:List Str:=["slacks","lot","units"]
theorem sc_free_at:FnScope ymc yfe (yab yec):=⟨rfl,rfl,rfl,by decide +kernel,rfl,by decide +kernel,by decide +kernel⟩
section
variable {P:Program}{w:World}{K:PySem.W.Frag}{mg:Str→Option Value}{base:Heap}{f:Addr}{fd:FuncData}{cl:Nat→Addr}(T:Txt K mg cl)(B:Bn mg)
include T B
theorem yp7 (F:Fun K "days_of" "days_of" yeb f fd):FnOk P w K mg base CX0 1 f fd yeq yhp:=by
 refine F.ok yp5 (fun vs H Q E h=>?_) (fun cdv A outer s H vs Q E hr h=>?_)
 ·obtain ⟨a,rs,rfl,_⟩:=h;rfl
 obtain ⟨a,rs,rfl,hR,h3,hn,q⟩:=h
 refine⟨_,(yak (ya2 (yao (yg0 rfl) rfl B.sorted PyProof.Rows.boot_sorted (yam (yox (N':=["day","count","duty"]) (ix:=[none,none,none]) (g:=(yob K 3 (ycc (ybi 0) (ycc (ybi 1) (ycc (ybi 2) yoa))))) (ti:=ylj) (te:=(ybv 0)) rfl (yax (N:=ymb) (D:=yab yeb) (by decide +kernel)) (ya8 (pv 0)) (fun C s H fp=>(ybl rfl (yah (yai (i:=0) (show (["day","count","duty"]:List Str).Nodup by decide +kernel) rfl (Or.inl rfl)) (yah (yai (i:=1) (show (["day","count","duty"]:List Str).Nodup by decide +kernel) rfl (Or.inl rfl)) (yah (yai (i:=2) (show (["day","count","duty"]:List Str).Nodup by decide +kernel) rfl (Or.inl rfl)) ya4))))) (fun C s H fp=>ycn) (fun C s H fp=>(pv 0))) yae)))),?_⟩
 obtain ⟨xs,ex,ht⟩:=hR.tups
 refine⟨_,rfl,a,rfl,⟨xs,SqL.of ex⟩,fun D hD=>?_⟩
 refine yo0 (fun i ns=>ns.Nodup∧∀d,d∈ns↔∃r∈rs.take i,r.getD 0 0=d) hD ex (by rw[ht.1];omega) ⟨List.nodup_nil,fun d=>⟨fun z=>(by cases z),fun ⟨r,hr,_⟩=>(by cases hr)⟩⟩ ?_ ?_
 ·rintro i x ns H1 ei s1 ⟨nd,hm⟩ K1 K2 q1 q2
  obtain ⟨p,r,rfl,er,hp⟩:=ht.at ei
  obtain ⟨d,c,u,rfl⟩:=ync (h3 r (List.mem_of_getElem? er))
  refine⟨p,_,rfl,SqT.of (s1 _ _ hp),rfl,_,_,rfl,_,_,rfl,_,_,rfl,rfl,yaw (yaw (yaw ya7 rfl) rfl) rfl,?_⟩
  refine⟨_,rfl,q1 _ d _ rfl (Same.refl _) ⟨?_,fun e=>?_⟩⟩
  ·split
   ·exact nd
   ·rename_i z
    exact List.nodup_append.mpr ⟨nd,by simp,fun a ha b hb e=>z (by rw[← List.mem_singleton.mp hb,← e];exact ha)⟩
  ·rw[yaz er]
   have key:(∃r∈rs.take i++[[d,c,u]],r.getD 0 0=e)↔(e∈ns∨e=d):=by
    rw[hm e]
    constructor
    ·rintro ⟨r,hr,e'⟩
     rcases List.mem_append.mp hr with z|z
     ·exact .inl ⟨r,z,e'⟩
     ·rw[List.mem_singleton.mp z] at e';exact .inr e'.symm
    ·rintro (⟨r,z,e'⟩ | z)
     ·exact⟨r,List.mem_append_left _ z,e'⟩
     ·exact⟨_,List.mem_append_right _ (.head _),z.symm⟩
   rw[key]
   split
   ·rename_i z
    exact⟨.inl,fun y=>y.elim id fun y=>by rw[y];exact z⟩
   ·rw[List.mem_append,List.mem_singleton]
 ·rintro ns H1 s1 ⟨nd,hm⟩ hl hz
  rw[ht.1,List.take_length] at hm
  have h1:=ht.1
  refine⟨D,ns,rfl,hz,by omega,fun l ms hl' hp hs=>?_⟩
  refine q l ms _ (s1.free hl') ⟨?_,fun d=>by rw[hp.mem_iff];exact hm d,by rw[hp.length_eq];omega⟩ (s1.trans (yac hl' _)) yaa
  exact(hs.and (hp.nodup_iff.mpr nd)).imp fun ⟨z1,z2⟩=>by omega
theorem yig (G_days_of:Cal P w K mg base CX0 1 "days_of" yeq yhp) (F:Fun K "stretches_of" "stretches_of" ybn f fd):FnOk P w K mg base CX0 2 f fd yck ye6:=by
 refine F.ok sc_stretches_of (fun vs H Q E h=>?_) (fun cdv A outer s H vs Q E hr h=>?_)
 ·obtain ⟨a,rs,rfl,_⟩:=h;rfl
 obtain ⟨a,rs,rfl,hR,h3,hn,q⟩:=h
 refine⟨_,(yaf (yat (i:=1) sc_stretches_of.nd rfl (Or.inr rfl) (yar G_days_of hr rfl ybe (yam (pv 0) yae)))
  (yak (ya2 (yt9 (N':=["first","last","days"]) (ix:=[none,none,some 1]) (g:=(ybi 0)) (wi1:=yxd K (ybv 2)) (g1:=(ybi 1)) (ti:=(ygs (tOp (rI0 fun i j=>.bl (decide (i≤j))) (ybv 0) (ybv 1)))) (te:=(yw3 (ycp (ybv 0) (ycp (ybv 1) ypk)))) rfl (yax (N:=yfv) (D:=yab ybn) (by decide +kernel)) (ya8 (pv 1)) (fun C s H fp=>(yai (i:=0) (show (["first","last","days"]:List Str).Nodup by decide +kernel) rfl (Or.inl rfl))) (fun C s H fp=>(ya8 (pv 2))) (fun C s H fp=>(yai (i:=1) (show (["first","last","days"]:List Str).Nodup by decide +kernel) rfl (Or.inl rfl))) (fun C s H fp=>(yd2 (ya5 yeh (pv 0) (pv 1) (yba _)))) (fun C s H fp=>(ybf (yam (pv 0) (yam (pv 1) yae)))))))),?_⟩
 refine⟨_,rfl,a,rs,rfl,hR,h3,by omega,fun dl ds H1 hdl hds s1 e1=>?_⟩
 have ld:ds.length≤31:=Nat.le_trans hds.2.2 hn
 refine⟨_,rfl,dl,rfl,⟨_,SqL.of e1⟩,fun D hD=>?_⟩
 have part:∀i j,ye9 ds i j=((ds.take i).flatMap fun f=>(ds.filter fun l=>decide (f≤l)).map fun l=>[f,l])++((((ds.take j).filter fun l=>decide (ds.getD i 0≤l)).map fun l=>[ds.getD i 0,l])):=fun i j=>rfl
 refine⟨fun i m H2=>i+m=ds.length∧Same H1 H2∧Rows H2 D (ye9 ds i 0),⟨ds.length,by omega,yac hD _,Rows.nil yaa⟩,?_⟩
 rintro i m H2 ⟨him,s2,R2⟩
 have e2:ybd H2 dl ds:=s2 _ _ e1
 by_cases hi:i<ds.length
 ·refine .inr ⟨⟨_,_,SqL.of e2,List.getElem?_eq_getElem (by rw[List.length_map];exact hi)⟩,?_⟩
  rintro x H' ⟨rfl,hx⟩
  obtain ⟨fi,rfl,efi⟩:=ydz (hx _ (SqL.of e2))
  have gfi:ds.getD i 0=fi:=by rw[List.getD_eq_getElem?_getD,efi];rfl
  refine⟨yaw ya7 rfl,?_⟩
  refine⟨_,rfl,dl,rfl,⟨_,SqL.of e2⟩,?_⟩
  refine⟨fun j m1 H3=>j+m1=ds.length∧Same H1 H3∧Rows H3 D (ye9 ds i j),⟨ds.length,by omega,s2,R2⟩,?_⟩
  rintro j m1 H3 ⟨hjm,s3,R3⟩
  have e3:ybd H3 dl ds:=s3 _ _ e1
  by_cases hj:j<ds.length
  ·refine .inr ⟨⟨_,_,SqL.of e3,List.getElem?_eq_getElem (by rw[List.length_map];exact hj)⟩,?_⟩
   rintro y H4 ⟨rfl,hy⟩
   obtain ⟨la,rfl,ela⟩:=ydz (hy _ (SqL.of e3))
   refine⟨yaw ya7 rfl,?_⟩
   refine⟨_,rfl,_,rfl,_,_,rfl,rfl,_,rfl,?_⟩
   have ft:=yb7 (rs:=ds) (fun l=>decide (fi≤l)) ela
   by_cases c1:fi≤la
   ·rw[decide_eq_true c1]
    refine yem ⟨_,rfl,_,rfl,by show 2≤sizeLine;decide,fun t ht=>?_⟩
    obtain ⟨ys,ey,eyl,_⟩:=R3.get
    have e4:ye9 ds i (j+1)=ye9 ds i j++[[fi,la]]:=by
     rw[part,part,gfi,ft,if_pos (decide_eq_true c1),List.map_append,← List.append_assoc];rfl
    refine⟨ys,by rw[yal (yaj ey ht)];exact ey,yaq (by rw[eyl];exact yug ld),m1-1,by omega,by omega,(s3.trans (yac ht _)).young hD,?_⟩
    rw[e4]
    exact R3.push (r:=[fi,la]) ey ht
   ·rw[decide_eq_false c1]
    refine ycd ⟨m1-1,by omega,by omega,s3,?_⟩
    have e4:ye9 ds i (j+1)=ye9 ds i j:=by
     rw[part,part,gfi,ft,if_neg (fun z=>c1 (of_decide_eq_true z)),List.append_nil]
    rw[e4]
    exact R3
  ·refine .inl ⟨⟨_,SqL.of e3,by rw[List.length_map];omega⟩,m-1,by omega,by omega,s3,?_⟩
   have e4:ye9 ds (i+1) 0=ye9 ds i j:=by
    rw[part,part,gfi,yaz efi,List.flatMap_append,List.take_of_length_le (by omega:ds.length≤j)]
    simp
   rw[e4]
   exact R3
 ·refine .inl ⟨⟨_,SqL.of e2,by rw[List.length_map];omega⟩,?_⟩
  refine q D ds H2 (s1.free hD) hds (s1.trans s2) ?_
  have e4:ye9 ds i 0=(yau ds).map fun p=>[p.1,p.2]:=by
   rw[part,List.take_of_length_le (by omega:ds.length≤i)]
   unfold yau
   rw[List.map_flatMap]
   simp
   rfl
  rw[← e4]
  exact R2
theorem yih (G_stretches_of:Cal P w K mg base CX0 2 "stretches_of" yck ye6) (G_going:Cal P w K mg base CX0 1 "going" yh2 ykc) (F:Fun K "against_each" "against_each" ybo f fd):FnOk P w K mg base CX0 3 f fd ybz yd3:=by
 refine F.ok yif (fun vs H Q E h=>?_) (fun cdv A outer s H vs Q E hr h=>?_)
 ·obtain ⟨a,b,tm,rs,os,rfl,_⟩:=h;rfl
 obtain ⟨a,b,tm,rs,os,rfl,hR,h3,rn,hO,h2,on,q⟩:=h
 refine⟨_,(yak (ya2 (yvh (yt6 (N':=["stretch","outs","term"]) (ix:=[none,some 1,some 2]) (g:=(ybi 0)) (ti:=ylj) (tk:=(ybv 0)) (tv:=(ypl ykc [] E0 (ycp (ybv 1) (ycp (ybv 2) (ycp (ybv 0) ypk))))) (Nat.lt_of_le_of_lt (Nat.le_add_right _ _) hr.units) rfl (yax (N:=yfw) (D:=yab ybo) (by decide +kernel)) (ya8 (yar G_stretches_of hr rfl ybe (yam (pv 0) yae))) (fun C s H fp=>(yai (i:=0) (show (["stretch","outs","term"]:List Str).Nodup by decide +kernel) rfl (Or.inl rfl))) (fun C s H fp=>ycn) (fun C s H fp=>(pv 0)) (fun C s H fp=>(yar G_going hr rfl ybe (yam (pv 1) (yam (pv 2) (yam (pv 0) yae))))))))),?_⟩
 refine⟨_,rfl,a,rs,rfl,hR,h3,rn,fun sl ds H1 hsl hds s1 R1=>?_⟩
 obtain ⟨xs,ex,ht⟩:=R1.tups
 have ld:ds.length≤31:=Nat.le_trans hds.2.2 rn
 have sn:=ysb ld
 have nd:=yma hds.1
 have O1:=hO.same s1
 refine⟨sl,rfl,⟨xs,SqL.of ex⟩,fun D hD=>?_⟩
 have lx:xs.length=(yau ds).length:=by rw[ht.1,List.length_map]
 refine yuf (fun i zs _=>zs=slk ((yau ds).take i) (yan os tm)) hD ex (by omega) (fun i zs H1 H2 h k=>h) rfl ?_ ?_
 ·rintro i x zs H2 ei s2 rfl K1 K2 q1 q2
  obtain ⟨p,r,rfl,er,hp⟩:=ht.at ei
  rw[List.getElem?_map] at er
  cases ep:(yau ds)[i]? with
  |none=>rw[ep] at er;cases er
  |some pr=>
   rw[ep] at er
   cases er
   obtain ⟨ff,la⟩:=pr
   refine⟨yaw ya7 rfl,_,rfl,_,rfl,_,rfl,_,rfl,b,p,tm,ff,la,os,rfl,O1.same s2,h2,on,s2 _ _ hp,fun H3 s3=>?_⟩
   refine q1 _ _ _ _ s3 ⟨ygh ff la,p,rfl,s3 _ _ (s2 _ _ hp),?_⟩
   have hni:(ff,la) ∉ (yau ds).take i:=fun z=>by
    obtain ⟨hi,e'⟩:=List.getElem?_eq_some_iff.mp ep
    have:=List.nodup_append.mp (by rw[← List.take_append_drop i (yau ds)] at nd;exact nd)
    exact this.2.2 _ z _ (by rw[List.drop_eq_getElem_cons hi,e'];exact .head _) rfl
   rw[yaz ep]
   exact ysc hni
 ·rintro zs H2 s2 rfl hz
  rw[lx,List.take_length] at hz
  refine⟨D,_,rfl,hz,fun o=>?_⟩
  exact q D ds _ (s1.free hD) hds ((s1.trans s2).young (s1.free hD)) ⟨o,yaa⟩
theorem ynr (F:Fun K "lessened" "lessened" yd4 f fd):FnOk P w K mg base CX0 1 f fd yer yg1:=by
 refine F.ok sc_lessened (fun vs H Q E h=>?_) (fun cdv A outer s H vs Q E hr h=>?_)
 ·obtain ⟨d,day,u,ks,v,rfl,_⟩:=h;rfl
 obtain ⟨d,day,u,ks,v,rfl,⟨o,ho⟩,nd,kn,q⟩:=h
 refine⟨_,(yaf (yat (i:=3) sc_lessened.nd rfl (Or.inl rfl) yt5)
  (yaf (yd0 PassesOwn.never rfl (yov (pv 0)) (ybl rfl (yah (ybl rfl (yah (yai (i:=4) sc_lessened.nd rfl (Or.inl rfl)) (yah (yai (i:=5) sc_lessened.nd rfl (Or.inl rfl)) ya4))) (yah (yai (i:=6) sc_lessened.nd rfl (Or.inl rfl)) ya4))) (yak (ywd (yxl hr) (pv 3) (ybf (yam (pv 4) (yam (pv 5) yae))) (ytb (yfl yeh yeh (pv 4) (pv 1) (pv 5)) (ybb yg9 (pv 6) (pv 2)) (pv 6)) rfl)))
  (yak (ya2 (yvh (pv 3)))))),?_⟩
 refine fun t ht=>?_
 have s1:=yac ht (.dT [])
 refine⟨_,rfl,d,o,_,rfl,s1 _ _ ho,?_⟩
 refine ysa (fun i σ H3=>∃o4 o5 o6,σ=[some (.ref d),some (.int day),some (.int u),some (.ref t),o4,o5,o6]∧Same H H3∧H3 t=some (.dT (slk (ks.take i) (yce v day u)))) ⟨_,_,_,rfl,s1,yaa⟩ ?_ ?_ ?_
 ·rintro i σ H3 ⟨o4,o5,o6,rfl,s3,_⟩
  exact s3 _ _ ho
 ·rintro i k x σ H3 p b ei ⟨o4,o5,o6,rfl,s3,e3⟩ hp hb
  unfold slk at ei
  rw[List.getElem?_map] at ei
  cases ep:ks[i]? with
  |none=>rw[ep] at ei;cases ei
  |some pr=>
   rw[ep] at ei
   cases ei
   obtain ⟨ff,la⟩:=pr
   have sN:=yac hp (.tup [.ref b,.int (v ff la)])
   have hb':=sN _ _ hb
   refine⟨p,_,rfl,SqT.of yaa,rfl,_,_,rfl,b,_,rfl,SqT.of hb',rfl,_,_,rfl,_,_,rfl,rfl,_,_,rfl,rfl,?_⟩
   have s4:=s3.trans sN
   have e4:=sN _ _ e3
   generalize L2.upd H3 p (.tup [.ref b,.int (v ff la)])=H4 at *
   have hni:(ff,la) ∉ ks.take i:=fun z=>by
    obtain ⟨hi,e'⟩:=List.getElem?_eq_some_iff.mp ep
    have:=List.nodup_append.mp (by rw[← List.take_append_drop i ks] at nd;exact nd)
    exact this.2.2 _ z _ (by rw[List.drop_eq_getElem_cons hi,e'];exact .head _) rfl
   have put:∀z:Int,z=yce v day u ff la→∃x H5,V.ref t=V.ref x∧True∧H5=H5:=fun z _=>⟨t,H4,rfl,trivial,rfl⟩
   have fin:∀z:Int,z=yce v day u ff la→∀(tp:Addr) (htp:H4 tp=none),∃a H5,V.ref t = .ref a∧DPut (L2.upd H4 tp (.tup [.int ff,.int la])) a (.ref tp) (.int z) H5∧(∃o4 o5 o6,([some (.ref d),some (.int day),some (.int u),some (.ref t),some (.int ff),some (.int la),some (.int (v ff la))]:St)=[some (.ref d),some (.int day),some (.int u),some (.ref t),o4,o5,o6]∧Same H H5∧H5 t=some (.dT (slk (ks.take (i+1)) (yce v day u)))):=fun z ez tp htp=>by
    have sT:=yac htp (.tup [.int ff,.int la])
    refine⟨t,_,rfl,DPut.t (k:=ygh ff la) (sT _ _ e4) yaa (yaq (by unfold slk;rw[List.length_map,List.length_take];omega)),_,_,_,rfl,(s4.trans sT).young ht,?_⟩
    rw[yaa,yaz ep,ez,ysc hni]
   refine⟨_,rfl,_,rfl,_,_,rfl,rfl,_,rfl,?_⟩
   by_cases c1:ff≤day
   ·rw[decide_eq_true c1]
    refine yem ⟨_,rfl,_,_,rfl,rfl,_,rfl,?_⟩
    by_cases c2:day≤la
    ·rw[decide_eq_true c2]
     refine yem ⟨_,rfl,_,rfl,_,_,rfl,rfl,_,rfl,_,rfl,_,rfl,by show 2≤sizeLine;decide,fun tp htp=>?_⟩
     exact fin _ (by unfold yce;rw[if_pos ⟨c1,c2⟩]) tp htp
    ·rw[decide_eq_false c2]
     refine ycd ⟨_,rfl,_,rfl,_,rfl,_,rfl,by show 2≤sizeLine;decide,fun tp htp=>?_⟩
     exact fin _ (by unfold yce;rw[if_neg fun z=>c2 z.2]) tp htp
   ·rw[decide_eq_false c1]
    refine ycd ⟨_,rfl,ycd ⟨_,rfl,_,rfl,_,rfl,_,rfl,by show 2≤sizeLine;decide,fun tp htp=>?_⟩⟩
    exact fin _ (by unfold yce;rw[if_neg fun z=>c1 z.1]) tp htp
 ·rintro σ H3 ⟨o4,o5,o6,rfl,s3,e3⟩
  have lk:(slk ks v).length=ks.length:=by unfold slk;rw[List.length_map]
  rw[lk,List.take_length] at e3
  exact⟨_,rfl,t,_,rfl,e3,fun o'=>q t _ ht (s3.young ht) ⟨o',yaa⟩⟩
theorem yp8 (F:Fun K "free_at" "free_at" yec f fd):FnOk P w K mg base CX0 1 f fd yfe ykp:=by
 refine F.ok sc_free_at (fun vs H Q E h=>?_) (fun cdv A outer s H vs Q E hr h=>?_)
 ·obtain ⟨d,p,u,day,c,du,ks,v,rfl,_⟩:=h;rfl
 obtain ⟨d,p,u,day,c,du,ks,v,rfl,⟨o,ho⟩,kn,hp,q⟩:=h
 refine⟨_,(yaf (yc7 (pv 1) (ybl rfl (yah (yai (i:=3) sc_free_at.nd rfl (Or.inr rfl)) (yah (yai (i:=4) sc_free_at.nd rfl (Or.inl rfl)) (yah (yai (i:=5) sc_free_at.nd rfl (Or.inl rfl)) ya4)))))
  (yaf (ygv (i:=6) sc_free_at.nd rfl (Or.inl rfl) (N':=["first","last","slack","day"]) (ix:=[none,none,none,some 3]) (g:=(yob K 2 (ycc (yob K 2 (ycc (ybi 0) (ycc (ybi 1) yoa))) (ycc (ybi 2) yoa)))) (ti:=(ygs (yoe (rI0 fun i j=>.bl (decide (i≤j))) (rI0 fun i j=>.bl (decide (i≤j))) (ybv 0) (ybv 3) (ybv 1)))) (te:=(ybv 2)) rfl (yax (N:=ymc) (D:=yab yec) (by decide +kernel)) (yov (pv 0)) (fun C s H fp=>(ybl rfl (yah (ybl rfl (yah (yai (i:=0) (show (["first","last","slack","day"]:List Str).Nodup by decide +kernel) rfl (Or.inl rfl)) (yah (yai (i:=1) (show (["first","last","slack","day"]:List Str).Nodup by decide +kernel) rfl (Or.inl rfl)) ya4))) (yah (yai (i:=2) (show (["first","last","slack","day"]:List Str).Nodup by decide +kernel) rfl (Or.inl rfl)) ya4)))) (fun C s H fp=>(yd2 (yfl yeh yeh (pv 0) (pv 3) (pv 1)))) (fun C s H fp=>(pv 2)))
  (yak (ya2 (yao (yr9 rfl) rfl B.min PyProof.Rows.boot_min (yam (ybb yi9 (yd5 (yam (ybb yg9 (pv 4) (pv 2)) yae)) (pv 6)) yae)))))),?_⟩
 have lk:(slk ks v).length=ks.length:=by unfold slk;rw[List.length_map]
 refine⟨_,rfl,p,_,rfl,SqT.of hp,rfl,_,_,rfl,_,_,rfl,_,_,rfl,rfl,?_⟩
 refine⟨_,rfl,d,o,_,rfl,ho,fun D hD=>?_⟩
 have arB:∀q:Int×Int,(q.1≤day∧day≤q.2)↔(decide (q.1≤day∧day≤q.2))=true:=fun q=>by rw[decide_eq_true_iff]
 refine yp4 (fun i zs _=>zs=(((ks.take i).filter fun q=>decide (q.1≤day∧day≤q.2)).map fun q=>v q.1 q.2).map V.int) hD ho (by rw[lk];omega) (fun i zs H1 H2 h k=>h) rfl ?_ ?_
 ·rintro i k x zs H1 pp b ei s1 rfl hpp hb K1 K2 q1 q2
  unfold slk at ei
  rw[List.getElem?_map] at ei
  cases ep:ks[i]? with
  |none=>rw[ep] at ei;cases ei
  |some pr=>
   rw[ep] at ei
   cases ei
   obtain ⟨ff,la⟩:=pr
   have hb':=yac hpp (.tup [.ref b,.int (v ff la)]) _ _ hb
   have ft:=yb7 (rs:=ks) (fun q=>decide (q.1≤day∧day≤q.2)) ep
   refine⟨pp,_,rfl,SqT.of yaa,rfl,_,_,rfl,b,_,rfl,SqT.of hb',rfl,_,_,rfl,_,_,rfl,rfl,_,_,rfl,rfl,yaw (yaw (yaw ya7 rfl) rfl) rfl,?_⟩
   generalize L2.upd H1 pp (.tup [.ref b,.int (v ff la)])=H2 at *
   have no:¬ (ff≤day∧day≤la)→K2 H2:=fun z=>q2 _ (Same.refl _) (by rw[ft,if_neg (fun y=>z (of_decide_eq_true y)),List.append_nil])
   refine⟨_,rfl,_,rfl,_,_,rfl,rfl,_,rfl,?_⟩
   by_cases c1:ff≤day
   ·rw[decide_eq_true c1]
    refine yem ⟨_,rfl,_,_,rfl,rfl,_,rfl,?_⟩
    by_cases c2:day≤la
    ·rw[decide_eq_true c2]
     refine yem ⟨_,rfl,q1 _ _ (Same.refl _) ?_⟩
     rw[ft,if_pos (decide_eq_true ⟨c1,c2⟩),List.map_append,List.map_append];rfl
    ·rw[decide_eq_false c2]
     exact ycd (no fun z=>c2 z.2)
   ·rw[decide_eq_false c1]
    exact ycd ⟨_,rfl,ycd (no fun z=>c1 z.1)⟩
 ·rintro zs H1 s1 rfl hl hz
  rw[lk,List.take_length] at hz
  refine⟨_,rfl,_,rfl,_,_,rfl,rfl,by show 1≤sizeLine;decide,fun l1 hl1=>?_⟩
  have s2:=yac (H:=H1) hl1 (.lst [.int (c-u)])
  refine⟨_,rfl,l1,D,_,_,rfl,rfl,yaa,s2 _ _ hz,Nat.le_of_lt (yaq ?_),fun l2 hl2=>?_⟩
  ·rw[List.length_map,List.length_map,List.length_singleton]
   have:=List.length_filter_le (fun q:Int×Int=>decide (q.1≤day∧day≤q.2)) ks
   omega
  ·refine⟨l2,(c-u)::((ks.filter fun q=>decide (q.1≤day∧day≤q.2)).map fun q=>v q.1 q.2),rfl,SqL.of yaa,Nat.succ_pos _,fun M hM hle=>?_⟩
   refine q M _ ((s1.trans s2).trans (yac hl2 _)) ⟨hle _ (.head _),fun pr hpr z1 z2=>?_,?_⟩
   ·exact hle _ (.tail _ (List.mem_map.mpr ⟨pr,List.mem_filter.mpr ⟨hpr,decide_eq_true ⟨z1,z2⟩⟩,rfl⟩))
   ·rcases List.mem_cons.mp hM with z|z
    ·exact .inl z
    ·obtain ⟨pr,hpr,e⟩:=List.mem_map.mp z
     obtain ⟨h1,h2⟩:=List.mem_filter.mp hpr
     have h2':=of_decide_eq_true h2
     exact .inr ⟨pr,h1,h2'.1,h2'.2,e.symm⟩
end
end K16
namespace L2
open PySem PySem.Spec PySem.W PyProof.Rows
def yp9 (v:Int→Int→Int)(day left:Int):List (Int×Int)→Int
 |[]=>left
 |p::ks=>if p.1≤day∧day≤p.2∧v p.1 p.2<yp9 v day left ks then v p.1 p.2 else yp9 v day left ks
theorem yfr (v:Int→Int→Int)(day left:Int):∀ks,FreeIs ks v day left (yp9 v day left ks)
 |[]=>⟨Int.le_refl _,fun p hp=>(by cases hp),.inl rfl⟩
 |p::ks=>by
  obtain ⟨h1,h2,h3⟩:=yfr v day left ks
  unfold yp9
  split
  ·rename_i c
   refine⟨by omega,fun q hq a b=>?_,.inr ⟨p,.head _,c.1,c.2.1,rfl⟩⟩
   rcases List.mem_cons.mp hq with e|e
   ·subst e;exact Int.le_refl _
   ·have:=h2 q e a b;omega
  ·rename_i c
   refine⟨h1,fun q hq a b=>?_,?_⟩
   ·rcases List.mem_cons.mp hq with e|e
    ·subst e
     exact Int.not_lt.mp fun z=>c ⟨a,b,z⟩
    ·exact h2 q e a b
   ·rcases h3 with z|⟨q,hq,a,b,e⟩
    ·exact .inl z
    ·exact .inr ⟨q,.tail _ hq,a,b,e⟩
theorem FreeIs.uniq {ks:List (Int×Int)}{v:Int→Int→Int}{day left M M':Int}(h:FreeIs ks v day left M)(h':FreeIs ks v day left M'):M=M':=by
 obtain ⟨a1,a2,a3⟩:=h
 obtain ⟨b1,b2,b3⟩:=h'
 refine Int.le_antisymm ?_ ?_
 ·rcases b3 with z|⟨p,hp,x,y,e⟩
  ·rw[z];exact a1
  ·rw[e];exact a2 p hp x y
 ·rcases a3 with z|⟨p,hp,x,y,e⟩
  ·rw[z];exact b1
  ·rw[e];exact b2 p hp x y
def ycf (ks:List (Int×Int))(rs:List (List Int))(v:Int→Int→Int)(i:Int):Int:=yp9 v (yad rs 0 i) (yad rs 1 i) ks
def yav (ks:List (Int×Int))(rs:List (List Int)):List Int→(Int→Int→Int)→List Int→(Int→Int→Int)×List Int
 |[],v,cs=>(v,cs)
 |i::os,v,cs=>yav ks rs os (yce v (yad rs 0 i) (ycf ks rs v i)) (cs.set i.toNat (ycf ks rs v i))
theorem yc4 (ks:List (Int×Int))(rs:List (List Int)):∀(os ps:List Int) (v:Int→Int→Int) (cs:List Int),yav ks rs (os++ps) v cs=yav ks rs ps (yav ks rs os v cs).1 (yav ks rs os v cs).2
 |[],ps,v,cs=>rfl
 |i::os,ps,v,cs=>yc4 ks rs os ps _ _
theorem yet (ks:List (Int×Int))(rs:List (List Int)):∀(os:List Int) (v:Int→Int→Int) (cs:List Int),(yav ks rs os v cs).2.length=cs.length
 |[],v,cs=>rfl
 |i::os,v,cs=>by
  show (yav ks rs os _ _).2.length=_
  rw[yet,List.length_set]
theorem yhc {ks:List (Int×Int)}{rs rs':List (List Int)}(h0:∀i,yad rs 0 i=yad rs' 0 i)(h1:∀i,yad rs 1 i=yad rs' 1 i):∀(os:List Int) (v:Int→Int→Int) (cs:List Int),yav ks rs os v cs=yav ks rs' os v cs
 |[],v,cs=>rfl
 |i::os,v,cs=>by
  have e:ycf ks rs v i=ycf ks rs' v i:=by unfold ycf;rw[h0,h1]
  show yav ks rs os _ _=yav ks rs' os _ _
  rw[e,h0]
  exact yhc h0 h1 os _ _
def nN (ks:List (Int×Int))(v:Int→Int→Int):Prop:=∀p∈ks,0≤v p.1 p.2
def Within (rs:List (List Int))(cs:List Int):Prop:=∀(j:Nat) u,cs[j]? = some u→0≤u∧u≤yad rs 1 (j:Int)
theorem yns {ks:List (Int×Int)}{rs:List (List Int)}{v:Int→Int→Int}{i:Int}(hv:nN ks v)(hc:0≤yad rs 1 i):0≤ycf ks rs v i∧ycf ks rs v i≤yad rs 1 i∧nN ks (yce v (yad rs 0 i) (ycf ks rs v i)):=by
 obtain ⟨h1,h2,h3⟩:=yfr v (yad rs 0 i) (yad rs 1 i) ks
 refine⟨?_,h1,fun p hp=>?_⟩
 ·rcases h3 with z|⟨p,hp,_,_,e⟩
  ·unfold ycf;rw[z];exact hc
  ·unfold ycf;rw[e];exact hv p hp
 ·unfold yce
  split
  ·rename_i c
   have:=h2 p hp c.1 c.2
   unfold ycf
   omega
  ·exact hv p hp
theorem yff {ks:List (Int×Int)}{rs:List (List Int)}:∀(os:List Int) (v:Int→Int→Int) (cs:List Int),(∀i∈os,0≤i∧0≤yad rs 1 i)→nN ks v→Within rs cs→nN ks (yav ks rs os v cs).1∧Within rs (yav ks rs os v cs).2
 |[],v,cs,_,hv,hc=>⟨hv,hc⟩
 |i::os,v,cs,ho,hv,hc=>by
  obtain ⟨i0,i1⟩:=ho i (.head _)
  obtain ⟨a1,a2,a3⟩:=yns hv i1
  refine yff os _ _ (fun j hj=>ho j (.tail _ hj)) a3 fun j u e=>?_
  rw[List.getElem?_set] at e
  split at e
  ·rename_i z
   split at e
   ·cases e
    have:((j:Nat):Int)=i:=by omega
    rw[this]
    exact⟨a1,a2⟩
   ·cases e
  ·exact hc j u e
def BestIs (rs os:List (List Int))(tm:Int)(cs:List Int):Prop:=∃ds ord,yb5 rs ds∧yde (keyD rs) rs.length ord∧cs=(yav (yau ds) rs ord (yan os tm) (List.replicate rs.length 0)).2
theorem BestIs.len {rs os:List (List Int)}{tm:Int}{cs:List Int}(h:BestIs rs os tm cs):cs.length=rs.length:=by
 obtain ⟨ds,ord,_,_,rfl⟩:=h
 rw[yet,List.length_replicate]
theorem yii {rs rs':List (List Int)}{ds ds':List Int}(h:yb5 rs ds)(h':yb5 rs' ds')(e:∀d,(∃r∈rs,r.getD 0 0=d)↔∃r∈rs',r.getD 0 0=d):ds=ds':=by
 refine List.Perm.eq_of_pairwise (le:=(· < ·)) (fun a b _ _ x y=>by omega) h.1 h'.1 ?_
 refine(List.perm_ext_iff_of_nodup (yf4 h.1) (yf4 h'.1)).mpr fun d=>?_
 rw[h.2.1 d,h'.2.1 d]
 exact e d
theorem lex_keyD {rs:List (List Int)}{i j:Int}:ygq (keyD rs i) (keyD rs j)=true↔(yad rs 2 j<yad rs 2 i∨(yad rs 2 j=yad rs 2 i∧(yad rs 0 i<yad rs 0 j∨(yad rs 0 i=yad rs 0 j∧i<j)))):=by
 show (if -(yad rs 2 i) = -(yad rs 2 j) then (if yad rs 0 i=yad rs 0 j then (if i=j then false else decide (i<j)) else decide (yad rs 0 i<yad rs 0 j)) else decide (-(yad rs 2 i) < -(yad rs 2 j)))=true↔_
 generalize yad rs 2 i=a
 generalize yad rs 2 j=b
 generalize yad rs 0 i=c
 generalize yad rs 0 j=d
 by_cases h1:-a = -b
 ·rw[if_pos h1]
  by_cases h2:c=d
  ·rw[if_pos h2]
   by_cases h3:i=j
   ·rw[if_pos h3];simp;omega
   ·rw[if_neg h3,decide_eq_true_iff];omega
  ·rw[if_neg h2,decide_eq_true_iff];omega
 ·rw[if_neg h1,decide_eq_true_iff];omega
theorem ysd {rs rs':List (List Int)}{n:Nat}{o o':List Int}(h:yde (keyD rs) n o)(h':yde (keyD rs') n o')(e:∀i j:Int,0≤i→i<n→0≤j→j<n→(ygq (keyD rs i) (keyD rs j)=true↔ygq (keyD rs' i) (keyD rs' j)=true)):o=o':=by
 have m:∀i,i∈o→0≤i∧i<n:=fun i hi=>uptoN_mem.mp (h.1.mem_iff.mp hi)
 have m':∀i,i∈o'→0≤i∧i<n:=fun i hi=>uptoN_mem.mp (h'.1.mem_iff.mp hi)
 have p':o'.Pairwise (fun i j=>ygq (keyD rs j) (keyD rs i)=false):=by
  refine List.Pairwise.imp_of_mem (fun {a b} ha hb z=>?_) h'.2
  refine Bool.eq_false_iff.mpr fun y=>?_
  rw[(e b a (m' b hb).1 (m' b hb).2 (m' a ha).1 (m' a ha).2).mp y] at z
  cases z
 refine List.Perm.eq_of_pairwise (fun a b _ _ x y=>?_) h.2 p' (h.1.trans h'.1.symm)
 have x':=mt lex_keyD.mpr (Bool.eq_false_iff.mp x)
 have y':=mt lex_keyD.mpr (Bool.eq_false_iff.mp y)
 generalize yad rs 2 a=p at *
 generalize yad rs 2 b=q at *
 generalize yad rs 0 a=r at *
 generalize yad rs 0 b=t at *
 omega
theorem BestIs.uniq {rs rs' os:List (List Int)}{tm:Int}{cs cs':List Int}(h:BestIs rs os tm cs)(h':BestIs rs' os tm cs')(hl:rs.length=rs'.length)(h0:∀i,yad rs 0 i=yad rs' 0 i)(h1:∀i,yad rs 1 i=yad rs' 1 i)
 (h2:∀i j,0≤i→i<(rs.length:Int)→0≤j→j<(rs.length:Int)→(yad rs 2 i<yad rs 2 j↔yad rs' 2 i<yad rs' 2 j)):cs=cs':=by
 obtain ⟨ds,ord,hd,ho,rfl⟩:=h
 obtain ⟨ds',ord',hd',ho',rfl⟩:=h'
 rw[← hl] at ho' ⊢
 have at0:∀{qs:List (List Int)}{d:Int},(∃r∈qs,r.getD 0 0=d)↔∃i:Nat,i<qs.length∧yad qs 0 (i:Int)=d:=by
  intro qs d
  constructor
  ·rintro ⟨r,hr,e⟩
   obtain ⟨i,hi,e'⟩:=List.getElem_of_mem hr
   refine⟨i,hi,?_⟩
   show (qs.getD ((i:Int)).toNat []).getD 0 0=d
   rw[yej (List.getElem?_eq_some_iff.mpr ⟨hi,e'⟩)]
   exact e
  ·rintro ⟨i,hi,e⟩
   refine⟨qs[i],List.getElem_mem hi,?_⟩
   rw[← e]
   show _=(qs.getD ((i:Int)).toNat []).getD 0 0
   rw[yej (List.getElem?_eq_getElem hi)]
 have ed:ds=ds':=yii hd hd' fun d=>by
  rw[at0,at0,hl]
  constructor
  ·rintro ⟨i,hi,e⟩;exact⟨i,hi,by rw[← h0];exact e⟩
  ·rintro ⟨i,hi,e⟩;exact⟨i,hi,by rw[h0];exact e⟩
 have eo:ord=ord':=ysd ho ho' fun i j i0 i1 j0 j1=>by
  rw[lex_keyD,lex_keyD,h0 i,h0 j]
  have a:=h2 i j i0 i1 j0 j1
  have b:=h2 j i j0 j1 i0 i1
  generalize yad rs 2 i=x at *
  generalize yad rs 2 j=y at *
  generalize yad rs' 2 i=x' at *
  generalize yad rs' 2 j=y' at *
  omega
 rw[ed,eo,yhc h0 h1]
theorem ygi {os:List (List Int)}(h:∀r∈os,0≤r.getD 1 0)(tm f l:Int):0≤yan os tm f l:=by
 unfold yan
 have:∀qs:List (List Int),(∀r∈qs,0≤r.getD 1 0)→0≤(qs.map fun r=>r.getD 1 0).sum:=by
  intro qs
  induction qs with
  |nil=>intro _;exact Int.le_refl _
  |cons r qs ih=>
   intro hh
   rw[List.map_cons,List.sum_cons]
   have:=hh r (.head _)
   have:=ih fun r hr=>hh r (.tail _ hr)
   omega
 exact this _ fun r hr=>h r (List.mem_filter.mp hr).1
theorem yfx {rs:List (List Int)}(h:∀r∈rs,0≤r.getD 1 0)(i:Int):0≤yad rs 1 i:=by
 unfold yad
 rw[List.getD_eq_getElem?_getD (l:=rs)]
 cases e:rs[i.toNat]? with
 |none=>exact Int.le_refl _
 |some r=>exact h r (List.mem_of_getElem? e)
theorem BestIs.taken {rs os:List (List Int)}{tm:Int}{cs:List Int}(h:BestIs rs os tm cs)(hr:∀r∈rs,0≤r.getD 1 0)(ho:∀r∈os,0≤r.getD 1 0):yv7 rs cs:=by
 refine⟨h.len,fun j r u hj er eu=>?_⟩
 obtain ⟨ds,ord,_,hord,rfl⟩:=h
 have w:=(yff (rs:=rs) (ks:=yau ds) ord (yan os tm) (List.replicate rs.length 0) (fun i hi=>⟨(uptoN_mem.mp (hord.1.mem_iff.mp hi)).1,yfx hr i⟩) (fun p _=>ygi ho _ _ _) (fun j u e=>by
  have:=List.mem_of_getElem? e
  rw[(List.mem_replicate.mp this).2]
  exact⟨Int.le_refl _,yfx hr _⟩)).2 j u eu
 rw[show yad rs 1 (j:Int)=r.getD 1 0 by unfold yad;rw[yej er]] at w
 exact w
def ykq:Sp:=fun vs H Q _=>∃(a b:Addr) (tm:Int) (rs os:List (List Int)),vs=[.ref a,.ref b,.int tm]∧Rows H a rs∧(∀r∈rs,r.length=3)∧rs.length≤31∧Rows H b os∧(∀r∈os,r.length=2)∧os.length≤100∧∀l cs H',H l=none→BestIs rs os tm cs→Same H H'→ybd H' l cs→Q (.ref l) H'
theorem ywo {rs os:List (List Int)}{tm:Int}(h:yeo rs os tm=none):rs.length≤30∧os.length≤30∧ybs rs=none∧ybs os=none:=by
 have one:∀{qs:List (List Int)},ydv qs=none→qs.length≤30∧ybs qs=none:=by
  intro qs e
  unfold ydv at e
  split at e
  ·cases e
  ·rename_i z
   exact⟨by omega,Option.map_eq_none_iff.mp e⟩
 unfold yeo at h
 cases e1:ydv rs with
 |some n=>rw[e1] at h;cases h
 |none=>
  rw[e1] at h
  cases e2:ydv os with
  |some n=>rw[e2] at h;cases h
  |none=>exact⟨(one e1).1,(one e2).1,(one e1).2,(one e2).2⟩
end L2
namespace K16
open PySem L2
abbrev ydw:Stmt:=top 24
abbrev yij:List Str:=["lots","ranks"]
abbrev yfg:List Str:=["lots"]
theorem sc_dearest:FnScope yij yfg (yab ydw):=⟨rfl,rfl,rfl,by decide +kernel,rfl,by decide +kernel,by decide +kernel⟩
abbrev yeu:Stmt:=top 33
abbrev yse:List Str:=["lots","outs","term","counts","slacks","at"]
abbrev yfh:List Str:=["lots","outs","term"]
theorem sc_best_of:FnScope yse yfh (yab yeu):=⟨rfl,rfl,rfl,by decide +kernel,rfl,by decide +kernel,by decide +kernel⟩
section
variable {P:Program}{w:World}{K:PySem.W.Frag}{mg:Str→Option Value}{base:Heap}{f:Addr}{fd:FuncData}{cl:Nat→Addr}(T:Txt K mg cl)(B:Bn mg)
include T B
theorem yqa (F:Fun K "dearest" "dearest" ydw f fd):FnOk P w K mg base CX0 1 f fd yfg (yv6 keyD okD):=by
 refine F.ok sc_dearest (fun vs H Q E h=>?_) (fun cdv A outer s H vs Q E hr h=>?_)
 ·obtain ⟨a,rs,rfl,_⟩:=h;rfl
 obtain ⟨a,rs,rfl,hR,h60,hok,q⟩:=h
 refine⟨_,(yaf (ygv (i:=1) sc_dearest.nd rfl (Or.inl rfl) (N':=["at","day","count","duty"]) (ix:=[none,none,none,none]) (g:=(yob K 2 (ycc (ybi 0) (ycc (yob K 3 (ycc (ybi 1) (ycc (ybi 2) (ycc (ybi 3) yoa)))) yoa)))) (ti:=ylj) (te:=(yw3 (ycp (tUn (rU fun i=>.int (-i)) (ybv 3)) (ycp (ybv 1) (ycp (ybv 0) ypk))))) rfl (yax (N:=yij) (D:=yab ydw) (by decide +kernel)) (ym6 rfl B.enumerate (yam (pv 0) yae)) (fun C s H fp=>(ybl rfl (yah (yai (i:=0) (show (["at","day","count","duty"]:List Str).Nodup by decide +kernel) rfl (Or.inl rfl)) (yah (ybl rfl (yah (yai (i:=1) (show (["at","day","count","duty"]:List Str).Nodup by decide +kernel) rfl (Or.inl rfl)) (yah (yai (i:=2) (show (["at","day","count","duty"]:List Str).Nodup by decide +kernel) rfl (Or.inl rfl)) (yah (yai (i:=3) (show (["at","day","count","duty"]:List Str).Nodup by decide +kernel) rfl (Or.inl rfl)) ya4)))) ya4)))) (fun C s H fp=>ycn) (fun C s H fp=>(ybf (yam (ytf yod (pv 3)) (yam (pv 1) (yam (pv 0) yae))))))
  (yak (ya2 (yc2 (N':=["duty","day","at"]) (ix:=[none,none,none]) (g:=(yob K 3 (ycc (ybi 0) (ycc (ybi 1) (ycc (ybi 2) yoa))))) (ti:=ylj) (te:=(ybv 2)) rfl (yax (N:=yij) (D:=yab ydw) (by decide +kernel)) (ya8 (yao ypt rfl B.sorted PyProof.Rows.boot_sorted (yam (pv 1) yae))) (fun C s H fp=>(ybl rfl (yah (yai (i:=0) (show (["duty","day","at"]:List Str).Nodup by decide +kernel) rfl (Or.inl rfl)) (yah (yai (i:=1) (show (["duty","day","at"]:List Str).Nodup by decide +kernel) rfl (Or.inl rfl)) (yah (yai (i:=2) (show (["duty","day","at"]:List Str).Nodup by decide +kernel) rfl (Or.inl rfl)) ya4))))) (fun C s H fp=>ycn) (fun C s H fp=>(pv 2)))))),?_⟩
 obtain ⟨xs,ex,exl,exi⟩:=hR.get
 refine⟨_,rfl,a,xs,rfl,SqL.of ex,fun D1 hD1=>⟨fun i m H3=>i+m=xs.length∧Same H H3∧Rows H3 D1 ((ya9 i).map (keyD rs)),⟨xs.length,by omega,yac hD1 _,Rows.nil yaa⟩,?_⟩⟩
 rintro i m H3 ⟨him,sm,R3⟩
 by_cases hi:i<xs.length
 ·refine .inr ⟨⟨xs,xs[i],SqL.of (sm _ _ ex),List.getElem?_eq_getElem hi⟩,?_⟩
  rintro x H' ⟨p,x',rfl,hp,rfl,hx⟩
  have e1:=hx xs (SqL.of (sm _ _ ex))
  obtain ⟨pr,r,rfl,er,hpr⟩:=exi i x' e1
  obtain ⟨d,c,u,rfl⟩:=ync (hok r (List.mem_of_getElem? er))
  have hpr':L2.upd H3 p (.tup [.int (i:Int),.ref pr]) pr=some (.tup ([d,c,u].map V.int)):=yac hp _ _ _ (sm _ _ hpr)
  refine⟨p,_,rfl,SqT.of yaa,rfl,_,_,rfl,_,_,rfl,⟨pr,_,rfl,SqT.of hpr',rfl,_,_,rfl,_,_,rfl,_,_,rfl,rfl,rfl,?_,?_⟩⟩
  ·intro k v e
   match k,e with
   |0,e=>cases e
   |1,e=>cases e
   |2,e=>cases e
   |3,e=>cases e
   |k+4,e=>cases e
  ·refine⟨_,rfl,_,rfl,_,rfl,_,rfl,by show 3≤sizeLine;decide,fun t ht=>?_⟩
   obtain ⟨ys,ey,eyl,_⟩:=(R3.same (yac hp (.tup [.int (i:Int),.ref pr]))).get
   refine⟨ys,yac ht _ _ _ ey,yaq (by rw[eyl,List.length_map,ybt];omega),m-1,by omega,by omega,((sm.trans (yac hp _)).trans (yac ht _)).young hD1,?_⟩
   have e2:keyD rs ((i:Nat):Int)=[-u,d,(i:Int)]:=by
    unfold keyD yad
    rw[yej er];rfl
   rw[yji,List.map_append,List.map_singleton,e2]
   exact(R3.same (yac hp _)).push (r:=[-u,d,(i:Int)]) ey ht
 ·refine .inl ⟨⟨xs,SqL.of (sm _ _ ex),by omega⟩,?_⟩
  have ei:i=rs.length:=by omega
  subst ei
  refine⟨_,rfl,D1,_,3,rfl,R3,by rw[List.length_map,ybt];omega,fun r hr=>?_,by decide,fun l ss H4 hl4 hp4 ho4 s4 R4=>?_⟩
  ·obtain ⟨j,_,rfl⟩:=List.mem_map.mp hr
   rfl
  have lss:ss.length=rs.length:=by rw[hp4.length_eq,List.length_map,ybt]
  have wss:∀r∈ss,∃x y z:Int,r=[x,y,z]:=fun r hr=>by
   obtain ⟨j,_,rfl⟩:=List.mem_map.mp (hp4.mem_iff.mp hr)
   exact⟨_,_,_,rfl⟩
  obtain ⟨zs,ez,ezl,ezi⟩:=R4.get
  refine⟨l,rfl,⟨zs,SqL.of ez⟩,fun D2 hD2=>⟨fun i m H5=>i+m=zs.length∧Same H4 H5∧H5 D2=some (.lst ((ss.take i).map fun r=>V.int (r.getD 2 0))),⟨zs.length,by omega,yac hD2 _,yaa⟩,?_⟩⟩
  rintro i m H5 ⟨him5,s5,h5⟩
  by_cases hi5:i<zs.length
  ·refine .inr ⟨⟨zs,zs[i],SqL.of (s5 _ _ ez),List.getElem?_eq_getElem hi5⟩,?_⟩
   rintro x H' ⟨rfl,hx⟩
   have e1:=hx zs (SqL.of (s5 _ _ ez))
   obtain ⟨pr,r,rfl,er,hpr⟩:=ezi i x e1
   obtain ⟨x1,x2,x3,rfl⟩:=wss r (List.mem_of_getElem? er)
   refine⟨pr,_,rfl,SqT.of (s5 _ _ hpr),rfl,_,_,rfl,_,_,rfl,_,_,rfl,rfl,?_,?_⟩
   ·intro k v e
    match k,e with
    |0,e=>cases e
    |1,e=>cases e
    |2,e=>cases e
    |k+3,e=>cases e
   ·refine⟨_,rfl,_,h5,yaq (by rw[List.length_map,List.length_take];omega),m-1,by omega,by omega,s5.young hD2,?_⟩
    rw[yaa,← ygd er,List.map_append]
    rfl
  ·refine .inl ⟨⟨zs,SqL.of (s5 _ _ ez),by omega⟩,?_⟩
   have ei5:ss.take i=ss:=List.take_of_length_le (by omega)
   rw[ei5] at h5
   refine q D2 (ss.map fun r=>r.getD 2 0) H5 ?_ ((sm.trans s4).trans s5) (ypv (lst:=fun r=>r.getD 2 0) (fun _=>rfl) hp4 ho4) (by rw[List.map_map];exact h5)
   exact(sm.trans s4).free hD2
theorem yqb (G_against_each:Cal P w K mg base CX0 3 "against_each" ybz yd3) (G_dearest:Cal P w K mg base CX0 1 "dearest" yfg (yv6 keyD okD)) (G_free_at:Cal P w K mg base CX0 1 "free_at" yfe ykp) (G_lessened:Cal P w K mg base CX0 1 "lessened" yer yg1) (F:Fun K "best_of" "best_of" yeu f fd):FnOk P w K mg base CX0 4 f fd yfh ykq:=by
 refine F.ok sc_best_of (fun vs H Q E h=>?_) (fun cdv A outer s H vs Q E hr h=>?_)
 ·obtain ⟨a,b,tm,rs,os,rfl,_⟩:=h;rfl
 obtain ⟨a,b,tm,rs,os,rfl,hR,h3,rn,hO,h2,on,q⟩:=h
 refine⟨_,(yaf (yat (i:=3) sc_best_of.nd rfl (Or.inl rfl) (ybb yu8 (yd5 (yam yag yae)) (yao ybm rfl B.len PySem.boot_len (yam (pv 0) yae))))
  (yaf (yat (i:=4) sc_best_of.nd rfl (Or.inl rfl) (yar G_against_each hr rfl ybe (yam (pv 0) (yam (pv 1) (yam (pv 2) yae)))))
  (yaf (yd0 PassesOwn.never rfl (ya8 (yar G_dearest hr rfl ybe (yam (pv 0) yae))) (yai (i:=5) sc_best_of.nd rfl (Or.inl rfl)) (yaf (yc7 (yar G_free_at hr rfl ybe (yam (pv 4) (yam (ya3 ya0 (pv 0) (pv 5) (fun _ _=>rfl)) (yam yag yae)))) (yfu (pv 3) (pv 5) ydr))
   (yak (yat (i:=4) sc_best_of.nd rfl (Or.inl rfl) (yar G_lessened hr rfl ybe (yam (pv 4) (yam (ya3 ybg (ya3 ya0 (pv 0) (pv 5) (fun _ _=>rfl)) yag (fun _ _=>rfl)) (yam (ya3 ya0 (pv 3) (pv 5) (fun _ _=>rfl)) yae))))))))
  (yak (ya2 (pv 3)))))),?_⟩
 obtain ⟨xs,ex,ht⟩:=hR.tups
 have lx:=ht.1
 refine⟨by show 1≤sizeLine;decide,fun z hz=>?_⟩
 have sz:=yac (H:=H) hz (.lst [.int 0])
 refine⟨_,rfl,a,xs,rfl,.inl (SqL.of (sz _ _ ex)),z,(xs.length:Int),_,rfl,rfl,yaa,by omega,by omega,?_,fun l hl=>?_⟩
 ·show 1*(xs.length:Int).toNat≤sizeLine
  exact Nat.le_of_lt (yaq (by omega))
 have s1:=sz.trans (yac hl (.lst (List.replicate (xs.length:Int).toNat [V.int 0]).flatten))
 have hl0:H l=none:=sz.free hl
 have e1:ybd (L2.upd (L2.upd H z (.lst [.int 0])) l (.lst (List.replicate (xs.length:Int).toNat [V.int 0]).flatten)) l (List.replicate rs.length 0):=by
  unfold ybd
  rw[yaa,List.map_replicate,Int.toNat_natCast,lx]
  congr 2
  induction rs.length with
  |zero=>rfl
  |succ k ih=>rw[List.replicate_succ,List.flatten_cons,ih];rfl
 generalize L2.upd (L2.upd H z (.lst [.int 0])) l (.lst (List.replicate (xs.length:Int).toNat [V.int 0]).flatten)=H1 at s1 e1 ⊢
 refine⟨_,rfl,_,rfl,_,rfl,a,b,tm,rs,os,rfl,hR.same s1,h3,rn,hO.same s1,h2,on,fun d ds H2 hd hds s2 S2=>?_⟩
 have ld:ds.length≤31:=Nat.le_trans hds.2.2 rn
 have sn:=ysb ld
 have nd:=yma hds.1
 refine⟨_,rfl,a,rs,rfl,hR.same (s1.trans s2),by omega,h3,fun dl ord H3 hdl s3 hord e3=>?_⟩
 refine⟨dl,rfl,⟨_,SqL.of e3⟩,?_⟩
 have s13:=s2.trans s3
 have hdl1:H1 dl=none:=s2.free hdl
 have nl:l≠dl:=yaj e1 hdl1
 refine ydp (xs:=ord.map V.int) (fun i σ H4=>∃d4 o5,σ=[some (.ref a),some (.ref b),some (.int tm),some (.ref l),some (.ref d4),o5]∧Same H H4∧H4 dl=some (.lst (ord.map V.int))∧SlAt H4 d4 (yau ds) (yav (yau ds) rs (ord.take i) (yan os tm) (List.replicate rs.length 0)).1∧ybd H4 l (yav (yau ds) rs (ord.take i) (yan os tm) (List.replicate rs.length 0)).2) ⟨_,_,rfl,s1.trans s13,e3,S2.same s3,s13 _ _ e1⟩ ?_ ?_ ?_
 ·rintro i σ H4 hi ⟨d4,o5,rfl,sm,e4,_⟩
  exact SqL.of e4
 ·rintro i x σ H4 exi ⟨d4,o5,rfl,sm,e4,S4,I4⟩
  obtain ⟨at',rfl,eat⟩:=ydz exi
  have hat:=uptoN_mem.mp (hord.1.mem_iff.mp (List.mem_of_getElem? eat))
  obtain ⟨k,rfl⟩ : ∃k:Nat,at'=(k:Int):=⟨at'.toNat,by omega⟩
  have hk:k<xs.length:=by omega
  obtain ⟨p,r,ep,er,hp⟩:=ht.at (List.getElem?_eq_getElem hk)
  obtain ⟨dd,cc,uu,rfl⟩:=ync (h3 r (List.mem_of_getElem? er))
  have c0:yad rs 0 (k:Int)=dd:=by unfold yad;rw[yej er];rfl
  have c1:yad rs 1 (k:Int)=cc:=by unfold yad;rw[yej er];rfl
  have eix:atI xs (k:Int)=some (.ref p):=ydy (by rw[List.getElem?_eq_getElem hk,ep])
  have next:yav (yau ds) rs (ord.take (i+1)) (yan os tm) (List.replicate rs.length 0)=(yce (yav (yau ds) rs (ord.take i) (yan os tm) (List.replicate rs.length 0)).1 dd (ycf (yau ds) rs (yav (yau ds) rs (ord.take i) (yan os tm) (List.replicate rs.length 0)).1 (k:Int)),(yav (yau ds) rs (ord.take i) (yan os tm) (List.replicate rs.length 0)).2.set k (ycf (yau ds) rs (yav (yau ds) rs (ord.take i) (yan os tm) (List.replicate rs.length 0)).1 (k:Int))):=by
   rw[yaz eat,yc4]
   show (yce _ (yad rs 0 (k:Int)) _,_)=_
   rw[c0]
   rfl
  rw[next]
  have lc:(yav (yau ds) rs (ord.take i) (yan os tm) (List.replicate rs.length 0)).2.length=rs.length:=by rw[yet,List.length_replicate]
  generalize (yav (yau ds) rs (ord.take i) (yan os tm) (List.replicate rs.length 0)).1=v at *
  generalize (yav (yau ds) rs (ord.take i) (yan os tm) (List.replicate rs.length 0)).2=cs at *
  clear next
  refine⟨_,rfl,_,rfl,_,rfl,a,xs,_,.ref p,rfl,rfl,SqL.of (sm _ _ ex),eix,d4,p,0,dd,cc,uu,yau ds,v,rfl,S4,sn,sm _ _ hp,fun M H5 s5 hM=>?_⟩
  have eM:M=ycf (yau ds) rs v (k:Int):=by
   rw[Int.sub_zero] at hM
   refine hM.uniq ?_
   unfold ycf
   rw[c0,c1]
   exact yfr _ _ _ _
  rw[← eM]
  have I5:ybd H5 l cs:=s5 _ _ I4
  have S5:=S4.same s5
  have ndl:d4≠l:=by
   obtain ⟨o,ho⟩:=S5
   exact ymz ho I5 (by intro z;cases z)
  refine⟨_,rfl,_,rfl,l,_,(k:Int),k,rfl,rfl,I5,by unfold ixN;rw[List.length_map,if_pos (by omega),Int.toNat_natCast,if_pos (by omega)],?_⟩
  have s6:Same H (L2.upd H5 l (.lst ((cs.map V.int).set k (.int M)))):=(sm.trans s5).young hl0
  have S6:SlAt (L2.upd H5 l (.lst ((cs.map V.int).set k (.int M)))) d4 (yau ds) v:=by
   obtain ⟨o,ho⟩:=S5
   exact⟨o,by rw[yal ndl];exact ho⟩
  have I6:ybd (L2.upd H5 l (.lst ((cs.map V.int).set k (.int M)))) l (cs.set k M):=by
   unfold ybd
   rw[yaa,List.map_set]
  have e6:L2.upd H5 l (.lst ((cs.map V.int).set k (.int M))) dl=some (.lst (ord.map V.int)):=by
   rw[yal nl.symm]
   exact s5 _ _ e4
  generalize L2.upd H5 l (.lst ((cs.map V.int).set k (.int M)))=H6 at *
  have eiM:atI ((cs.set k M).map V.int) (k:Int)=some (.int M):=ydy (by rw[List.getElem?_map,List.getElem?_set_self (by omega)];rfl)
  refine⟨_,rfl,_,rfl,_,rfl,a,xs,_,.ref p,rfl,rfl,SqL.of (s6 _ _ ex),eix,p,_,_,.int dd,rfl,rfl,SqT.of (s6 _ _ hp),rfl,_,rfl,_,rfl,l,_,_,.int M,rfl,rfl,SqL.of I6,eiM,d4,dd,M,yau ds,v,rfl,S6,nd,by omega,fun d5 H7 hd5 s7 S7=>?_⟩
  exact⟨d5,_,rfl,s6.trans s7,s7 _ _ e6,S7,s7 _ _ I6⟩
 ·rintro σ H4 ⟨d4,o5,rfl,sm,e4,S4,I4⟩
  rw[List.length_map,List.take_length] at I4
  exact⟨_,rfl,q l _ H4 hl0 ⟨ds,ord,hds,hord,rfl⟩ sm I4⟩
end
end K16
namespace L2
open PySem PySem.Spec PySem.W PyProof.Rows
theorem ysf {K:PySem.W.Frag}{a D:Addr}{xs:List V}{rs:List (List Int)}{g:TG}{te:TE}{σ₀:St}{H1:Hp}{R:Hp→Prop}(gm:List Int→List Int)(hD:H1 D=none)(hx:H1 a=some (.lst xs))(ht:Tups H1 xs rs)(hn:rs.length≤900)
 (step:∀(i:Nat) p r H,rs[i]? = some r→Same H1 H→H p=some (.tup (r.map V.int))→∀(K1:V→Hp→Prop) (K2:Hp→Prop),(∀t,H t=none→K1 (.ref t) (upd H t (.tup ((gm r).map V.int))))→
  g (.ref p) σ₀ H fun σ2 H2=>(∀(k:Nat) v,σ₀[k]? = some (some v)→σ2[k]? = some (some v))∧ylj σ2 H2 fun b H3=>if b=true then te σ2 H3 K1 else K2 H3)
 (fin:∀H,Same H1 H→Rows H D (rs.map gm)→R H) :
 ∃W:Nat→Nat→Hp→Prop,(∃m,W 0 m (upd H1 D (.lst [])))∧∀i m H,W i m H→((Itl K a).stop i H∧R H)∨((Itl K a).go i H∧∀x H',(Itl K a).yld i H x H'→g x σ₀ H' fun σ2 H2=>(∀(k:Nat) v,σ₀[k]? = some (some v)→σ2[k]? = some (some v))∧
  ylj σ2 H2 fun b H3=>if b=true then te σ2 H3 fun y H4=>∃zs,H4 D=some (.lst zs)∧zs.length<sizeLine∧∃m',m' < m∧W (i+1) m' (upd H4 D (.lst (zs++[y]))) else ∃m',m' < m∧W (i+1) m' H3):=by
 have lx:=ht.1
 refine⟨fun i m H=>i+m=xs.length∧Same H1 H∧Rows H D ((rs.take i).map gm),⟨xs.length,by omega,yac hD _,Rows.nil yaa⟩,?_⟩
 rintro i m H ⟨him,s1,R1⟩
 have ex:=s1 _ _ hx
 by_cases hi:i<xs.length
 ·refine .inr ⟨⟨xs,_,SqL.of ex,List.getElem?_eq_getElem hi⟩,?_⟩
  rintro x H' ⟨rfl,hy⟩
  obtain ⟨p,r,rfl,er,hp⟩:=ht.at (hy _ (SqL.of ex))
  refine step i p r H' er s1 (s1 _ _ hp) _ _ fun t htt=>?_
  obtain ⟨ys,ey,eyl,_⟩:=R1.get
  refine⟨ys,by rw[yal (yaj ey htt)];exact ey,yaq (by rw[eyl,List.length_map,List.length_take];omega),m-1,by omega,by omega,(s1.trans (yac htt _)).young hD,?_⟩
  rw[← ygd er,List.map_append]
  exact R1.push (r:=gm r) ey htt
 ·have e:rs.take i=rs:=List.take_of_length_le (by omega)
  rw[e] at R1
  exact .inl ⟨⟨xs,SqL.of ex,by omega⟩,fin H s1 R1⟩
def ywp (h:Int→Int)(r:List Int):List Int:=[r.getD 0 0,r.getD 1 0,h (r.getD 2 0)]
theorem BestIs.same {rs os:List (List Int)}{tm:Int}{cs cs':List Int}(hb:BestIs rs os tm cs)(hb':BestIs rs os tm cs'):cs'=cs:=
 (hb.uniq hb' rfl (fun _=>rfl) (fun _=>rfl) fun _ _ _ _ _ _=>Iff.rfl).symm
def yi4 (mg:Str→Option Value) (base:Heap):Prop:=∃bm ob,mg "__builtins__" = some (.ref bm)∧bm≠builtinsNs∧base.get? bm=some ob∧ob.cls = .type "module" ∧ ob.dict=some builtinsNs∧ob.data = .plain
def ydj (H:Hp)(a c:Addr):Hp:=fun b=>if b=a∨b=c then none else H b
theorem yhd {H:Hp}{a c b:Addr}(h:H b=none):ydj H a c b=none:=by
 unfold ydj
 split
 ·rfl
 ·exact h
theorem ymd {H:Hp}{a c b:Addr}{o:HO}(h:ydj H a c b=some o):b≠a∧b≠c∧H b=some o:=by
 unfold ydj at h
 split at h
 ·cases h
 ·rename_i n
  exact⟨fun z=>n (.inl z),fun z=>n (.inr z),h⟩
theorem yca {H:Hp}{a c b:Addr}(h1:b≠a)(h2:b≠c):ydj H a c b=H b:=by
 unfold ydj
 rw[if_neg (fun z=>z.elim h1 h2)]
theorem ysg {H:Hp}{a c:Addr}:ydj H a c a=none:=by unfold ydj;rw[if_pos (.inl rfl)]
theorem ysh {H:Hp}{a c:Addr}:ydj H a c c=none:=by unfold ydj;rw[if_pos (.inr rfl)]
def yyd (q:Str)(o:Obj):Prop:=∃vs t,o.data = .fields vs∧vs[1]? = some (.str q t)
section
variable {X:Cx}{pins:List (Addr×Obj)}{σ:St}{H:Hp}{s:Shared}
theorem Inv.fsFree (I:Inv X pins σ H s){b:Addr}(hb:b∈X.fs):H b=none:=by
 obtain ⟨_,o,ho,_⟩:=I.ok.funs.mem hb
 exact I.base.free b o ho (I.ok.frf b hb) fun z=>I.ok.exfs b z hb
theorem Inv.notOld (I:Inv X pins σ H s)(hex:X.ex=[]){b:Addr}{u:HO}(e:H b=some u):∀o,X.s₀.heap.get? b=some o→X.H₀ b≠none:=fun o ho n=>by
 have:=I.base.free b o ho n (by rw[hex];simp)
 rw[e] at this;cases this
theorem yuh {A:Around}{E:Value→Shared→Prop}{q:Str}{params:Arguments}{body:Expr}{scope:Scope}{pos:Pos}{c P:Addr}{clos:List (Str×Addr)}{Q:Value→Shared→Prop}(I:Inv X pins σ H s)(hex:X.ex=[])
 (hP:H P=some (.cod q pos)) (hcode:X.env.code = .ref c) (C:codeHdIn X.K c P=true) (B:yi4 X.mg X.base) (hcl:closureFor scope X.env=pure clos) (hdef:defaultsOf params X.env=([],[])) (hq:X.env.qual ++ "<lambda>" = q)
 (h:∀f c' ctv co s',Inv X ((f,kla_obj "<lambda>" q params body scope clos ((X.mg "__name__").getD .none) c' ctv)::(P,tabObj #[rawInt pos.line,rawInt pos.col,.ref c'])::(c',co)::pins) σ (ydj H P c') s'→yyd q co→P≠c'→H f=none→(H c'=none∨H c'=some (.own P)) →
  (∀o,X.s₀.heap.get? c' = some o→X.H₀ c'≠none)→(∀p∈X.pn++pins,p.1≠P∧p.1≠c')→Q (.ref f) s') :
 wpAny (model X.prog X.w) A (eval (.Lambda params body scope pos) X.env) Q E s:=by
 have Cd:CodeHd s.heap c P:=codeHd_of_K I.kIn C
 have hgs:=I.mod.glob.keeps I.bk
 have nP:∀b,H b=none→b≠P:=fun b n z=>by rw[z,hP] at n;cases n
 obtain ⟨bm,ob,b1,b2,b3,b4,b5,b6⟩:=B
 have b3':=I.bs _ _ b3
 have hgP:mainGlobals≠P:=by
  obtain ⟨o,es,ep,e,_⟩:=I.mod.glob
  exact nP _ (I.bs _ _ e).2
 have hbG:bm≠mainGlobals:=fun z=>by
  obtain ⟨o,es,ep,e,hd,_⟩:=I.mod.glob
  rw[z,e] at b3;cases b3;rw[hd] at b6;cases b6
 have BA:s.heap.BuiltinsAt X.mg P:=⟨bm,ob,b1,b2,hbG,nP _ b3'.2,b3'.1,b4,b5,b6⟩
 have Lne:X.env.locals≠P:=nP _ I.free
 refine kla_eval hdef ?_
 rw[hq]
 have fin:∀(h':Heap) (tk:Nat) (f c':Addr) (ctv:Value),Heap.ExtBut P s.heap h'→s.heap.objs.size≤h'.objs.size→f=h'.objs.size→h'.CodeRec (.ref c') q→h'.get? P=some (tabObj #[rawInt pos.line,rawInt pos.col,.ref c'])→P≠c'→
  (H c'=some (.own P)∨s.heap.objs.size≤c')→Q (.ref f) { s with heap:=h'.push (kla_obj "<lambda>" q params body scope clos ((X.mg "__name__").getD .none) c' ctv),toks:=tk }:=by
  intro h' tk f c' ctv hx hsz ef hrec hT hne hc
  subst ef
  have hcn:H c'=none∨H c'=some (.own P):=by
   rcases hc with z|z
   ·exact .inr z
   ·exact .inl (I.hok.fresh z)
  have kp:∀b o,b≠P→s.heap.get? b=some o→(h'.push (kla_obj "<lambda>" q params body scope clos ((X.mg "__name__").getD .none) c' ctv)).get? b=some o:=fun b o n e=>Heap.get?_push_of_some _ (hx b o n e)
  have ncc:∀b u,H b=some u→u≠.own P→b≠c':=fun b u e n z=>by
   rw[z] at e
   rcases hcn with y|y
   ·rw[y] at e;cases e
   ·rw[y] at e;cases e;exact n rfl
  have npp:∀b u,H b=some u→u≠.cod q pos→b≠P:=fun b u e n z=>by
   rw[z,hP] at e;cases e;exact n rfl
  obtain ⟨c₂,co,vs,t,e2,hoc,hd,hv⟩:=hrec
  cases e2
  have J:Inv X pins σ (ydj H P c') { s with heap:=h'.push (kla_obj "<lambda>" q params body scope clos ((X.mg "__name__").getD .none) c' ctv),toks:=tk }:=by
   refine I.step (g':=s.gens) (d':=s.drawn) (ch:=[]) (fun _ z=>nomatch z) (fun b o _ _ _ e n=>kp b o (nP b n) e) (fun b o _ _ _ e n=>⟨o.slots,kp b o (nP b n) e⟩) (fun b o _ _ n=>yhd n) (fun b o _ e=>?_)
    (fun b xs e=>by rw[yca (npp b _ e (by intro z;cases z)) (ncc b _ e (by intro z;cases z))];exact e) (fun b o u e=>by rw[yca (npp b _ e (by intro z;cases z)) (ncc b _ e (by intro z;cases z))];exact e)
    (fun b ps e=>⟨#[],by rw[yca (npp b _ e (by intro z;cases z)) (ncc b _ e (by intro z;cases z)),e];simp⟩) (fun m hm=>?_) (fun b u e=>?_) I.bare
   ·by_cases hb:b=P
    ·exact⟨_,by rw[hb];exact Heap.get?_push_of_some _ hT⟩
    ·exact⟨o,kp b o hb e⟩
   ·obtain ⟨o,es,ep,ho,r⟩:=hm
    exact⟨o,es,ep,kp _ o Lne ho,r⟩
   ·obtain ⟨n1,n2,e'⟩:=ymd e
    refine(I.hok b u e').stay (fun d v hd q=>kp d v ?_ q) (fun d z=>?_) fun d xs z=>?_
    ·rcases hd with z|z
     ·rw[z];exact n1
     ·exact npp d _ z (by intro y;cases y)
    ·rw[yca (npp d _ z (by intro y;cases y)) (ncc d _ z (by intro y;cases y;exact n1 rfl))];exact z
    ·rw[yca (npp d _ z (by intro y;cases y)) (ncc d _ z (by intro y;cases y))];exact z
  have hf:H h'.objs.size=none:=I.hok.fresh hsz
  have old:∀b u,H b=some u→b≠X.env.locals∧b ∉ X.fs:=fun b u e=>⟨fun z=>(by rw[z,I.free] at e;cases e),fun z=>(by rw[I.fsFree z] at e;cases e)⟩
  have new:∀b,s.heap.objs.size≤b→b≠X.env.locals∧b ∉ X.fs:=fun b hb=>⟨Nat.ne_of_gt (Nat.lt_of_lt_of_le I.lt hb),I.nofs hb⟩
  have hc':c'≠X.env.locals∧c' ∉ X.fs:=by
   rcases hc with z|z
   ·exact old _ _ z
   ·exact new _ z
  refine h h'.objs.size c' ctv co _ (J.pins_of fun p hp=>?_) ⟨vs,t,hd,hv⟩ hne hf hcn (fun o ho=>?_) fun p hp=>?_
  ·rcases List.mem_cons.mp hp with rfl|hp
   ·exact⟨Heap.get?_push_size _ rfl,yhd hf,(new _ hsz).1,(new _ hsz).2,fun v z=>(by cases z)⟩
   ·rcases List.mem_cons.mp hp with rfl|hp
    ·exact⟨Heap.get?_push_of_some _ hT,ysg,(old _ _ hP).1,(old _ _ hP).2,fun v z=>(by cases z)⟩
    ·rcases List.mem_cons.mp hp with rfl|hp
     ·exact⟨Heap.get?_push_of_some _ hoc,ysh,hc'.1,hc'.2,fun v z=>(by rw[hd] at z;cases z)⟩
     ·exact J.pin p (List.mem_append_right _ hp)
  ·rcases hc with z|z
   ·exact I.notOld hex z o ho
   ·exact absurd (Nat.lt_of_lt_of_le (Heap.lt_size ho) (Nat.le_trans I.sz z)) (Nat.lt_irrefl _)
  ·obtain ⟨e,n,_⟩:=I.pin p hp
   refine⟨nP _ n,fun z=>?_⟩
   rcases hc with y|y
   ·rw[z,y] at n;cases n
   ·exact absurd (Nat.lt_of_lt_of_le (Heap.lt_size e) (z ▸ y)) (Nat.lt_irrefl _)
 rcases (show ObjOk X.prog X.w H s.heap P (.cod q pos) from I.hok P _ hP) with e|⟨c',e,hw,hrec⟩
 ·refine kla_makeFunction (mg:=X.mg) hcl I.ok.glob hgs hcode Cd e trivial rfl hgP BA fun c' ctv h' tk hx hge hlt hrec htb=>?_
  refine fin h' tk _ c' ctv hx (Nat.le_of_lt (Nat.lt_of_le_of_lt hge hlt)) rfl hrec (by rw[htb];simp) ?_ (.inr hge)
  intro z
  rw[← z] at hge
  exact absurd (Nat.lt_of_lt_of_le (Heap.lt_size e) hge) (Nat.lt_irrefl _)
 ·refine kla_makeFunctionHit (mg:=X.mg) hcl I.ok.glob hgs hcode Cd e (by simp [TriplesOk,rawInt]) (cv:=.ref c') (by simp [codeAmong,rawInt]) BA fun ctv h' tk hk hsz=>?_
  refine fin h' tk _ c' ctv (fun b o _ e=>hk b o e) hsz rfl (hrec.keeps hk) (hk _ _ e) ?_ (.inl hw)
  intro z
  rw[← z,hP] at hw;cases hw
theorem Inv.retrack {P c' f:Addr}{fo co:Obj}{q:Str}{pos:Pos}(I:Inv X ((f,fo)::(P,tabObj #[rawInt pos.line,rawInt pos.col,.ref c'])::(c',co)::pins) σ H s)(hq:yyd q co)(hne:P≠c')
 (nP:∀o,X.s₀.heap.get? P=some o→X.H₀ P≠none) (nc:∀o,X.s₀.heap.get? c' = some o→X.H₀ c'≠none) (hp:∀p∈X.pn++pins,p.1≠P∧p.1≠c'):Inv X pins σ (upd (upd H P (.cod q pos)) c' (.own P)) s:=by
 obtain ⟨eP,hP,lP,_,dP⟩:=I.pin (P,tabObj #[rawInt pos.line,rawInt pos.col,.ref c']) (List.mem_append_right _ (.tail _ (.head _)))
 obtain ⟨ec,hc,lc,_,dc⟩:=I.pin (c',co) (List.mem_append_right _ (.tail _ (.tail _ (.head _))))
 dsimp only at eP hP lP dP ec hc lc dc
 have away:∀b,b≠P→b≠c'→upd (upd H P (.cod q pos)) c' (.own P) b=H b:=fun b n1 n2=>by rw[yal n2,yal n1]
 have some_away:∀b u,H b=some u→b≠P∧b≠c':=fun b u e=>⟨fun z=>(by rw[z,hP] at e;cases e),fun z=>(by rw[z,hc] at e;cases e)⟩
 have keepS:∀b u,H b=some u→upd (upd H P (.cod q pos)) c' (.own P) b=some u:=fun b u e=>by
  obtain ⟨n1,n2⟩:=some_away b u e
  rw[away b n1 n2];exact e
 have atP:upd (upd H P (.cod q pos)) c' (.own P) P=some (.cod q pos):=by rw[yal hne,yaa]
 have atc:upd (upd H P (.cod q pos)) c' (.own P) c'=some (.own P):=yaa
 refine⟨I.ok,I.os,I.bare,⟨I.base.keep,I.base.slot,fun b o e n hx=>?_,I.base.there,fun b xs e=>keepS b _ (I.base.tups b xs e),fun b o xs e=>keepS b _ (I.base.frzs b o xs e),fun b ps e=>?_⟩,I.loc,I.cell,?_,fun x c e=>?_,fun p hp'=>?_,fun b u e=>?_,I.len⟩
 ·rw[away b (fun z=>nP o (z ▸ e) (z ▸ n)) (fun z=>nc o (z ▸ e) (z ▸ n))]
  exact I.base.free b o e n hx
 ·obtain ⟨more,z⟩:=I.base.tbls b ps e
  exact⟨more,keepS b _ z⟩
 ·rw[away _ (Ne.symm lP) (Ne.symm lc)];exact I.free
 ·obtain ⟨v,o,ho,hd⟩:=I.cell x c e
  rw[away c (fun z=>by rw[z,eP] at ho;cases ho;exact dP v hd) (fun z=>by rw[z,ec] at ho;cases ho;exact dc v hd)]
  exact I.freeC x c e
 ·obtain ⟨z1,z2⟩:=hp p hp'
  have hp2:p∈X.pn++((f,fo)::(P,tabObj #[rawInt pos.line,rawInt pos.col,.ref c'])::(c',co)::pins):=by
   rcases List.mem_append.mp hp' with y|y
   ·exact List.mem_append_left _ y
   ·exact List.mem_append_right _ (.tail _ (.tail _ (.tail _ y)))
  obtain ⟨e,n,r⟩:=I.pin p hp2
  exact⟨e,by rw[away _ z1 z2];exact n,r⟩
 ·by_cases hb:b=c'
  ·subst hb
   rw[atc] at e;cases e
   exact⟨co,ec⟩
  ·by_cases hb2:b=P
   ·subst hb2
    rw[atP] at e;cases e
    obtain ⟨vs,t,d1,d2⟩:=hq
    exact .inr ⟨c',eP,atc,c',co,vs,t,rfl,ec,d1,d2⟩
   ·rw[away b hb2 hb] at e
    exact(I.hok b u e).stay (fun _ _ _ q=>q) (fun d z=>keepS d _ z) fun d xs z=>keepS d _ z
end
def ywq (X:Cx)(A:Around)(N':List Str)(q:Str)(scope:Scope)(f c':Addr)(s:Shared)(H:Hp):Cx where
 prog:=X.prog
 w:=X.w
 K:=X.K
 mg:=X.mg
 base:=X.base
 A:=A.deeper (envX q scope s.heap.objs.size f (.ref c') (ygu X.env scope.names []))
 N:=N'
 s₀:=s
 H₀:=H
 env:=envX q scope s.heap.objs.size f (.ref c') (ygu X.env scope.names [])
 outer:=X.stack
 stack:=envX q scope s.heap.objs.size f (.ref c') (ygu X.env scope.names [])::X.stack
 ex:=[]
 fn:=fun _=>false
 calm:=true
 pn:=[]
 xe:=fun _ _=>False
structure LamScope (X:Cx) (N':List Str) (ix:List (Option Nat)) (p:Str) (scope:Scope):Prop where
 kind:scope.kind = .function
 co:scope.isCoroutine=false
 gen:scope.isGenerator=false
 nocell:∀y∈scope.names,y.2≠.cell
 par:N'[0]? = some p
 loc:scope.names.lookup p=some .local
 len:ix.length=N'.length
 pos:0<N'.length
 free:∀y∈scope.names,y.2 = .free→X.env.kindOf y.1=some .cell
 out:∀(k j:Nat) (x:Str),N'[k]? = some x→ix[k]? = some (some j)→X.N[j]? = some x∧(x,NameKind.free)∈scope.names∧scope.names.lookup x=some .free
def yui (ix:List (Option Nat))(σ:St)(v:V):St:=(ybq ix σ).set 0 (some v)
section
variable {X:Cx}{pins:List (Addr×Obj)}{σ:St}{H:Hp}{s:Shared}{N':List Str}{ix:List (Option Nat)}{p q:Str}{scope:Scope}
theorem yfi (I:Inv X pins σ H s)(S:LamScope X N' ix p scope){x:Str}{c:Addr}(h:(ygu X.env scope.names []).lookup x=some c):X.env.cells.lookup x=some c:=by
 rcases yj3 _ _ (PySem.mem_of_lookup h) with z|⟨z1,z2⟩
 ·cases z
 ·obtain ⟨c',hc⟩:=I.ok.has x (.inl (S.free _ z1 rfl))
  dsimp only at z2
  rw[hc] at z2
  rw[hc,z2]
  rfl
theorem ywr {A:Around}{f c':Addr}{h':Heap}{tk:Nat}{x:V}{u:Value}(I:Inv X pins σ H s)(hcalm:A.handled=none)(hfr:A.frames=some X.stack)(S:LamScope X N' ix p scope)(r:RelV x u)
 (hns:h'.Ns s.heap.objs.size (fun y=>([(p,u)]:List (Str×Value)).reverse.lookup y)) (hk:∀b o,s.heap.get? b=some o→h'.get? b=some o):Inv (ywq X A N' q scope f c' s H) [] (yui ix σ x) H { s with heap:=h',toks:=tk }:=by
 have noL:H s.heap.objs.size=none:=I.hok.fresh (Nat.le_refl _)
 refine⟨⟨I.ok.mod,S.kind,rfl,rfl,Nat.le_refl _,fun x y c h1 h2=>I.ok.inj x y c (yfi I S h1) (yfi I S h2),fun x hx=>?_,(fun x c z=>nomatch z),fun _=>hcalm,Around.frames_deeper hfr,.inr ⟨rfl,rfl⟩,fun b hb=>absurd (show b∈([]:List Addr) from hb) (by simp),I.bs,Nat.le_trans I.ok.bsz I.sz,fun b o q hb=>absurd (show b∈([]:List Addr) from hb) (by simp),fun b hb=>absurd (show b∈([]:List Addr) from hb) (by simp),I.stack,I.stkFree⟩,
  rfl,I.bare,Un.kept hk,⟨_,hns,fun k y v h1 h2 h3=>?_⟩,fun x c h=>?_,noL,fun x c h=>I.freeC x c (yfi I S h),(fun p hp=>absurd (show p∈([]:List (Addr×Obj)) from hp) (by simp)),I.hok.kept hk,?_⟩
 ·have hx':scope.names.lookup x=some .cell∨scope.names.lookup x=some .free:=hx
  rcases hx' with z|z
  ·exact absurd rfl (S.nocell _ (PySem.mem_of_lookup z))
  ·exact yc1 (yga (env:=X.env) scope.names [] (PySem.mem_of_lookup z))
 ·have e2:((ybq ix σ).set 0 (some x))[k]? = some (some v):=h2
  have h1':N'[k]? = some y:=h1
  by_cases hk0:k=0
  ·subst hk0
   rw[S.par] at h1'
   cases h1'
   have hl:0<(ybq ix σ).length:=by unfold ybq;rw[List.length_map,S.len];exact S.pos
   rw[List.getElem?_set_self hl] at e2
   cases e2
   refine⟨u,r,.inl ⟨S.loc,?_⟩⟩
   show ([(p,u)]:List (Str×Value)).lookup p=some u
   rw[List.lookup_cons,show (p == p)=true from by simp]
  ·rw[List.getElem?_set_ne (fun z=>hk0 z.symm)] at e2
   unfold ybq at e2
   rw[List.getElem?_map] at e2
   cases e3:ix[k]? with
   |none=>rw[e3] at e2;cases e2
   |some o=>
    rw[e3] at e2
    cases o with
    |none=>cases e2
    |some j=>
     obtain ⟨n1,n2,n3⟩:=S.out k j y h1' e3
     have e4:σ[j]? = some (some v):=by
      have:(σ[j]?).join=some v:=Option.some.inj e2
      cases e5:σ[j]? with
      |none=>rw[e5] at this;cases this
      |some w=>rw[e5] at this;exact congrArg some this
     have kc:=S.free _ n2 rfl
     obtain ⟨m,hn,hl⟩:=I.loc
     obtain ⟨u',r',l⟩:=hl j y v n1 e4 (.inr (.inl kc))
     refine⟨u',r',?_⟩
     rcases l with ⟨z,_⟩ | ⟨_,c,hc,hcell⟩
     ·dsimp only at kc
      rw[kc] at z;cases z
     ·obtain ⟨c2,hc2⟩:=yc1 (yga (env:=X.env) scope.names [] n2)
      have ec:=yfi I S hc2
      rw[hc] at ec
      cases ec
      exact .inr ⟨.inr n3,c,hc2,hcell.keeps hk⟩
 ·obtain ⟨v,z⟩:=I.cell x c (yfi I S h)
  exact⟨v,z.keeps hk⟩
 ·unfold yui ybq
  rw[List.length_set,List.length_map]
  exact S.len
theorem yuj {A:Around}{f c':Addr}{params:Arguments}{body:Expr}{pm ctv:Value}{x:V}{u:Value}{tb:TE}{Q:VK}(I:Inv X pins σ H s)(hcalm:A.handled=none)(hfr:A.frames=some X.stack)(hdp:A.depth<recursionLimit)(S:LamScope X N' ix p scope)
 (hf:s.heap.get? f=some (kla_obj "<lambda>" q params body scope (ygu X.env scope.names []) pm c' ctv)) (hc:s.heap.CodeRec (.ref c') q)
 (hb:bindArgs (kla_fn "<lambda>" q params body scope (ygu X.env scope.names []) pm (.ref c') ctv) ⟨[u],[]⟩=pure [(p,u)])
 (he:PE (ywq X A N' q scope f c' s H) body tb) (r:RelV x u) (h:tb (yui ix σ x) H Q):wpAny (model X.prog X.w) A (call (.ref f) [u]) (EP X pins σ Q) (fun _ _=>False) s:=by
 refine wpAny_call (codeAny_mono (R:=fun r s'=>∃u,r = .ok (.ret u)∧EP X pins σ Q u s') ?_ fun r s' hq=>?_)
 ·refine kla_callFunE hdp hf rfl S.co S.gen rfl hc ?_
  rw[hb]
  refine zwp0 (wpAny_newFunctionEnv S.nocell (fun y hy=>?_) (fun h₁ hns hsb=>⟨I.nolimit.fresh _ hsb,?_⟩) S.kind)
  ·obtain rfl:y=(p,u):=by simpa using hy
   exact S.loc
  show codeAny _ _ (.expr body (envX q scope s.heap.objs.size f (.ref c') (ygu X.env scope.names []))) _ _
  have hk₁:∀b o,s.heap.get? b=some o→h₁.get? b=some o:=fun b o e=>hsb.extBut b o (Nat.ne_of_lt (Heap.lt_size e)) (Heap.get?_push_of_some _ e)
  have J:=ywr (q:=q) (A:=A) (f:=f) (c':=c') (tk:=s.toks+([(p,u)]:List (Str×Value)).length) I hcalm hfr S r hns hk₁
  refine kla_codeExpr (wpAny_mono (he [] _ _ H Q J h) (fun v s' hv=>?_) fun _ _ z=>z.elim)
  obtain ⟨v',H',J',rv,q'⟩:=hv
  exact⟨v,rfl,I.after ⟨v',H',J'.os,J'.bare,J'.base,J'.hok,rv,q'⟩⟩
 ·obtain ⟨u',rfl,z⟩:=hq
  exact z
end
section
variable {X:Cx}{pins:List (Addr×Obj)}{σ:St}{H:Hp}{s:Shared}
theorem Inv.turn1 {t':Nat}{it:Addr}{o o':Obj}{h':Heap}(I:Inv X ((it,o)::pins) σ H s)(hs:Heap.SameBut it s.heap h')(ho:h'.get? it=some o')(hd:∀v,o'.data≠.cell v)(hge:X.s₀.heap.objs.size≤it)(hne:∀p∈X.pn++pins,p.1≠it) :
 Inv X ((it,o')::pins) σ H { s with heap:=h',toks:=t' }:=by
 obtain ⟨e,n,l,fs,d⟩:=I.pin (it,o) (List.mem_append_right _ (.head _))
 dsimp only at e n l fs d
 have I0:Inv X pins σ H s:=I.pins_of fun p hp=>I.pin p (List.mem_append_right _ (.tail _ hp))
 have J:=I0.turned (t':=t') (it:=it) (h':=h') (fun b u nb eb=>(hs.2 b nb).trans eb) n l (.inr hge) (fun x c hc z=>by
  obtain ⟨v,oc,hoc,hdc⟩:=I.cell x c hc
  rw[z,e] at hoc
  cases hoc
  exact d v hdc) hne
 refine J.pins_of fun p hp=>?_
 rcases List.mem_cons.mp hp with rfl|hp
 ·exact⟨ho,n,l,fs,hd⟩
 ·exact J.pin p (List.mem_append_right _ hp)
theorem Inv.track1 {it:Addr}{ob:Obj}{o:HO}(I:Inv X ((it,ob)::pins) σ H s)(hge:X.s₀.heap.objs.size≤it)(hne:∀p∈X.pn++pins,p.1≠it)(ok:ObjOk X.prog X.w (upd H it o) s.heap it o):Inv X pins σ (upd H it o) s:=by
 obtain ⟨e,n,l,fs,d⟩:=I.pin (it,ob) (List.mem_append_right _ (.head _))
 dsimp only at e n l fs d
 have I0:Inv X pins σ H s:=I.pins_of fun p hp=>I.pin p (List.mem_append_right _ (.tail _ hp))
 have ne:∀b u,H b=some u→b≠it:=fun b u q z=>by rw[z,n] at q;cases q
 refine I0.step (g':=s.gens) (d':=s.drawn) (t':=s.toks) (h':=s.heap) (ch:=[it]) (fun b hb=>?_) (fun b o _ _ _ e _=>e) (fun b o _ _ _ e _=>⟨o.slots,e⟩) (fun b u hb _ nn=>?_) (fun b o _ e=>⟨o,e⟩) (fun b xs q=>by rw[yal (ne b _ q)];exact q) (fun b u xs q=>by rw[yal (ne b _ q)];exact q)
  (fun b ps q=>⟨#[],by rw[yal (ne b _ q),q];simp⟩) (fun m hm=>hm) (fun b u q=>?_) I.bare
 ·obtain rfl:b=it:=by simpa using hb
  refine⟨.inr hge,l,fun x c hc z=>?_,hne⟩
  obtain ⟨v,oc,hoc,hdc⟩:=I.cell x c hc
  rw[z,e] at hoc
  cases hoc
  exact d v hdc
 ·rw[yal fun z=>hb (by rw[z];exact List.mem_singleton.mpr rfl)];exact nn
 ·by_cases hb:b=it
  ·subst hb
   rw[yaa] at q;cases q
   exact ok
  ·rw[yal hb] at q
   exact(I.hok b u q).stay (fun _ _ _ z=>z) (fun c z=>by rw[yal (ne c _ z)];exact z) fun c xs z=>by rw[yal (ne c _ z)];exact z
def yye (H:Hp)(bs:List Addr)(ns:List Int)(key:Int→List Int):Prop:=∀(j:Nat) b n,bs[j]? = some b→ns[j]? = some n→H b=some (.tup ((key n).map V.int))
theorem yqc {A:Around}{E:Value→Shared→Prop}{l f:Addr}{ns:List Int}{key:Int→List Int}{wd:Nat}{Q:Value→Shared→Prop}(I:Inv X pins σ H s)(hl:SqL X.K H l (ns.map V.int))(h64:ns.length<64)(hw:∀n∈ns,(key n).length=wd)(hw0:0<wd)
 (hcall:∀n∈ns,∀pins' H2 s2 u,(∀p∈pins,p∈pins')→Inv X pins' σ H2 s2→Same H H2→RelV (.int n) u→wpAny (model X.prog X.w) A.in1.in1 (call (.ref f) [u]) (EP X pins' σ fun y H3=>∃b,y = .ref b∧Same H2 H3∧H3 b=some (.tup ((key n).map V.int))) (fun _ _=>False) s2)
 (h:∀(D:Addr) (ms:List Int) H3 s3,H D=none→ms.Perm ns→ms.Pairwise (fun a b=>ygq (key b) (key a)=false)→Same H H3→H3 D=some (.lst (ms.map V.int))→Inv X pins σ H3 s3→Q (.ref D) s3) :
 wpAny (model X.prog X.w) A (call (.builtin "sorted") [.ref l] [(Str.ofString "key",.ref f)]) Q E s:=by
 obtain ⟨its,rv,pl,hz⟩:=I.list hl
 have ia:=yf1 rv
 have hlen:its.length=ns.length:=IntsAre.length ia
 have hl':=pl.isList
 refine call_function_entry_kw kind_sorted plain_sorted entry_sorted (ksk_s1 _ _) ?_
 unfold Builtin.«sorted»
 refine zwb0 (m:=checkCount "sorted" 1 1 _) (zwp0 ?_)
 refine zwb0 (collect_list hl' ?_ (by rw[sizeLine_eq];omega))
 refine zwb0 (wpAny_newList ?_ (by rw[sizeLine_eq];omega))
 have hsz:((s.heap.push (seqObj "list" #[] 0)).update s.heap.objs.size (Obj.mapSeq (· ++ its.toArray))).objs.size=s.heap.objs.size+1:=by
  rw[Heap.size_update,size_push']
 have hoL:(((s.heap.push (seqObj "list" #[] 0)).update s.heap.objs.size (Obj.mapSeq (· ++ its.toArray))).push (seqObj "list" its.toArray 0)).get? (s.heap.objs.size+1)=some (seqObj "list" its.toArray 0):=by
  rw[← hsz];exact Heap.get?_push_size _ rfl
 have keep:∀b o,s.heap.get? b=some o→(((s.heap.push (seqObj "list" #[] 0)).update s.heap.objs.size (Obj.mapSeq (· ++ its.toArray))).push (seqObj "list" its.toArray 0)).get? b=some o:=fun b o q=>by
  have hlt:b<s.heap.objs.size:=Heap.lt_size q
  rw[Heap.get?_push_ne _ _ _ (by rw[hsz];exact Nat.ne_of_lt (Nat.lt_succ_of_lt hlt)),Heap.get?_update_ne _ _ _ _ (Nat.ne_of_lt hlt),Heap.get?_push_ne _ _ _ (Nat.ne_of_lt hlt)]
  exact q
 have hsz1:(((s.heap.push (seqObj "list" #[] 0)).update s.heap.objs.size (Obj.mapSeq (· ++ its.toArray))).push (seqObj "list" its.toArray 0)).objs.size=s.heap.objs.size+2:=by rw[size_push',hsz]
 show wpAny _ _ _ _ _ { s with heap:=((s.heap.push (seqObj "list" #[] 0)).update s.heap.objs.size (Obj.mapSeq (· ++ its.toArray))).push (seqObj "list" its.toArray 0) }
 rw[hsz]
 generalize ((s.heap.push (seqObj "list" #[] 0)).update s.heap.objs.size (Obj.mapSeq (· ++ its.toArray))).push (seqObj "list" its.toArray 0)=h1 at hoL keep hsz1 ⊢
 refine zwb0 (wpAny_holding (wpAny_call_entry_kw slot_list_sort ⟨_,hoL,rfl⟩ entry_list_sort ?body (ksk_l1 _ _)))
 case body=>
 show wpAny (model X.prog X.w) A.in1.in1 (Builtin.«list.sort» ⟨[.ref (s.heap.objs.size+1)],[(Str.ofString "key",.ref f)]⟩) _ _ _
 rw[ksk_t1]
 obtain ⟨D,eD⟩ : ∃D,s.heap.objs.size+1=D:=⟨_,rfl⟩
 rw[eD] at hoL ⊢
 have hD1:D<h1.objs.size:=by omega
 obtain ⟨e1,ho1⟩ : ∃e1,(h1.update D (Obj.mapSeq fun _=>(#[]:Array Value))).get? D=some (seqObj "list" #[] e1):=⟨_,get?_update_seq hoL fun _=>#[]⟩
 unfold ksk_tree
 refine zwb0 (listItems_at hoL rfl ?_)
 refine zwb0 (listUpdate_at hoL rfl ?_ (by rw[List.size_toArray,sizeLine_eq];omega) (Nat.zero_le _))
 refine zwb0 (seqEpoch_at ho1 rfl ?_)
 refine zwb0 (wpAny_newTuple ?_ (by show its.length≤_;rw[sizeLine_eq];omega))
 refine zwb0 (wpAny_newList ?_ (Nat.zero_le _))
 refine wpAny_holding ?_
 have hkS:((h1.update D (Obj.mapSeq fun _=>(#[]:Array Value))).push (seqObj "tuple" its.toArray 0)).objs.size=s.heap.objs.size+3:=by rw[size_push',Heap.size_update,hsz1]
 have keep2:∀b o,s.heap.get? b=some o→(((h1.update D (Obj.mapSeq fun _=>(#[]:Array Value))).push (seqObj "tuple" its.toArray 0)).push (seqObj "list" #[] 0)).get? b=some o:=fun b o q=>by
  have hlt:b<s.heap.objs.size:=Heap.lt_size q
  refine Heap.get?_push_of_some _ (Heap.get?_push_of_some _ ?_)
  rw[Heap.get?_update_ne _ _ _ _ (Nat.ne_of_lt (Nat.lt_trans hlt (by omega)))]
  exact keep b o q
 have ho2:(((h1.update D (Obj.mapSeq fun _=>(#[]:Array Value))).push (seqObj "tuple" its.toArray 0)).push (seqObj "list" #[] 0)).get? D=some (seqObj "list" #[] e1):=Heap.get?_push_of_some _ (Heap.get?_push_of_some _ ho1)
 have hoS:(((h1.update D (Obj.mapSeq fun _=>(#[]:Array Value))).push (seqObj "tuple" its.toArray 0)).push (seqObj "list" #[] 0)).get? (s.heap.objs.size+3)=some (seqObj "list" #[] 0):=by
  rw[← hkS];exact Heap.get?_push_size _ rfl
 show wpAny (model X.prog X.w) A.in1.in1 _ _ _ { s with heap:=((h1.update D (Obj.mapSeq fun _=>(#[]:Array Value))).push (seqObj "tuple" its.toArray 0)).push (seqObj "list" #[] 0) }
 rw[hkS]
 obtain ⟨S,eS⟩ : ∃S,s.heap.objs.size+3=S:=⟨_,rfl⟩
 rw[eS] at hoS ⊢
 generalize ((h1.update D (Obj.mapSeq fun _=>(#[]:Array Value))).push (seqObj "tuple" its.toArray 0)).push (seqObj "list" #[] 0)=h2 at keep2 ho2 hoS ⊢
 have hDS:D≠S:=by omega
 have HD:H D=none:=I.hok.fresh (by omega)
 have HS':H S=none:=I.hok.fresh (by omega)
 have geD:X.s₀.heap.objs.size≤D:=Nat.le_trans I.sz (by omega)
 have geS:X.s₀.heap.objs.size≤S:=Nat.le_trans I.sz (by omega)
 have pinlt:∀p∈X.pn++pins,p.1<s.heap.objs.size:=fun p hp=>Heap.lt_size (I.pin p hp).1
 have pinD:∀p∈X.pn++pins,p.1≠D:=fun p hp=>Nat.ne_of_lt (Nat.lt_trans (pinlt p hp) (by omega))
 have pinS:∀p∈X.pn++pins,p.1≠S:=fun p hp=>Nat.ne_of_lt (Nat.lt_trans (pinlt p hp) (by omega))
 have pinDS:∀o,∀p∈X.pn++((D,o)::pins),p.1≠S:=fun o p hp=>by
  rcases List.mem_append.mp hp with z|z
  ·exact pinS p (List.mem_append_left _ z)
  ·rcases List.mem_cons.mp z with rfl|z
   ·exact hDS
   ·exact pinS p (List.mem_append_right _ z)
 have I2:Inv X ((S,seqObj "list" #[] 0)::(D,seqObj "list" #[] e1)::pins) σ H { s with heap:=h2 }:=by
  have J:=I.kept (t':=s.toks) keep2
  refine J.pins_of fun p hp=>?_
  rcases List.mem_cons.mp hp with rfl|hp
  ·exact⟨hoS,HS',Nat.ne_of_gt (Nat.lt_of_lt_of_le I.lt (by omega)),I.nofs (by omega),fun v z=>(by cases z)⟩
  ·rcases List.mem_cons.mp hp with rfl|hp
   ·exact⟨ho2,HD,Nat.ne_of_gt (Nat.lt_of_lt_of_le I.lt (by omega)),I.nofs (by omega),fun v z=>(by cases z)⟩
   ·exact J.pin p (List.mem_append_right _ hp)
 unfold ksk_rest
 refine zwb0 (wpAny_rule ?_)
 first
  |rw[List.forIn_toArray]
  |(rw[← Array.forIn_toList];simp only[List.toList_toArray])
  |rw[← Array.forIn_toList]
 refine zwb0 (ksk_fold (fun i s'=>∃H' bs e,Inv X ((S,seqObj "list" (List.toArray (List.map Value.ref bs)) e)::(D,seqObj "list" #[] e1)::pins) σ H' s'∧Same H H'∧bs.length=i∧yye H' bs ns key) its 0 _ ⟨H,[],0,I2,Same.refl H,rfl,fun j b n e=>(by cases e)⟩ (fun j u s' hj hJ=>?_) fun s' hJ=>?_)
 ·obtain ⟨H',bs,e,J,sm,hbl,hks⟩:=hJ
  rw[Nat.zero_add] at hbl ⊢
  have hjl:j<its.length:=(List.getElem?_eq_some_iff.mp hj).1
  obtain ⟨n,en⟩ : ∃n,ns[j]? = some n:=⟨_,List.getElem?_eq_getElem (by omega)⟩
  obtain ⟨u',eu,ru⟩:=rv.get (i:=j) (x:=.int n) (by rw[List.getElem?_map,en];rfl)
  rw[hj] at eu
  cases eu
  refine zwb0 (wpAny_attempt (wpAny_mono (hcall n (List.mem_of_getElem? en) _ H' s' u (fun p hp=>.tail _ (.tail _ hp)) J sm ru) (fun k s'' hk=>?_) fun _ _ hF=>hF.elim))
  obtain ⟨y,H3,J3,ry,b,rfl,sm3,hb⟩:=hk
  cases ry
  obtain ⟨eS3,nS3,lS3,fS3,dS3⟩:=J3.pin (S,seqObj "list" (List.toArray (List.map Value.ref bs)) e) (List.mem_append_right _ (.head _))
  dsimp only at eS3
  have s1:=Heap.SameBut.update s''.heap S (Obj.mapSeq (·.push (.ref b)))
  have ea:(List.toArray (List.map Value.ref bs)).push (.ref b)=List.toArray (List.map Value.ref (bs++[b])):=by simp
  obtain ⟨c2,hc2⟩ : ∃c2,(s''.heap.update S (Obj.mapSeq (·.push (.ref b)))).get? S=some (seqObj "list" (List.toArray (List.map Value.ref (bs++[b]))) c2):=⟨_,by rw[← ea];exact get?_update_seq eS3 (·.push (.ref b))⟩
  try dsimp only
  refine zwb0 (listUpdate_at eS3 rfl ?_ (by rw[List.size_toArray,List.length_map,sizeLine_eq];omega) (Nat.le_trans (Nat.le_of_eq (Array.size_push ..)) (by rw[List.size_toArray,List.length_map,sizeLine_eq];omega)))
  refine zwp0 ⟨rfl,H3,bs++[b],c2,J3.turn1 (t':=s''.toks) s1 hc2 (fun v z=>(by cases z)) geS (pinDS _),sm.trans sm3,by rw[List.length_append,List.length_singleton];omega,fun j' b' n' e1' e2'=>?_⟩
  by_cases hjj:j' < bs.length
  ·rw[List.getElem?_append_left hjj] at e1'
   exact sm3 _ _ (hks j' b' n' e1' e2')
  ·have:j'=bs.length:=by
    have:=(List.getElem?_eq_some_iff.mp e1').1
    rw[List.length_append,List.length_singleton] at this
    omega
   subst this
   rw[List.getElem?_append_right (Nat.le_refl _),Nat.sub_self] at e1'
   cases e1'
   rw[hbl,en] at e2'
   cases e2'
   exact hb
 ·obtain ⟨H',bs,e,J,sm,hbl,hks⟩:=hJ
  rw[Nat.zero_add] at hbl
  obtain ⟨eS3,nS3,lS3,fS3,dS3⟩:=J.pin (S,seqObj "list" (List.toArray (List.map Value.ref bs)) e) (List.mem_append_right _ (.head _))
  obtain ⟨eD3,nD3,_⟩:=J.pin (D,seqObj "list" #[] e1) (List.mem_append_right _ (.tail _ (.head _)))
  dsimp only at eS3 eD3
  try dsimp only
  refine zwb0 (listItems_at eS3 rfl ?_)
  unfold ksk_end
  try dsimp only
  rw[if_neg Bool.false_ne_true]
  have hkl:(List.map Value.ref bs).length=its.length:=by rw[List.length_map,hbl]
  have tt:TupsAt s'.heap bs (ns.map key):=⟨by rw[List.length_map];omega,fun i b r x1 x2=>by
   rw[List.getElem?_map] at x2
   cases en:ns[i]? with
   |none=>rw[en] at x2;cases x2
   |some n=>
    rw[en] at x2
    cases x2
    obtain ⟨_,us,rr,y⟩:=(show ObjOk X.prog X.w H' s'.heap b (.tup ((key n).map V.int)) from J.hok b _ (hks i b n x1 en))
    exact⟨us,y,yf1 rr⟩⟩
  have hwk:∀r∈ns.map key,r.length=wd:=fun r hr=>by
   obtain ⟨n,hn,rfl⟩:=List.mem_map.mp hr
   exact hw n hn
  have tail:∀(st':SortSt) (p:Array Nat),PermN its.length p→Up (yqm (ns.map key)) p its.length→(arrOf st').map (·.2)=List.toArray (p.toList.map fun i=>its.getD i Value.none)→failedOf st'=none→
   wpAny (model X.prog X.w) A.in1.in1 (ksk_tail D false e1 (.ref S) st') (fun fin s'=>∃v,fin = .done (.ret v)∧wpAny (model X.prog X.w) A.in1 (pure (PySem.Fin.done (.ret (.ref D)))) (fun fin s'=>∃v,fin = .done (.ret v)∧Q v s') E s') E s':=by
   intro st' p hp hu har hf
   unfold ksk_tail
   try dsimp only
   rw[har]
   have s1:=Heap.SameBut.update s'.heap S (Obj.mapSeq fun _=>(#[]:Array Value))
   obtain ⟨c1,hc1⟩ : ∃c1,(s'.heap.update S (Obj.mapSeq fun _=>(#[]:Array Value))).get? S=some (seqObj "list" #[] c1):=⟨_,get?_update_seq eS3 fun _=>#[]⟩
   have eD4:(s'.heap.update S (Obj.mapSeq fun _=>(#[]:Array Value))).get? D=some (seqObj "list" #[] e1):=(s1.2 D hDS).trans eD3
   have s2:=Heap.SameBut.update (s'.heap.update S (Obj.mapSeq fun _=>(#[]:Array Value))) D (Obj.mapSeq fun _=>List.toArray (p.toList.map fun i=>its.getD i Value.none))
   obtain ⟨c2,hc2⟩ : ∃c2,((s'.heap.update S (Obj.mapSeq fun _=>(#[]:Array Value))).update D (Obj.mapSeq fun _=>List.toArray (p.toList.map fun i=>its.getD i Value.none))).get? D=some (seqObj "list" (List.toArray (p.toList.map fun i=>its.getD i Value.none)) c2):=⟨_,get?_update_seq eD4 fun _=>List.toArray (p.toList.map fun i=>its.getD i Value.none)⟩
   refine zwb0 (listUpdate_at eS3 rfl ?_ (by rw[List.size_toArray,sizeLine_eq];omega) (Nat.zero_le _))
   refine zwb0 (wpAny_letGo ?_)
   refine zwb0 (seqEpoch_at eD4 rfl ?_)
   refine zwb0 (listUpdate_at eD4 rfl ?_ (Nat.zero_le _) (by
    show (List.toArray (p.toList.map fun i=>its.getD i Value.none)).size≤_
    rw[List.size_toArray,List.length_map,Array.length_toList,hp.size,sizeLine_eq];omega))
   rw[hf]
   simp only[bne_self_eq_false,Bool.false_eq_true,if_false]
   refine zwp0 ⟨_,rfl,zwp0 ⟨_,rfl,?_⟩⟩
   have J1:=J.turn1 (t':=s'.toks) s1 hc1 (fun v z=>(by cases z)) geS (pinDS _)
   have J2:Inv X ((D,seqObj "list" #[] e1)::pins) σ H' { s' with heap:=s'.heap.update S (Obj.mapSeq fun _=>(#[]:Array Value)) }:=J1.pins_of fun p hp=>J1.pin p (List.mem_append_right _ (.tail _ hp))
   have J3:=J2.turn1 (t':=s'.toks) s2 hc2 (fun v z=>(by cases z)) geD pinD
   have hmem:∀i∈p.toList,i<its.length:=fun i hi=>List.mem_range.mp ((List.Perm.mem_iff hp).mp hi)
   have vv:∀is:List Nat,(∀i∈is,i<its.length)→Vals ((is.map fun i=>ns.getD i 0).map V.int) (is.map fun i=>its.getD i Value.none):=fun is his=>by
    induction is with
    |nil=>exact .nil
    |cons i r ih=>
     refine .cons ?_ (ih fun j hj=>his j (.tail _ hj))
     have hi:=his i (.head _)
     obtain ⟨u,eu,ru⟩:=rv.get (i:=i) (x:=.int (ns.getD i 0)) (by
      rw[List.getElem?_map,List.getD_eq_getElem?_getD,List.getElem?_eq_getElem (show i<ns.length by omega)];rfl)
     show RelV (.int (ns.getD i 0)) (its.getD i Value.none)
     rw[List.getD_eq_getElem?_getD (l:=its),eu]
     exact ru
   refine h D (p.toList.map fun i=>ns.getD i 0) (upd H' D (.lst ((p.toList.map fun i=>ns.getD i 0).map V.int))) _ HD ?_ ?_ (sm.trans (yac nD3 _)) yaa (J3.track1 geD pinD ⟨?_,_,c2,vv _ hmem,hc2⟩)
   ·have e1:(List.range its.length).map (fun i=>ns.getD i 0)=ns:=by
     apply List.ext_getElem?
     intro i
     rw[List.getElem?_map]
     by_cases hi:i<its.length
     ·rw[List.getElem?_range hi];simp [show i<ns.length by omega]
     ·rw[List.getElem?_eq_none (by simpa using hi),List.getElem?_eq_none (by omega)];rfl
    have:=hp.map (fun i=>ns.getD i 0)
    rw[e1] at this
    exact this
   ·rw[List.pairwise_map,List.pairwise_iff_getElem]
    intro i j hi hj hij
    have hj':j<its.length:=by rw[Array.length_toList,hp.size] at hj;exact hj
    have:=hu i j (Nat.le_of_lt hij) hj'
    have gi:gA p i=p.toList[i]:=by
     rw[Array.length_toList] at hi
     simp [gA,hi]
    have gj:gA p j=p.toList[j]:=by
     rw[Array.length_toList] at hj
     simp [gA,hj]
    rw[gi,gj] at this
    have kk:∀i,i<ns.length→(ns.map key).getD i []=key (ns.getD i 0):=fun i hi=>by simp [hi]
    have this':ygq ((ns.map key).getD p.toList[j] []) ((ns.map key).getD p.toList[i] [])=false:=this
    rw[kk _ (by have:=hmem _ (List.getElem_mem hj);omega),kk _ (by have:=hmem _ (List.getElem_mem hi);omega)] at this'
    exact this'
   ·rw[List.length_map,List.length_map,Array.length_toList,hp.size,sizeLine_eq];omega
  by_cases h2:its.toArray.size<2
  ·rw[if_pos h2,if_pos h2]
   refine zwb0 (zwp0 ?_)
   rw[StateT.run_pure]
   refine zwb0 (zwp0 ?_)
   rw[if_neg Bool.false_ne_true]
   have pr:PermN its.length (List.toArray (List.range its.length)):=by unfold PermN;simp
   refine tail _ (List.toArray (List.range its.length)) pr (yoq (yj9 _) (by rw[List.size_toArray] at h2;exact h2)) ?_ rfl
   exact kat_snds (vs:=its) (ks:=List.map Value.ref bs) (p:=List.toArray (List.range its.length)) hkl (by
    have e:=kas_range ((List.map Value.ref bs).toArray.zip its.toArray)
    rw[show ((List.map Value.ref bs).toArray.zip its.toArray).size=its.length by simp [hkl,hbl]] at e
    exact e.symm)
  ·rw[if_neg h2,if_neg h2]
   rw[List.size_toArray] at h2
   obtain ⟨fs,f1,f2,f3⟩:=tt.kat fun r hr z=>by have:=hwk r hr;rw[z] at this;simp at this;omega
   refine zwb0 (kat_kind (T:=.type "int") f2 (by omega) (fun v hv=>?_) rfl ?_)
   ·obtain ⟨m,k,rfl⟩:=f3 v hv
    exact Looks.of_pure rfl
   rw[show ((Value.type "int" : Value) != Value.type "tuple")=true from rfl,if_neg Bool.false_ne_true]
   refine zwb0 (wpAny_mono (kat_run (A:=A.in1.in1) (vs:=its) (ks:=List.map Value.ref bs) (κ:=tuples' true)
    (G:=fun p s2=>(PermN its.length p∧Up (yqm (ns.map key)) p its.length)∧s2=s')
    (Q:=fun st' s2=>∃p:Array Nat,PermN its.length p∧Up (yqm (ns.map key)) p its.length∧arrOf st'=p.map (kas_item ((List.map Value.ref bs).toArray.zip its.toArray))∧failedOf st'=none∧s2=s')
    hkl (by omega) (by omega) (fun p' st' s2 a1 a2 a3 a4=>⟨p',a4.1.1,a4.1.2,a2,a3,a4.2⟩) ?_) ?_ fun _ _ e=>e)
   ·refine yrr (n:=its.length) (lt:=yqm (ns.map key)) (fun i j C hi hj q=>TupsAt.ask tt hwk i j C (by omega) (by omega) q) (yco (fun p hp=>⟨hp,rfl⟩) (yru (yj9 _) (by omega)))
   ·rintro ⟨⟨⟩,st'⟩ s2 ⟨p,hp,hu,har,hf,rfl⟩
    dsimp only
    exact tail st' p hp hu (kat_snds hkl har) hf
end
def yvi (P:Addr)(q:Str)(lpos:Pos)(ix:List (Option Nat))(tb:TE)(σ:St)(Q:VK)(v:V)(H1:Hp):Prop:=∃(l:Addr) (ns:List Int) (key:Int→List Int) (wd:Nat),v = .ref l∧H1 l=some (.lst (ns.map V.int))∧ns.length<64∧H1 P=some (.cod q lpos)∧0<wd∧(∀n∈ns,(key n).length=wd)∧
 (∀n∈ns,∀H2,(∀b o,H1 b=some o→o≠.cod q lpos→o≠.own P→H2 b=some o)→tb (yui ix σ (.int n)) H2 fun y H3=>∃b,y = .ref b∧Same H2 H3∧H3 b=some (.tup ((key n).map V.int)))∧
 ∀(D:Addr) (ms:List Int) H',H1 D=none→ms.Perm ns→ms.Pairwise (fun a b=>ygq (key b) (key a)=false)→Same H1 H'→H' D=some (.lst (ms.map V.int))→Q (.ref D) H'
def yyf (te:TE)(P:Addr)(q:Str)(lpos:Pos)(ix:List (Option Nat))(tb:TE):TE:=fun σ H Q=>te σ H fun v H1=>yvi P q lpos ix tb σ Q v H1
theorem yo1 {X:Cx}{k:Nat}{e body:Expr}{te tb:TE}{P c:Addr}{q p:Str}{N':List Str}{ix:List (Option Nat)}{params:Arguments}{scope:Scope}{npos lpos kpos pos:Pos} (hr:Room k X.A) (ha:PA X [e] (ycp te ypk)) (hg:Gl X "sorted") (hm:X.mg "sorted" = none) (hv:bootBuiltins "sorted" = some (.builtin "sorted"))
 (hex:X.ex=[]) (hcode:X.env.code = .ref c) (C:codeHdIn X.K c P=true) (B:yi4 X.mg X.base) (hdef:defaultsOf params X.env=([],[])) (hq:X.env.qual ++ "<lambda>" = q) (S:LamScope X N' ix p scope)
 (hbnd:∀(cl:List (Str×Addr)) (pm:Value) (c':Addr) (ctv u:Value),bindArgs (kla_fn "<lambda>" q params body scope cl pm (.ref c') ctv) ⟨[u],[]⟩=pure [(p,u)])
 (hb:∀(A:Around) (f c':Addr) (s:Shared) (H:Hp),PE (ywq X A N' q scope f c' s H) body tb)
 (he:backTo pos (starEach [e] X.env)=(false,eval e X.env)::backTo pos (starEach [] X.env):=by rfl) (hpl:(backTo pos (starEach [e] X.env)).any (·.1)=false:=by rfl) :
 PE X (.Call (.Name "sorted" npos) [e] [⟨some (Str.ofString "key"),.Lambda params body scope lpos,kpos⟩] pos) (yyf te P q lpos ix tb):=by
 intro pins s σ H Q I h
 refine wpAny_Call_Name_kw (yhs I hg hm hv ?_ (by decide) (by decide))
 refine callWith_kw (thn (ha pos pins s σ H (fun vs H1=>match vs with | [v]=>yvi P q lpos ix tb σ Q v H1|_=>False) I h) fun us s1 ⟨vs,H1,I1,r1,q1⟩=>?_) he hpl
 obtain ⟨v,rfl⟩ : ∃v,vs=[v]:=by
  match vs,q1 with
  |[v],_=>exact⟨v,rfl⟩
 obtain ⟨l,ns,key,wd,rfl,hl,h64,hP,hw0,hw,hkey,q⟩:=q1
 obtain ⟨u,rfl,ru⟩:=r1.one
 cases ru
 show wpAny _ _ (evalAll ((do let v ← eval (.Lambda params body scope lpos) X.env;standAt pos;pure v)::[])) _ _ s1
 refine wpAny_evalAll_cons (zwb0 ?_)
 have hcl:closureFor scope X.env=pure (ygu X.env scope.names []):=yf9 fun y hy hf=>I1.ok.has y.1 (.inl (S.free y hy hf))
 refine yuh I1 hex hP hcode C B hcl hdef hq fun f c' ctv co s2 J hco hne hfn hcn nc hpp=>?_
 refine zwb0 (wpAny_standAt (zwp0 (wpAny_evalAll_nil ?_)))
 have ncc:∀b o,H1 b=some o→o≠.own P→b≠c':=fun b o e n z=>by
  rw[z] at e
  rcases hcn with y|y
  ·rw[y] at e;cases e
  ·rw[y] at e;cases e;exact n rfl
 have npp:∀b o,H1 b=some o→o≠.cod _ lpos→b≠P:=fun b o e n z=>by
  rw[z,hP] at e;cases e;exact n rfl
 have hl2:ydj H1 P c' l=some (.lst (ns.map V.int)):=by rw[yca (npp _ _ hl (by intro z;cases z)) (ncc _ _ hl (by intro z;cases z))];exact hl
 show wpAny _ _ (call (.builtin "sorted") [.ref l] [(Str.ofString "key",.ref f)]) _ _ s2
 refine yqc J (SqL.of hl2) h64 hw hw0 (fun n hn pins' H2 s3 u hsub J3 sm ru=>?_) fun D ms H3 s3 hD hperm hpw sm hD3 J3=>?_
 ·have pf:=J3.pin (f,kla_obj "<lambda>" _ params body scope (ygu X.env scope.names []) ((X.mg "__name__").getD .none) c' ctv) (List.mem_append_right _ (hsub _ (.head _)))
  have pc:=J3.pin (c',co) (List.mem_append_right _ (hsub _ (.tail _ (.tail _ (.head _)))))
  obtain ⟨vs,t,d1,d2⟩:=hco
  refine yuj J3 hr.hd I1.ok.frames hr.depth S pf.1 ⟨c',co,vs,t,rfl,pc.1,d1,d2⟩ (hbnd _ _ _ _ _) (hb _ f c' s3 H2) ru (hkey n hn H2 fun b o e n1 n2=>sm _ _ ?_)
  rw[yca (npp _ _ e n1) (ncc _ _ e n2)]
  exact e
 ·have pP:=(J3.pin (P,tabObj #[rawInt lpos.line,rawInt lpos.col,.ref c']) (List.mem_append_right _ (.tail _ (.head _)))).2.1
  have pc:=(J3.pin (c',co) (List.mem_append_right _ (.tail _ (.tail _ (.head _))))).2.1
  dsimp only at pP pc
  have nDP:D≠P:=fun z=>by rw[z,pP] at hD3;cases hD3
  have nDc:D≠c':=fun z=>by rw[z,pc] at hD3;cases hD3
  have J4:=J3.retrack hco hne (I1.notOld hex hP) nc hpp
  refine⟨.ref D,_,J4,rfl,q D ms _ ?_ hperm hpw (fun b o e=>?_) ?_⟩
  ·rw[yca nDP nDc] at hD;exact hD
  ·by_cases hb:b=c'
   ·subst hb
    rw[yaa]
    rcases hcn with z|z
    ·rw[z] at e;cases e
    ·rw[z] at e;exact e
   ·rw[yal hb]
    by_cases hb2:b=P
    ·subst hb2
     rw[yaa,← hP];exact e
    ·rw[yal hb2]
     exact sm _ _ (by rw[yca hb2 hb];exact e)
  ·rw[yal nDc,yal nDP];exact hD3
theorem Fun.okC {P:Program}{w:World}{K:PySem.W.Frag}{mg:Str→Option Value}{base:Heap}{x qual:Str}{st:Stmt}{f c:Addr}{fd:FuncData}{N ps:List Str}{k:Nat}{sp:Sp}(F:Fun K x qual st f fd)(hc:fd.code = .ref c)(S:FnScope N ps (yab st))(len:∀vs H Q E,sp vs H Q E→vs.length=ps.length)
 (hbody:∀(A:Around) (outer:List Env) (s:Shared) (H:Hp) (vs:List V) (Q:VK) (E:XK),Room k (A.deeper (envOfC qual (yab st) s.heap.objs.size f (.ref c)))→sp vs H Q E→
  ∃t,PSs (yql CX0 P w K mg base N qual (yab st) f (.ref c) A outer s H E).nox (yap st) t∧t { nx:=fun _ H'=>Q .non H',rt:=Q } (yiw N vs) H):FnOk P w K mg base CX0 (k+1) f fd ps sp:=by
 obtain ⟨oc,od,kV,doc,pm,an,cdv,ct,osl,rfl,lk,hcd⟩:=F.ex
 obtain rfl:cdv = .ref c:=hc
 refine yvu lk hcd S len fun A outer s H vs Q E hr hsp=>?_
 obtain ⟨t,h,q⟩:=hbody A outer s H vs Q E hr hsp
 exact⟨t,h.nox,q⟩
def yyg (N N':List Str)(ix:List (Option Nat))(p:Str)(scope D:Scope):Bool:=
 (scope.kind == .function)&&(!scope.isCoroutine)&&(!scope.isGenerator)&&(scope.names.all fun y=>(y.2 != .cell)&&(y.2 != .free || D.names.lookup y.1 == some .cell))&&(N'[0]? == some p)&&(scope.names.lookup p == some .local)&&(ix.length == N'.length)&&decide (0<N'.length) &&
 ((List.range N'.length).all fun k=>match ix[k]?,N'[k]? with
  |some (some j),some x=>N[j]? == some x&&scope.names.contains (x,.free)&&scope.names.lookup x == some .free
  |_,_=>true)
theorem yme {X:Cx}{N':List Str}{ix:List (Option Nat)}{p:Str}{scope:Scope}{N:List Str}{D:Scope}(h:yyg N N' ix p scope D=true)(hN:X.N=N:=by rfl)(hD:X.env.scope=D:=by rfl):LamScope X N' ix p scope:=by
 unfold yyg at h
 simp only[Bool.and_eq_true,decide_eq_true_eq] at h
 obtain ⟨⟨⟨⟨⟨⟨⟨⟨h1,h2⟩,h3⟩,h4⟩,h5⟩,h6⟩,h7⟩,h8⟩,h9⟩:=h
 have hall:=List.all_eq_true.mp h4
 refine⟨by simpa using h1,by simpa using h2,by simpa using h3,fun y hy z=>?_,by simpa using h5,by simpa using h6,by simpa using h7,h8,fun y hy z=>?_,fun k j x e1 e2=>?_⟩
 ·have:=hall y hy
  rw[z] at this
  simp at this
 ·have:=hall y hy
  rw[z] at this
  have q:D.names.lookup y.1=some .cell:=by simpa using this
  show X.env.scope.names.lookup y.1=some .cell
  rw[hD];exact q
 ·have hk:k<N'.length:=(List.getElem?_eq_some_iff.mp e1).1
  have:=List.all_eq_true.mp h9 k (List.mem_range.mpr hk)
  rw[e1,e2] at this
  simp only[Bool.and_eq_true] at this
  obtain ⟨⟨a,b⟩,c⟩:=this
  refine⟨by rw[hN];simpa using a,by simpa using b,by simpa using c⟩
def yvj (st:Stmt):Pos:=match yap st with
 |[.Return (some (.Call _ _ [⟨_,.Lambda _ _ _ pos,_⟩] _)) _]=>pos
 |_=>⟨0,0,0,0⟩
abbrev Tbs:=List (Addr×Str×Pos)
def Tb (ts:Tbs)(H:Hp):Prop:=∀t∈ts,H t.1=some (.cod t.2.1 t.2.2)
theorem Tb.same {ts:Tbs}{H H':Hp}(h:Tb ts H)(s:Same H H'):Tb ts H':=fun t ht=>s _ _ (h t ht)
theorem Tb.keep {ts:Tbs}{H H':Hp}{a c:Addr}(h:Tb ts H)(d:DrawAt H a c)(k:KeepBut a H H'):Tb ts H':=fun t ht=>by
 refine k _ _ (fun z=>?_) (h t ht)
 obtain ⟨_,_,_,_,_,e,_⟩:=d
 have:=h t ht
 rw[z,e] at this;cases this
def yjl (ts:Tbs)(key:List (List Int)→Int→List Int)(ok:List Int→Prop):Sp:=fun vs H Q _=>∃(a:Addr) (rs:List (List Int)),vs=[.ref a]∧Tb ts H∧Rows H a rs∧rs.length≤60∧(∀r∈rs,ok r)∧
 ∀(l:Addr) (os:List Int) (H':Hp),H l=none→Same H H'→yde (key rs) rs.length os→H' l=some (.lst (os.map V.int))→Q (.ref l) H'
end L2
namespace L2
def S:List (Int×Int)→Int→Int→Int
 |[],_,_=>0
 |p::r,f,l=>(if f≤p.1∧p.1≤l then p.2 else 0)+S r f l
def ygr (tm e:Int):Int→List (Int×Int)→List (Int×Int)
 |_,[]=>[]
 |c,p::r=>(p.1,p.2-(if 0<min c p.2∧e-tm≤p.1∧p.1≤e then min c p.2 else 0))::ygr tm e (c-(if 0<min c p.2∧e-tm≤p.1∧p.1≤e then min c p.2 else 0)) r
def deal (tm:Int):List (Int×Int)→List (Int×Int)→List (Int×Int)
 |[],L=>L
 |o::O,L=>deal tm O (ygr tm o.1 o.2 L)
def Pos (L:List (Int×Int)):Prop:=∀p∈L,0≤p.2
def Up1 (L:List (Int×Int)):Prop:=L.Pairwise fun p q=>p.1≤q.1
def yyu (L O:List (Int×Int))(tm:Int):Prop:=∀f l,f≤l→S L f l≤S O f (l+tm)
theorem yhq:∀{L:List (Int×Int)},Pos L→∀f l,0≤S L f l
 |[],_,f,l=>Int.le_refl _
 |p::r,h,f,l=>by
  have h1:=h p (.head _)
  have h2:=yhq (L:=r) (fun q hq=>h q (.tail _ hq)) f l
  show 0≤(if f≤p.1∧p.1≤l then p.2 else 0)+S r f l
  split <;> omega
theorem ysi:∀{L:List (Int×Int)},Pos L→∀{f l f' l':Int},f'≤f→l≤l'→S L f l≤S L f' l'
 |[],_,f,l,f',l',_,_=>Int.le_refl _
 |p::r,h,f,l,f',l',h1,h2=>by
  have h0:=h p (.head _)
  have h3:=ysi (L:=r) (fun q hq=>h q (.tail _ hq)) h1 h2
  show (if f≤p.1∧p.1≤l then p.2 else 0)+S r f l≤(if f'≤p.1∧p.1≤l' then p.2 else 0)+S r f' l'
  split <;> split <;> omega
theorem yjm:∀{L:List (Int×Int)}{f l:Int},(∀p∈L,¬ (f≤p.1∧p.1≤l))→S L f l=0
 |[],_,_,_=>rfl
 |p::r,f,l,h=>by
  show (if f≤p.1∧p.1≤l then p.2 else 0)+S r f l=0
  rw[if_neg (h p (.head _)),yjm fun q hq=>h q (.tail _ hq)]
  rfl
theorem yik {tm e:Int}:∀{c:Int}{L:List (Int×Int)},(ygr tm e c L).map (·.1)=L.map (·.1)
 |_,[]=>rfl
 |c,p::r=>by show p.1::(ygr tm e _ r).map (·.1)=p.1::r.map (·.1);rw[yik]
theorem yws {L M:List (Int×Int)}(h:M.map (·.1)=L.map (·.1))(hL:Up1 L):Up1 M:=by
 unfold Up1 at *
 rw[← List.pairwise_map (f:=fun p:Int×Int=>p.1) (R:=(·≤·))] at *
 rw[h];exact hL
theorem ykr {tm e:Int}:∀{c:Int}{L:List (Int×Int)},Pos L→Pos (ygr tm e c L)
 |_,[],h=>h
 |c,p::r,h=>fun q hq=>by
  have h0:=h p (.head _)
  rcases List.mem_cons.mp hq with z|z
  ·rw[z]
   show 0≤p.2-(if 0<min c p.2∧e-tm≤p.1∧p.1≤e then min c p.2 else 0)
   split <;> omega
  ·exact ykr (fun q hq=>h q (.tail _ hq)) q z
theorem ysj {tm e:Int}:∀{c:Int}{L:List (Int×Int)},Pos L→∀f l,S (ygr tm e c L) f l≤S L f l
 |_,[],_,_,_=>Int.le_refl _
 |c,p::r,h,f,l=>by
  have h0:=h p (.head _)
  have ih:=ysj (tm:=tm) (e:=e) (c:=c-(if 0<min c p.2∧e-tm≤p.1∧p.1≤e then min c p.2 else 0)) (L:=r) (fun q hq=>h q (.tail _ hq)) f l
  show (if f≤p.1∧p.1≤l then p.2-(if 0<min c p.2∧e-tm≤p.1∧p.1≤e then min c p.2 else 0) else 0)+S (ygr tm e _ r) f l≤(if f≤p.1∧p.1≤l then p.2 else 0)+S r f l
  split
  ·have:0≤(if 0<min c p.2∧e-tm≤p.1∧p.1≤e then min c p.2 else 0):=by split <;> omega
   omega
  ·omega
theorem ymf {tm e:Int}:∀{L:List (Int×Int)},ygr tm e 0 L=L
 |[]=>rfl
 |p::r=>by
  show (p.1,p.2-(if 0<min 0 p.2∧e-tm≤p.1∧p.1≤e then min 0 p.2 else 0))::ygr tm e (0-(if 0<min 0 p.2∧e-tm≤p.1∧p.1≤e then min 0 p.2 else 0)) r=p::r
  rw[if_neg (by omega)]
  show (p.1,p.2-0)::ygr tm e (0-0) r=p::r
  rw[Int.sub_zero,Int.sub_zero,ymf]
theorem ymg {tm e:Int}:∀{c:Int}{L:List (Int×Int)},0≤c→Pos L→∀f l,S L f l≤(if f≤e∧e≤l+tm then c else 0)+S (ygr tm e c L) f l
 |c,[],hc,_,f,l=>by
  show (0:Int)≤_+0
  split <;> omega
 |c,p::r,hc,h,f,l=>by
  have h0:=h p (.head _)
  have y0:0≤(if 0<min c p.2∧e-tm≤p.1∧p.1≤e then min c p.2 else 0)∧(if 0<min c p.2∧e-tm≤p.1∧p.1≤e then min c p.2 else 0)≤c∧((if 0<min c p.2∧e-tm≤p.1∧p.1≤e then min c p.2 else 0)=0∨(e-tm≤p.1∧p.1≤e)):=by split <;> omega
  show (if f≤p.1∧p.1≤l then p.2 else 0)+S r f l≤(if f≤e∧e≤l+tm then c else 0)+((if f≤p.1∧p.1≤l then p.2-(if 0<min c p.2∧e-tm≤p.1∧p.1≤e then min c p.2 else 0) else 0)+S (ygr tm e (c-(if 0<min c p.2∧e-tm≤p.1∧p.1≤e then min c p.2 else 0)) r) f l)
  generalize (if 0<min c p.2∧e-tm≤p.1∧p.1≤e then min c p.2 else 0)=y at *
  have ih:=ymg (tm:=tm) (e:=e) (c:=c-y) (L:=r) (by omega) (fun q hq=>h q (.tail _ hq)) f l
  split at ih <;> split <;> omega
theorem ymh {tm e:Int}:∀{c:Int}{L:List (Int×Int)},0≤c→Pos L→Up1 L→∀{d x l:Int},(d,x)∈ygr tm e c L→0<x→e-tm≤d→d≤e→d≤l→S L (e-tm) l=c+S (ygr tm e c L) (e-tm) l
 |_,[],_,_,_,d,x,l,hm,_,_,_,_=>by cases hm
 |c,p::r,hc,h,hu,d,x,l,hm,hx,h1,h2,h3=>by
  have h0:=h p (.head _)
  have hr:Pos r:=fun q hq=>h q (.tail _ hq)
  obtain ⟨hu1,hu2⟩:=List.pairwise_cons.mp hu
  show (if e-tm≤p.1∧p.1≤l then p.2 else 0)+S r (e-tm) l=c+((if e-tm≤p.1∧p.1≤l then p.2-(if 0<min c p.2∧e-tm≤p.1∧p.1≤e then min c p.2 else 0) else 0)+S (ygr tm e (c-(if 0<min c p.2∧e-tm≤p.1∧p.1≤e then min c p.2 else 0)) r) (e-tm) l)
  rcases List.mem_cons.mp hm with z|z
  ·have e1:d=p.1:=congrArg Prod.fst z
   have e2:x=p.2-(if 0<min c p.2∧e-tm≤p.1∧p.1≤e then min c p.2 else 0):=congrArg Prod.snd z
   have hy:(if 0<min c p.2∧e-tm≤p.1∧p.1≤e then min c p.2 else 0)=c:=by
    split at e2 <;> split <;> omega
   rw[hy,Int.sub_self,ymf,if_pos (by omega),if_pos (by omega)]
   omega
  ·have hd:p.1≤d:=by
    have m:d∈(ygr tm e (c-(if 0<min c p.2∧e-tm≤p.1∧p.1≤e then min c p.2 else 0)) r).map (·.1):=List.mem_map.mpr ⟨_,z,rfl⟩
    rw[yik] at m
    obtain ⟨q,hq,e'⟩:=List.mem_map.mp m
    have:=hu1 q hq
    omega
   have y0:0≤(if 0<min c p.2∧e-tm≤p.1∧p.1≤e then min c p.2 else 0)∧(if 0<min c p.2∧e-tm≤p.1∧p.1≤e then min c p.2 else 0)≤c∧((if 0<min c p.2∧e-tm≤p.1∧p.1≤e then min c p.2 else 0)=0∨(e-tm≤p.1∧p.1≤e)):=by split <;> omega
   generalize (if 0<min c p.2∧e-tm≤p.1∧p.1≤e then min c p.2 else 0)=y at *
   have ih:=ymh (tm:=tm) (e:=e) (c:=c-y) (L:=r) (by omega) hr hu2 z hx h1 h2 h3
   split <;> omega
theorem yqd {tm e c:Int}{L O:List (Int×Int)}(ht:0≤tm)(hc:0≤c)(hL:Pos L)(hu:Up1 L)(hO:Pos O)(he:∀o∈O,e≤o.1)(h:yyu L ((e,c)::O) tm):yyu (ygr tm e c L) O tm:=by
 intro f l hfl
 have H:∀f l,f≤l→S L f l≤(if f≤e∧e≤l+tm then c else 0)+S O f (l+tm):=fun f l hfl=>h f l hfl
 have gl:=ysj (tm:=tm) (e:=e) (c:=c) hL
 have gp:=ykr (tm:=tm) (e:=e) (c:=c) hL
 by_cases c0:f≤e∧e≤l+tm
 ·have low:S L f (e-tm-1)≤0:=by
   by_cases z:f≤e-tm-1
   ·have:=H f (e-tm-1) z
    rw[if_neg (by omega),yjm (L:=O) (fun o ho y=>by have:=he o ho;omega)] at this
    omega
   ·rw[yjm fun p _ y=>by omega]
    exact Int.le_refl _
  by_cases c1:∃d x,(d,x)∈ygr tm e c L∧0<x∧e-tm≤d∧d≤e∧f≤d∧d≤l
  ·obtain ⟨d,x,hm,hx,h1,h2,h3,h4⟩:=c1
   have full:=ymh hc hL hu hm hx h1 h2 h4
   have h5:=H (e-tm) l (by omega)
   rw[if_pos (by omega)] at h5
   have h6:S O (e-tm) (l+tm)≤S O f (l+tm):=by
    have:∀(O:List (Int×Int)),Pos O→(∀o∈O,e≤o.1)→S O (e-tm) (l+tm)≤S O f (l+tm):=by
     intro O
     induction O with
     |nil=>intro _ _;exact Int.le_refl _
     |cons o r ih=>
      intro hp hd
      have i1:=ih (fun q hq=>hp q (.tail _ hq)) (fun q hq=>hd q (.tail _ hq))
      have i2:=hd o (.head _)
      have i3:=hp o (.head _)
      show (if e-tm≤o.1∧o.1≤l+tm then o.2 else 0)+S r (e-tm) (l+tm)≤(if f≤o.1∧o.1≤l+tm then o.2 else 0)+S r f (l+tm)
      split <;> split <;> omega
    exact this O hO he
   have h7:S (ygr tm e c L) f l≤S (ygr tm e c L) f (e-tm-1)+S (ygr tm e c L) (e-tm) l:=by
    have:∀(M:List (Int×Int)),Pos M→S M f l≤S M f (e-tm-1)+S M (e-tm) l:=by
     intro M
     induction M with
     |nil=>intro _;exact Int.le_refl _
     |cons p r ih=>
      intro hp
      have i1:=ih (fun q hq=>hp q (.tail _ hq))
      have i2:=hp p (.head _)
      show (if f≤p.1∧p.1≤l then p.2 else 0)+S r f l≤((if f≤p.1∧p.1≤e-tm-1 then p.2 else 0)+S r f (e-tm-1))+((if e-tm≤p.1∧p.1≤l then p.2 else 0)+S r (e-tm) l)
      split <;> split <;> split <;> omega
    exact this _ gp
   have h8:=gl f (e-tm-1)
   omega
  ·have h9:S (ygr tm e c L) f l≤S (ygr tm e c L) f (e-tm-1)+S (ygr tm e c L) (e+1) l:=by
    have:∀(M:List (Int×Int)),Pos M→(∀d x,(d,x)∈M→¬ (0<x∧e-tm≤d∧d≤e∧f≤d∧d≤l))→S M f l≤S M f (e-tm-1)+S M (e+1) l:=by
     intro M
     induction M with
     |nil=>intro _ _;exact Int.le_refl _
     |cons p r ih=>
      intro hp hn
      have i1:=ih (fun q hq=>hp q (.tail _ hq)) (fun d x hm=>hn d x (.tail _ hm))
      have i2:=hp p (.head _)
      have i3:=hn p.1 p.2 (.head _)
      show (if f≤p.1∧p.1≤l then p.2 else 0)+S r f l≤((if f≤p.1∧p.1≤e-tm-1 then p.2 else 0)+S r f (e-tm-1))+((if e+1≤p.1∧p.1≤l then p.2 else 0)+S r (e+1) l)
      split <;> split <;> split <;> omega
    exact this _ gp fun d x hm z=>c1 ⟨d,x,hm,z⟩
   have h10:=gl f (e-tm-1)
   have h11:=gl (e+1) l
   have h12:S L (e+1) l≤S O f (l+tm):=by
    by_cases z:e+1≤l
    ·have:=H (e+1) l z
     rw[if_neg (by omega)] at this
     have:=ysi hO (f:=e+1) (l:=l+tm) (f':=f) (l':=l+tm) (by omega) (Int.le_refl _)
     omega
    ·rw[yjm fun p _ y=>by omega]
     exact yhq hO _ _
   omega
 ·have:=H f l hfl
  rw[if_neg c0] at this
  have:=gl f l
  omega
theorem yo2 {tm:Int}(ht:0≤tm):∀{O L:List (Int×Int)},Pos O→Up1 O→Pos L→Up1 L→((∀p∈deal tm O L,p.2=0)↔yyu L O tm)
 |[],L,_,_,hL,_=>by
  constructor
  ·intro h f l _
   have:∀(M:List (Int×Int)),(∀p∈M,p.2=0)→S M f l=0:=by
    intro M
    induction M with
    |nil=>intro _;rfl
    |cons p r ih=>
     intro hm
     have i1:=ih fun q hq=>hm q (.tail _ hq)
     have i2:=hm p (.head _)
     show (if f≤p.1∧p.1≤l then p.2 else 0)+S r f l=0
     split <;> omega
   rw[this L h]
   exact Int.le_refl _
  ·intro h p hp
   have h1:=h p.1 p.1 (Int.le_refl _)
   have h2:p.2≤S L p.1 p.1:=by
    have:∀(M:List (Int×Int)),Pos M→p∈M→p.2≤S M p.1 p.1:=by
     intro M
     induction M with
     |nil=>intro _ hm;cases hm
     |cons q r ih=>
      intro hp' hm
      show p.2≤(if p.1≤q.1∧q.1≤p.1 then q.2 else 0)+S r p.1 p.1
      have i0:=hp' q (.head _)
      have i1:=yhq (L:=r) (fun q hq=>hp' q (.tail _ hq)) p.1 p.1
      rcases List.mem_cons.mp hm with z|z
      ·rw[← z,if_pos ⟨Int.le_refl _,Int.le_refl _⟩]
       omega
      ·have:=ih (fun q hq=>hp' q (.tail _ hq)) z
       split <;> omega
    exact this L hL hp
   have h3:=hL p hp
   have h4:S ([]:List (Int×Int)) p.1 (p.1+tm)=0:=rfl
   show p.2=0
   omega
 |o::O,L,hO,hu,hL,huL=>by
  obtain ⟨e,c⟩:=o
  have hO':Pos O:=fun q hq=>hO q (.tail _ hq)
  obtain ⟨hu1,hu2⟩:=List.pairwise_cons.mp hu
  have hc:0≤c:=hO (e,c) (.head _)
  have ih:=yo2 ht (O:=O) (L:=ygr tm e c L) hO' hu2 (ykr hL) (yws yik huL)
  show (∀p∈deal tm O (ygr tm e c L),p.2=0)↔_
  rw[ih]
  constructor
  ·intro h f l hfl
   have h1:=ymg (tm:=tm) (e:=e) hc hL f l
   have h2:=h f l hfl
   show S L f l≤(if f≤e∧e≤l+tm then c else 0)+S O f (l+tm)
   omega
  ·exact yqd ht hc hL huL hO' hu1
end L2
namespace L2
open PySem PySem.Spec PySem.W PyProof.Rows
def yg2 (rs:List (List Int))(ts:List Int)(v:Int→Int→Int):Nat→Int→Int→Int
 |0=>v
 |n+1=>yce (yg2 rs ts v n) (yad rs 0 (n:Int)) (ts.getD n 0)
def yel (rs:List (List Int))(ts:List Int)(f l:Int):Nat→Int
 |0=>0
 |n+1=>yel rs ts f l n+if f≤yad rs 0 (n:Int)∧yad rs 0 (n:Int)≤l then ts.getD n 0 else 0
theorem yed (rs:List (List Int))(ts:List Int)(v:Int→Int→Int)(f l:Int):∀n,yg2 rs ts v n f l=v f l-yel rs ts f l n
 |0=>by show v f l=v f l-0;omega
 |n+1=>by
  have ih:=yed rs ts v f l n
  show yce (yg2 rs ts v n) (yad rs 0 (n:Int)) (ts.getD n 0) f l=v f l-(yel rs ts f l n+if f≤yad rs 0 (n:Int)∧yad rs 0 (n:Int)≤l then ts.getD n 0 else 0)
  unfold yce
  split <;> omega
def ycx (rs os:List (List Int))(tm:Int)(ts:List Int):Int→Int→Int:=yg2 rs ts (yan os tm) rs.length
end L2
namespace L2
abbrev yzu:=Int×Int×Int×Int
def SX (f l:Int):List yzu→Int
 |[]=>0
 |(d,c,x,y)::Z=>(if f≤d∧d≤l then x else 0)+SX f l Z
def one (d x:Int)(Ts:List (Int×Int)):Int:=(Ts.map fun T=>if T.1≤d∧d≤T.2 then x else 0).sum
def CX (Ts:List (Int×Int))(Z:List yzu):Int:=(Ts.map fun T=>SX T.1 T.2 Z).sum
def yzv (ks:List (Int×Int)):Prop:=(∀p∈ks,p.1≤p.2)∧∀p∈ks,∀q∈ks,p.1≤q.2→q.1≤p.2→(min p.1 q.1,max p.2 q.2)∈ks∧(max p.1 q.1,min p.2 q.2)∈ks
def Modu (v:Int→Int→Int):Prop:=∀f l f' l',f≤l→f'≤l'→f≤l'→f'≤l→v f l+v f' l'=v (min f f') (max l l')+v (max f f') (min l l')
theorem Modu.less {v:Int→Int→Int}(h:Modu v)(d m:Int):Modu (yce v d m):=by
 intro f l f' l' h1 h2 h3 h4
 have e:=h f l f' l' h1 h2 h3 h4
 unfold yce
 by_cases c1:f≤d∧d≤l <;> by_cases c2:f'≤d∧d≤l'
 ·rw[if_pos c1,if_pos c2,if_pos (by omega),if_pos (by omega)];omega
 ·rw[if_pos c1,if_neg c2,if_pos (by omega),if_neg (by omega)];omega
 ·rw[if_neg c1,if_pos c2,if_pos (by omega),if_neg (by omega)];omega
 ·rw[if_neg c1,if_neg c2,if_neg (by omega),if_neg (by omega)];omega
def SO (rs:List (List Int))(Y:Int→Int)(f l:Int):List Int→Int
 |[]=>0
 |i::os=>(if f≤yad rs 0 i∧yad rs 0 i≤l then Y i else 0)+SO rs Y f l os
def yzi (ks:List (Int×Int))(rs:List (List Int))(Y:Int→Int):List Int→(Int→Int→Int)→Int
 |[],_=>0
 |i::os,v=>(ycf ks rs v i-Y i)*yad rs 2 i+yzi ks rs Y os (yce v (yad rs 0 i) (ycf ks rs v i))
end L2
namespace L2
def yfa (g:Int→Int):List Int→Int
 |[]=>0
 |i::os=>g i+yfa g os
theorem yev {g g':Int→Int}:∀{os:List Int},(∀i∈os,g i=g' i)→yfa g os=yfa g' os
 |[],_=>rfl
 |i::os,h=>by
  show g i+_=g' i+_
  rw[h i (.head _),yev fun j hj=>h j (.tail _ hj)]
theorem ygj (g:Int→Int):∀os:List Int,yfa g os=(os.map g).sum
 |[]=>rfl
 |i::os=>by show g i+_=_;rw[ygj g os,List.map_cons,List.sum_cons]
theorem yee {ks:List (Int×Int)}{rs:List (List Int)}{j:Nat}:∀(os:List Int) (v:Int→Int→Int) (cs:List Int),(∀i∈os,i.toNat≠j)→(yav ks rs os v cs).2[j]? = cs[j]?
 |[],v,cs,_=>rfl
 |i::os,v,cs,h=>by
  show (yav ks rs os _ _).2[j]? = _
  rw[yee os _ _ fun k hk=>h k (.tail _ hk),List.getElem?_set_ne (h i (.head _))]
theorem yjn {ks:List (Int×Int)}{rs:List (List Int)}(Y:Int→Int):∀(os:List Int) (v:Int→Int→Int) (cs:List Int),os.Nodup→(∀i∈os,0≤i∧i.toNat<cs.length)→
 yzi ks rs Y os v=yfa (fun i=>((yav ks rs os v cs).2.getD i.toNat 0-Y i)*yad rs 2 i) os∧∀f l,(yav ks rs os v cs).1 f l=v f l-SO rs (fun i=>(yav ks rs os v cs).2.getD i.toNat 0) f l os
 |[],v,cs,_,_=>⟨rfl,fun f l=>by show v f l=v f l-0;omega⟩
 |i::os,v,cs,nd,hi=>by
  obtain ⟨n1,n2⟩:=List.nodup_cons.mp nd
  obtain ⟨i0,i1⟩:=hi i (.head _)
  obtain ⟨a,b⟩:=yjn Y os (yce v (yad rs 0 i) (ycf ks rs v i)) (cs.set i.toNat (ycf ks rs v i)) n2 fun j hj=>⟨(hi j (.tail _ hj)).1,by rw[List.length_set];exact(hi j (.tail _ hj)).2⟩
  have k:(yav ks rs (i::os) v cs).2.getD i.toNat 0=ycf ks rs v i:=by
   show (yav ks rs os _ _).2.getD i.toNat 0=_
   rw[List.getD_eq_getElem?_getD,yee os _ _ fun j hj e=>?_,List.getElem?_set_self i1]
   ·rfl
   ·have:j=i:=by have:=(hi j (.tail _ hj)).1;omega
    subst this
    exact n1 hj
  refine⟨?_,fun f l=>?_⟩
  ·show (ycf ks rs v i-Y i)*yad rs 2 i+yzi ks rs Y os _=((yav ks rs (i::os) v cs).2.getD i.toNat 0-Y i)*yad rs 2 i+_
   rw[k,a]
   rfl
  ·show (yav ks rs os _ _).1 f l=v f l-((if f≤yad rs 0 i∧yad rs 0 i≤l then (yav ks rs (i::os) v cs).2.getD i.toNat 0 else 0)+_)
   rw[k,b f l]
   show yce v _ _ f l-_=v f l-(_+SO rs (fun i=>(yav ks rs os (yce v (yad rs 0 _) (ycf ks rs v _)) (cs.set _ (ycf ks rs v _))).2.getD i.toNat 0) f l os)
   unfold yce
   split <;> omega
theorem yo3 {a b:List Int}(h:a.Perm b):a.sum=b.sum:=by
 induction h with
 |nil=>rfl
 |cons x _ ih=>rw[List.sum_cons,List.sum_cons,ih]
 |swap x y l=>rw[List.sum_cons,List.sum_cons,List.sum_cons,List.sum_cons];omega
 |trans _ _ a b=>exact a.trans b
theorem yfs (n:Nat):(ya9 n).Nodup:=by
 unfold ya9
 exact List.Pairwise.map _ (fun a b h e=>h (by omega)) List.nodup_range
theorem yuk (ds:List Int):yzv (yau ds):=by
 refine⟨fun p hp=>(mem_str.mp (show (p.1,p.2)∈yau ds from hp)).2.2,fun p hp q hq h1 h2=>?_⟩
 obtain ⟨a1,a2,a3⟩:=mem_str.mp (show (p.1,p.2)∈yau ds from hp)
 obtain ⟨b1,b2,b3⟩:=mem_str.mp (show (q.1,q.2)∈yau ds from hq)
 have mn:∀{x y:Int},x∈ds→y∈ds→min x y∈ds:=fun {x y} hx hy=>by
  by_cases c:x≤y
  ·rw[Int.min_eq_left c];exact hx
  ·rw[Int.min_eq_right (by omega)];exact hy
 have mx:∀{x y:Int},x∈ds→y∈ds→max x y∈ds:=fun {x y} hx hy=>by
  by_cases c:x≤y
  ·rw[Int.max_eq_right c];exact hy
  ·rw[Int.max_eq_left (by omega)];exact hx
 exact⟨mem_str.mpr ⟨mn a1 b1,mx a2 b2,by omega⟩,mem_str.mpr ⟨mx a1 b1,mn a2 b2,by omega⟩⟩
theorem ycb (r:List Int)(os:List (List Int))(tm f l:Int):yan (r::os) tm f l=(if f≤r.getD 0 0∧r.getD 0 0≤l+tm then r.getD 1 0 else 0)+yan os tm f l:=by
 unfold yan
 rw[List.filter_cons]
 by_cases c:f≤r.getD 0 0∧r.getD 0 0≤l+tm
 ·rw[if_pos (show ygy tm f l r=true from decide_eq_true c),if_pos c,List.map_cons,List.sum_cons]
 ·rw[if_neg (fun z:ygy tm f l r=true=>c (of_decide_eq_true z)),if_neg c];omega
theorem yjo {tm:Int}(t0:0≤tm):∀os:List (List Int),Modu (yan os tm)
 |[]=>fun f l f' l' _ _ _ _=>rfl
 |r::os=>fun f l f' l' h1 h2 h3 h4=>by
  have e:=yjo t0 os f l f' l' h1 h2 h3 h4
  rw[ycb,ycb,ycb,ycb]
  generalize r.getD 0 0=o
  generalize r.getD 1 0=n
  by_cases c1:f≤o∧o≤l+tm <;> by_cases c2:f'≤o∧o≤l' + tm
  ·rw[if_pos c1,if_pos c2,if_pos (by omega),if_pos (by omega)];omega
  ·rw[if_pos c1,if_neg c2,if_pos (by omega),if_neg (by omega)];omega
  ·rw[if_neg c1,if_pos c2,if_pos (by omega),if_neg (by omega)];omega
  ·rw[if_neg c1,if_neg c2,if_neg (by omega),if_neg (by omega)];omega
end L2
namespace L2
def ycl (rs:List (List Int))(ts:List Int)(is:List Int):List (Int×Int):=is.map fun i=>(yad rs 0 i,ts.getD i.toNat 0)
def yew (os:List (List Int))(js:List Int):List (Int×Int):=js.map fun j=>(yad os 0 j,yad os 1 j)
theorem yul (g:Int→Int×Int)(f l:Int):∀is:List Int,S (is.map g) f l=(is.map fun i=>if f≤(g i).1∧(g i).1≤l then (g i).2 else 0).sum
 |[]=>rfl
 |i::is=>by
  rw[List.map_cons,List.map_cons,List.sum_cons,← yul g f l is]
  rfl
theorem yvk (g:Int→Int×Int)(f l:Int){is js:List Int}(h:is.Perm js):S (is.map g) f l=S (js.map g) f l:=by
 rw[yul,yul]
 exact yo3 (h.map _)
theorem yo4 (f l:Int):∀(a b:List (Int×Int)),S (a++b) f l=S a f l+S b f l
 |[],b=>by show S b f l=0+S b f l;omega
 |p::a,b=>by
  show (if f≤p.1∧p.1≤l then p.2 else 0)+S (a++b) f l=(if f≤p.1∧p.1≤l then p.2 else 0)+S a f l+S b f l
  rw[yo4 f l a b];omega
theorem ysk (rs:List (List Int))(ts:List Int)(f l:Int):∀n,S (ycl rs ts (ya9 n)) f l=yel rs ts f l n
 |0=>rfl
 |n+1=>by
  unfold ycl
  rw[yji,List.map_append,yo4]
  have ih:=ysk rs ts f l n
  unfold ycl at ih
  rw[ih]
  show _+((if f≤yad rs 0 (n:Int)∧yad rs 0 (n:Int)≤l then ts.getD (n:Int).toNat 0 else 0)+0)=_+(if f≤yad rs 0 (n:Int)∧yad rs 0 (n:Int)≤l then ts.getD n 0 else 0)
  rw[Int.toNat_natCast]
  omega
theorem yvl (f l:Int):∀os:List (List Int),S (os.map fun r=>(r.getD 0 0,r.getD 1 0)) f l=yan os 0 f l
 |[]=>rfl
 |r::os=>by
  rw[ycb,← yvl f l os,Int.add_zero]
  rfl
theorem yum (os:List (List Int))(tm f l:Int):yan os tm f l=yan os 0 f (l+tm):=by
 induction os with
 |nil=>rfl
 |cons r os ih=>rw[ycb,ycb,ih,Int.add_zero]
theorem ysl (os:List (List Int)):yew os (ya9 os.length)=os.map fun r=>(r.getD 0 0,r.getD 1 0):=by
 unfold yew ya9
 rw[List.map_map]
 refine List.ext_getElem? fun i=>?_
 rw[List.getElem?_map,List.getElem?_map]
 by_cases h:i<os.length
 ·rw[List.getElem?_range h,List.getElem?_eq_getElem h]
  show some (yad os 0 (i:Int),yad os 1 (i:Int))=_
  unfold yad
  rw[yej (List.getElem?_eq_getElem h)]
  rfl
 ·rw[List.getElem?_eq_none (by rw[List.length_range];omega),List.getElem?_eq_none (by omega)];rfl
theorem ywt {os:List (List Int)}{js:List Int}(h:js.Perm (ya9 os.length))(tm f l:Int):S (yew os js) f (l+tm)=yan os tm f l:=by
 unfold yew
 rw[yvk _ _ _ h]
 have:=ysl os
 unfold yew at this
 rw[this,yvl,← yum]
theorem yhr:∀(xs:List Int),xs≠[]→(∃m∈xs,∀x∈xs,m≤x)∧∃m∈xs,∀x∈xs,x≤m
 |[],h=>absurd rfl h
 |[x],_=>⟨⟨x,.head _,fun y hy=>by rw[List.mem_singleton.mp hy];exact Int.le_refl _⟩,⟨x,.head _,fun y hy=>by rw[List.mem_singleton.mp hy];exact Int.le_refl _⟩⟩
 |x::y::r,_=>by
  obtain ⟨⟨a,ha,h1⟩,⟨b,hb,h2⟩⟩:=yhr (y::r) (fun z=>by cases z)
  refine⟨?_,?_⟩
  ·by_cases c:x≤a
   ·exact⟨x,.head _,fun z hz=>by
     rcases List.mem_cons.mp hz with e|e
     ·omega
     ·have:=h1 z e;omega⟩
   ·exact⟨a,.tail _ ha,fun z hz=>by
     rcases List.mem_cons.mp hz with e|e
     ·omega
     ·exact h1 z e⟩
  ·by_cases c:b≤x
   ·exact⟨x,.head _,fun z hz=>by
     rcases List.mem_cons.mp hz with e|e
     ·omega
     ·have:=h2 z e;omega⟩
   ·exact⟨b,.tail _ hb,fun z hz=>by
     rcases List.mem_cons.mp hz with e|e
     ·omega
     ·exact h2 z e⟩
theorem yzw {L:List (Int×Int)}{f l f' l':Int}:(∀p∈L,f≤p.1→p.1≤l→f'≤p.1∧p.1≤l')→f≤f'→l'≤l→S L f l=S L f' l':=by
 intro h h1 h2
 induction L with
 |nil=>rfl
 |cons p L ih=>
  have e:=ih fun q hq=>h q (.tail _ hq)
  have hp:=h p (.head _)
  show (if f≤p.1∧p.1≤l then p.2 else 0)+S L f l=(if f'≤p.1∧p.1≤l' then p.2 else 0)+S L f' l'
  rw[e]
  by_cases c:f≤p.1∧p.1≤l
  ·rw[if_pos c,if_pos (hp c.1 c.2)]
  ·rw[if_neg c,if_neg (by omega)]
theorem yqe {rs os:List (List Int)}{tm:Int}{ts ds is js:List Int}(hds:yb5 rs ds)(hi:is.Perm (ya9 rs.length))(hj:js.Perm (ya9 os.length))(ho:∀r∈os,0≤r.getD 1 0):(∀p∈yau ds,0≤ycx rs os tm ts p.1 p.2)↔yyu (ycl rs ts is) (yew os js) tm:=by
 have key:∀f l,ycx rs os tm ts f l=S (yew os js) f (l+tm)-S (ycl rs ts is) f l:=fun f l=>by
  unfold ycx
  rw[yed,ywt hj,← ysk]
  unfold ycl
  rw[yvk _ _ _ hi]
 have posO:Pos (yew os js):=fun p hp=>by
  obtain ⟨j,_,rfl⟩:=List.mem_map.mp hp
  exact yfx ho j
 constructor
 ·intro h f l hfl
  by_cases c:(ds.filter fun d=>decide (f≤d∧d≤l))=[]
  ·have:S (ycl rs ts is) f l=0:=yjm fun p hp z=>by
    obtain ⟨i,hi',rfl⟩:=List.mem_map.mp hp
    obtain ⟨i0,i1⟩:=uptoN_mem.mp (hi.mem_iff.mp hi')
    have hl:i.toNat<rs.length:=by omega
    have hd:yad rs 0 i∈ds:=(hds.2.1 _).mpr ⟨rs[i.toNat],List.getElem_mem hl,by unfold yad;rw[List.getD_eq_getElem?_getD (l:=rs),List.getElem?_eq_getElem hl];rfl⟩
    have:yad rs 0 i∈ds.filter fun d=>decide (f≤d∧d≤l):=List.mem_filter.mpr ⟨hd,decide_eq_true z⟩
    rw[c] at this
    cases this
   rw[this]
   exact yhq posO _ _
  ·obtain ⟨⟨a,ha,h1⟩,⟨b,hb,h2⟩⟩:=yhr _ c
   obtain ⟨a1,a2⟩:=List.mem_filter.mp ha
   obtain ⟨b1,b2⟩:=List.mem_filter.mp hb
   have a3:=of_decide_eq_true a2
   have b3:=of_decide_eq_true b2
   have ab:=h1 b hb
   have e:S (ycl rs ts is) f l=S (ycl rs ts is) a b:=yzw (fun p hp z1 z2=>by
    obtain ⟨i,hi',rfl⟩:=List.mem_map.mp hp
    obtain ⟨i0,i1⟩:=uptoN_mem.mp (hi.mem_iff.mp hi')
    have hl:i.toNat<rs.length:=by omega
    have hd:yad rs 0 i∈ds:=(hds.2.1 _).mpr ⟨rs[i.toNat],List.getElem_mem hl,by unfold yad;rw[List.getD_eq_getElem?_getD (l:=rs),List.getElem?_eq_getElem hl];rfl⟩
    have hm:yad rs 0 i∈ds.filter fun d=>decide (f≤d∧d≤l):=List.mem_filter.mpr ⟨hd,decide_eq_true ⟨z1,z2⟩⟩
    exact⟨h1 _ hm,h2 _ hm⟩) a3.1 b3.2
   have k:=key a b
   have h0:=h (a,b) (mem_str.mpr ⟨a1,b1,ab⟩)
   dsimp only at h0
   have mo:S (yew os js) a (b+tm)≤S (yew os js) f (l+tm):=ysi posO a3.1 (by omega)
   omega
 ·intro h p hp
  have:=(mem_str.mp (show (p.1,p.2)∈yau ds from hp)).2.2
  have:=h p.1 p.2 this
  have:=key p.1 p.2
  omega
end L2
namespace L2
def ycm (rs:List (List Int))(tm e j:Int)(st:Int×List Int×List (List Int))(i:Int):Int×List Int×List (List Int):=
 if 0<min st.1 (st.2.1.getD i.toNat 0)∧e-tm≤yad rs 0 i∧yad rs 0 i≤e then (st.1-min st.1 (st.2.1.getD i.toNat 0),st.2.1.set i.toNat (st.2.1.getD i.toNat 0-min st.1 (st.2.1.getD i.toNat 0)),st.2.2++[[i,j,min st.1 (st.2.1.getD i.toNat 0)]]) else st
def ymv (rs os:List (List Int))(tm:Int)(ages:List Int)(st:List Int×List (List Int))(j:Int):List Int×List (List Int):=
 (ages.foldl (ycm rs tm (yad os 0 j) j) (yad os 1 j,st.1,st.2)).2
def yi5 (rs os:List (List Int))(tm:Int)(ages outs ts:List Int):List Int×List (List Int):=outs.foldl (ymv rs os tm ages) (ts,[])
theorem yjp {rs:List (List Int)}{tm e j:Int}{k:Nat}:∀(is:List Int) (st:Int×List Int×List (List Int)),(∀i∈is,i.toNat≠k)→(is.foldl (ycm rs tm e j) st).2.1[k]? = st.2.1[k]?
 |[],st,_=>rfl
 |i::is,st,h=>by
  rw[List.foldl_cons,yjp is _ fun m hm=>h m (.tail _ hm)]
  unfold ycm
  split
  ·exact List.getElem?_set_ne (h i (.head _))
  ·rfl
theorem ygk {rs:List (List Int)}{tm e j:Int}:∀(is:List Int) (st:Int×List Int×List (List Int)),(is.foldl (ycm rs tm e j) st).2.1.length=st.2.1.length
 |[],st=>rfl
 |i::is,st=>by
  rw[List.foldl_cons,ygk is]
  unfold ycm
  split
  ·exact List.length_set
  ·rfl
theorem ymi {rs:List (List Int)}{a b:List Int}{is:List Int}(h:∀i∈is,a[i.toNat]? = b[i.toNat]?):ycl rs a is=ycl rs b is:=by
 unfold ycl
 refine List.map_congr_left fun i hi=>?_
 rw[List.getD_eq_getElem?_getD,List.getD_eq_getElem?_getD,h i hi]
theorem yil {rs:List (List Int)}{tm e j:Int}:∀(is:List Int) (c:Int) (left:List Int) (told:List (List Int)),is.Nodup→(∀i∈is,0≤i∧i.toNat<left.length)→ycl rs (is.foldl (ycm rs tm e j) (c,left,told)).2.1 is=ygr tm e c (ycl rs left is)
 |[],c,left,told,_,_=>rfl
 |i::is,c,left,told,nd,hi=>by
  obtain ⟨n1,n2⟩:=List.nodup_cons.mp nd
  obtain ⟨i0,i1⟩:=hi i (.head _)
  have ne:∀k∈is,k.toNat≠i.toNat:=fun k hk z=>n1 (by
   have:=(hi k (.tail _ hk)).1
   rw[show i=k by omega];exact hk)
  rw[List.foldl_cons]
  show (yad rs 0 i,(is.foldl (ycm rs tm e j) (ycm rs tm e j (c,left,told) i)).2.1.getD i.toNat 0)::ycl rs (is.foldl (ycm rs tm e j) (ycm rs tm e j (c,left,told) i)).2.1 is=(yad rs 0 i,left.getD i.toNat 0-(if 0<min c (left.getD i.toNat 0)∧e-tm≤yad rs 0 i∧yad rs 0 i≤e then min c (left.getD i.toNat 0) else 0))::ygr tm e (c-(if 0<min c (left.getD i.toNat 0)∧e-tm≤yad rs 0 i∧yad rs 0 i≤e then min c (left.getD i.toNat 0) else 0)) (ycl rs left is)
  rw[List.getD_eq_getElem?_getD,yjp is _ ne]
  by_cases z:0<min c (left.getD i.toNat 0)∧e-tm≤yad rs 0 i∧yad rs 0 i≤e
  ·have st:ycm rs tm e j (c,left,told) i=(c-min c (left.getD i.toNat 0),left.set i.toNat (left.getD i.toNat 0-min c (left.getD i.toNat 0)),told++[[i,j,min c (left.getD i.toNat 0)]]):=by
    unfold ycm
    exact if_pos z
   rw[st,if_pos z,yil is _ _ _ n2 fun k hk=>⟨(hi k (.tail _ hk)).1,by rw[List.length_set];exact(hi k (.tail _ hk)).2⟩]
   congr 1
   ·dsimp only
    rw[List.getElem?_set_self i1];rfl
   ·congr 1
    exact ymi fun k hk=>List.getElem?_set_ne (ne k hk).symm
  ·have st:ycm rs tm e j (c,left,told) i=(c,left,told):=by
    unfold ycm
    exact if_neg z
   rw[st,if_neg z,yil is _ _ _ n2 fun k hk=>hi k (.tail _ hk)]
   congr 1
   ·dsimp only
    rw[← List.getD_eq_getElem?_getD,Int.sub_zero]
   ·rw[Int.sub_zero]
theorem ymj {rs os:List (List Int)}{tm:Int}{ages:List Int}(nd:ages.Nodup):∀(outs:List Int) (st:List Int×List (List Int)),(∀i∈ages,0≤i∧i.toNat<st.1.length)→ycl rs (outs.foldl (ymv rs os tm ages) st).1 ages=deal tm (yew os outs) (ycl rs st.1 ages)
 |[],st,_=>rfl
 |j::outs,st,h=>by
  rw[List.foldl_cons,ymj nd outs _ fun i hi=>⟨(h i hi).1,by
   show i.toNat<(ages.foldl (ycm rs tm (yad os 0 j) j) (yad os 1 j,st.1,st.2)).2.1.length
   rw[ygk];exact(h i hi).2⟩]
  show deal tm (yew os outs) (ycl rs (ages.foldl (ycm rs tm (yad os 0 j) j) (yad os 1 j,st.1,st.2)).2.1 ages)=_
  rw[yil ages _ _ _ nd h]
  rfl
theorem ymk {rs:List (List Int)}{n:Nat}{is:List Int}(h:yde (ypu rs) n is):is.Pairwise fun i j=>yad rs 0 i≤yad rs 0 j:=by
 refine h.2.imp fun {i j} z=>?_
 have z':(if yad rs 0 j=yad rs 0 i then (if j=i then false else decide (j<i)) else decide (yad rs 0 j<yad rs 0 i))=false:=z
 by_cases c:yad rs 0 j=yad rs 0 i
 ·omega
 ·rw[if_neg c] at z'
  have:=of_decide_eq_false z'
  omega
theorem yun {rs os:List (List Int)}{tm:Int}{ts ds ages outs:List Int}(ht:0≤tm)(hds:yb5 rs ds)(ha:yde (ypu rs) rs.length ages)(hb:yde (ypu os) os.length outs)(ho:∀r∈os,0≤r.getD 1 0)(hl:ts.length=rs.length)(hts:∀u∈ts,0≤u) :
 (∀i∈ages,(yi5 rs os tm ages outs ts).1.getD i.toNat 0=0)↔∀p∈yau ds,0≤ycx rs os tm ts p.1 p.2:=by
 have nd:ages.Nodup:=(ha.1.nodup_iff).mpr (yfs _)
 have rng:∀i∈ages,0≤i∧i.toNat<ts.length:=fun i hi=>by
  have:=uptoN_mem.mp (ha.1.mem_iff.mp hi)
  exact⟨this.1,by omega⟩
 rw[yqe hds ha.1 hb.1 ho,← yo2 ht (O:=yew os outs) (L:=ycl rs ts ages) (fun p hp=>by
  obtain ⟨j,_,rfl⟩:=List.mem_map.mp hp
  exact yfx ho j) (List.pairwise_map.mpr (ymk hb)) (fun p hp=>by
  obtain ⟨i,hi,rfl⟩:=List.mem_map.mp hp
  have:=(rng i hi).2
  show 0≤ts.getD i.toNat 0
  rw[List.getD_eq_getElem?_getD,List.getElem?_eq_getElem this]
  exact hts _ (List.getElem_mem this)) (List.pairwise_map.mpr (ymk ha)),← ymj nd outs (ts,[]) rng]
 show _↔∀p∈ycl rs (yi5 rs os tm ages outs ts).1 ages,p.2=0
 constructor
 ·intro h p hp
  obtain ⟨i,hi,rfl⟩:=List.mem_map.mp hp
  exact h i hi
 ·intro h i hi
  exact h _ (List.mem_map.mpr ⟨i,hi,rfl⟩)
end L2
namespace L2
theorem ysm {g:Int→Int}{a b:List Int}(h:a.Perm b):yfa g a=yfa g b:=by
 rw[ygj,ygj]
 exact yo3 (h.map _)
theorem yvm (rs:List (List Int))(Y:Int→Int)(f l:Int):∀os:List Int,SO rs Y f l os=yfa (fun i=>if f≤yad rs 0 i∧yad rs 0 i≤l then Y i else 0) os
 |[]=>rfl
 |i::os=>by
  show _+SO rs Y f l os=_+yfa _ os
  rw[yvm rs Y f l os]
def ybp (rs:List (List Int))(Y:Int→Int)(f l:Int):Int:=yfa (fun i=>if f≤yad rs 0 i∧yad rs 0 i≤l then Y i else 0) (ya9 rs.length)
def Fits (rs os:List (List Int))(tm:Int)(Y:Int→Int):Prop:=(∀i,0≤i→i<(rs.length:Int)→0≤Y i∧Y i≤yad rs 1 i)∧∀ds,yb5 rs ds→∀p∈yau ds,ybp rs Y p.1 p.2≤yan os tm p.1 p.2
theorem BestIs.fits {rs os:List (List Int)}{tm:Int}{cs:List Int}(h:BestIs rs os tm cs)(hr:∀r∈rs,0≤r.getD 1 0)(ho:∀r∈os,0≤r.getD 1 0):Fits rs os tm fun i=>cs.getD i.toNat 0:=by
 have tk:=h.taken hr ho
 obtain ⟨ds,ord,hds,hord,e⟩:=h
 have mem:∀i∈ord,0≤i∧i<(rs.length:Int):=fun i hi=>uptoN_mem.mp (hord.1.mem_iff.mp hi)
 have nd:ord.Nodup:=(hord.1.nodup_iff).mpr (yfs _)
 have rng:∀i∈ord,0≤i∧i.toNat<(List.replicate rs.length (0:Int)).length:=fun i hi=>by
  have:=mem i hi
  rw[List.length_replicate]
  exact⟨this.1,by omega⟩
 obtain ⟨_,F2⟩:=yjn (ks:=yau ds) (rs:=rs) (fun _=>0) ord (yan os tm) (List.replicate rs.length 0) nd rng
 have nn:=(yff (rs:=rs) (ks:=yau ds) ord (yan os tm) (List.replicate rs.length 0) (fun i hi=>⟨(mem i hi).1,yfx hr i⟩) (fun p _=>ygi ho _ _ _) (fun j u e=>by
  have:=List.mem_of_getElem? e
  rw[(List.mem_replicate.mp this).2]
  exact⟨Int.le_refl _,yfx hr _⟩)).1
 refine⟨fun i i0 i1=>?_,fun ds' hds' p hp=>?_⟩
 ·have hl:i.toNat<cs.length:=by rw[tk.1];omega
  have hl':i.toNat<rs.length:=by omega
  have:=tk.2 i.toNat rs[i.toNat] cs[i.toNat] hl' (List.getElem?_eq_getElem hl') (List.getElem?_eq_getElem hl)
  dsimp only
  rw[List.getD_eq_getElem?_getD,List.getElem?_eq_getElem hl]
  unfold yad
  rw[List.getD_eq_getElem?_getD (l:=rs),List.getElem?_eq_getElem hl']
  exact this
 ·have ed:ds'=ds:=yii hds' hds fun _=>Iff.rfl
  subst ed
  have a:=F2 p.1 p.2
  rw[← e,yvm,ysm hord.1] at a
  have b:=nn p hp
  show yfa (fun i=>if p.1≤yad rs 0 i∧yad rs 0 i≤p.2 then cs.getD i.toNat 0 else 0) (ya9 rs.length)≤_
  omega
end L2
namespace L2
theorem yks {f l f' l' tm:Int}(h1:f≤f')(h2:l'≤l):∀os:List (List Int),(∀r∈os,0≤r.getD 1 0)→yan os tm f' l'≤yan os tm f l
 |[],_=>Int.le_refl _
 |r::os,h=>by
  have:=yks (tm:=tm) h1 h2 os fun r hr=>h r (.tail _ hr)
  have:=h r (.head _)
  rw[ycb,ycb]
  by_cases c:f'≤r.getD 0 0∧r.getD 0 0≤l' + tm
  ·rw[if_pos c,if_pos (by omega)];omega
  ·rw[if_neg c]
   split <;> omega
theorem ynt (rs:List (List Int))(Y:Int→Int)(f l:Int):ybp rs Y f l=S ((ya9 rs.length).map fun i=>(yad rs 0 i,Y i)) f l:=by
 rw[yul]
 unfold ybp
 rw[ygj]
theorem Fits.all {rs os:List (List Int)}{tm:Int}{Y:Int→Int}{ds:List Int}(hY:Fits rs os tm Y)(hds:yb5 rs ds)(ho:∀r∈os,0≤r.getD 1 0)(f l:Int):ybp rs Y f l≤yan os tm f l:=by
 have day:∀p∈(ya9 rs.length).map fun i=>(yad rs 0 i,Y i),p.1∈ds:=fun p hp=>by
  obtain ⟨i,hi',rfl⟩:=List.mem_map.mp hp
  obtain ⟨i0,i1⟩:=uptoN_mem.mp hi'
  have hl:i.toNat<rs.length:=by omega
  exact(hds.2.1 _).mpr ⟨rs[i.toNat],List.getElem_mem hl,by show _=yad rs 0 i;unfold yad;rw[List.getD_eq_getElem?_getD (l:=rs),List.getElem?_eq_getElem hl];rfl⟩
 by_cases c:(ds.filter fun d=>decide (f≤d∧d≤l))=[]
 ·rw[ynt,yjm fun p hp z=>by
   have:p.1∈ds.filter fun d=>decide (f≤d∧d≤l):=List.mem_filter.mpr ⟨day p hp,decide_eq_true z⟩
   rw[c] at this
   cases this]
  exact ygi ho _ _ _
 ·obtain ⟨⟨a,ha,h1⟩,⟨b,hb,h2⟩⟩:=yhr _ c
  obtain ⟨a1,a2⟩:=List.mem_filter.mp ha
  obtain ⟨b1,b2⟩:=List.mem_filter.mp hb
  have a3:=of_decide_eq_true a2
  have b3:=of_decide_eq_true b2
  have e:ybp rs Y f l=ybp rs Y a b:=by
   rw[ynt,ynt]
   exact yzw (fun p hp z1 z2=>by
    have hm:p.1∈ds.filter fun d=>decide (f≤d∧d≤l):=List.mem_filter.mpr ⟨day p hp,decide_eq_true ⟨z1,z2⟩⟩
    exact⟨h1 _ hm,h2 _ hm⟩) a3.1 b3.2
  rw[e]
  exact Int.le_trans (hY.2 ds hds (a,b) (mem_str.mpr ⟨a1,b1,h1 b hb⟩)) (yks a3.1 b3.2 os ho)
theorem yf5 {g g':Int→Int}:∀{os:List Int},(∀i∈os,g i≤g' i)→yfa g os≤yfa g' os
 |[],_=>Int.le_refl _
 |i::os,h=>by
  have:=h i (.head _)
  have:=yf5 fun j hj=>h j (.tail (b:=i) hj)
  show g i+_≤g' i+_
  omega
theorem ykt {g g':Int→Int}:∀os:List Int,yfa (fun i=>g i+g' i) os=yfa g os+yfa g' os
 |[]=>rfl
 |i::os=>by
  show g i+g' i+_=g i+_+(g' i+_)
  rw[ykt os];omega
def yml (rs:List (List Int))(u:Int)(c:Int→Int)(ss:List (List Int)):Int:=yfa (fun i=>if u≤yad rs 2 i∧yd9 (yad rs 0 i) ss=false then c i else 0) (ya9 rs.length)
theorem ysn (rs:List (List Int))(u:Int):∀(ss:List (List Int)) (Y c:Int→Int),(∀i∈ya9 rs.length,0≤Y i∧Y i≤c i)→yfa (fun i=>if u≤yad rs 2 i then Y i else 0) (ya9 rs.length)≤yml rs u c ss+(ss.map fun r=>ybp rs Y (r.getD 0 0) (r.getD 1 0)).sum
 |[],Y,c,h=>by
  have:yfa (fun i=>if u≤yad rs 2 i then Y i else 0) (ya9 rs.length)≤yml rs u c []:=yf5 fun i hi=>by
   have:=h i hi
   by_cases z:u≤yad rs 2 i
   ·rw[if_pos z,if_pos ⟨z,rfl⟩];omega
   ·rw[if_neg z,if_neg fun y=>z y.1];exact Int.le_refl _
  show _≤yml rs u c []+0
  omega
 |s::ss,Y,c,h=>by
  have ih:=ysn rs u ss (fun i=>if yb2 (yad rs 0 i) s=true then 0 else Y i) (fun i=>if yb2 (yad rs 0 i) s=true then 0 else c i) fun i hi=>by
   have:=h i hi
   split <;> omega
  have a:yfa (fun i=>if u≤yad rs 2 i then Y i else 0) (ya9 rs.length)≤ybp rs Y (s.getD 0 0) (s.getD 1 0)+yfa (fun i=>if u≤yad rs 2 i then (if yb2 (yad rs 0 i) s=true then 0 else Y i) else 0) (ya9 rs.length):=by
   unfold ybp
   rw[← ykt]
   refine yf5 fun i hi=>?_
   have:=h i hi
   have hw:yb2 (yad rs 0 i) s=true↔(s.getD 0 0≤yad rs 0 i∧yad rs 0 i≤s.getD 1 0):=by unfold yb2;rw[decide_eq_true_iff]
   by_cases w:yb2 (yad rs 0 i) s=true
   ·rw[if_pos (hw.mp w),if_pos w]
    split <;> omega
   ·rw[if_neg fun z=>w (hw.mpr z),if_neg w]
    split <;> omega
  have b:yml rs u (fun i=>if yb2 (yad rs 0 i) s=true then 0 else c i) ss≤yml rs u c (s::ss):=yf5 fun i hi=>by
   have:=h i hi
   have e:yd9 (yad rs 0 i) (s::ss)=(yb2 (yad rs 0 i) s || yd9 (yad rs 0 i) ss):=rfl
   rw[e]
   dsimp only
   by_cases w:yb2 (yad rs 0 i) s=true
   ·rw[if_pos w,w]
    split <;> split <;> omega
   ·rw[if_neg w,Bool.eq_false_iff.mpr w,Bool.false_or]
    exact Int.le_refl _
  have d:(ss.map fun r=>ybp rs (fun i=>if yb2 (yad rs 0 i) s=true then 0 else Y i) (r.getD 0 0) (r.getD 1 0)).sum≤(ss.map fun r=>ybp rs Y (r.getD 0 0) (r.getD 1 0)).sum:=by
   have one:∀f l,ybp rs (fun i=>if yb2 (yad rs 0 i) s=true then 0 else Y i) f l≤ybp rs Y f l:=by
    intro f l
    unfold ybp
    refine yf5 fun i hi=>?_
    have:=h i hi
    dsimp only
    by_cases z:f≤yad rs 0 i∧yad rs 0 i≤l
    ·rw[if_pos z,if_pos z]
     split
     ·exact this.1
     ·exact Int.le_refl _
    ·rw[if_neg z,if_neg z]
     exact Int.le_refl _
   clear ih b
   induction ss with
   |nil=>exact Int.le_refl _
   |cons r ss ih'=>
    rw[List.map_cons,List.map_cons,List.sum_cons,List.sum_cons]
    have:=one (r.getD 0 0) (r.getD 1 0)
    omega
  rw[List.map_cons,List.sum_cons]
  omega
theorem Fits.weak {rs os:List (List Int)}{tm:Int}{Y:Int→Int}{ds:List Int}(hY:Fits rs os tm Y)(hds:yb5 rs ds)(ho:∀r∈os,0≤r.getD 1 0)(u:Int)(ss:List (List Int)):yfa (fun i=>if u≤yad rs 2 i then Y i else 0) (ya9 rs.length)≤yml rs u (fun i=>yad rs 1 i) ss+yc8 os tm ss:=by
 have a:=ysn rs u ss Y (fun i=>yad rs 1 i) fun i hi=>hY.1 i (uptoN_mem.mp hi).1 (uptoN_mem.mp hi).2
 have b:(ss.map fun r=>ybp rs Y (r.getD 0 0) (r.getD 1 0)).sum≤yc8 os tm ss:=by
  clear a
  unfold yc8
  induction ss with
  |nil=>exact Int.le_refl _
  |cons r ss ih=>
   rw[List.map_cons,List.map_cons,List.sum_cons,List.sum_cons]
   have:=hY.all hds ho (r.getD 0 0) (r.getD 1 0)
   omega
 omega
theorem ymm (G:List Int→Int)(rs:List (List Int)):yfa (fun i=>G (rs.getD i.toNat [])) (ya9 rs.length)=(rs.map G).sum:=by
 rw[ygj]
 congr 1
 unfold ya9
 rw[List.map_map]
 refine List.ext_getElem? fun i=>?_
 rw[List.getElem?_map,List.getElem?_map]
 by_cases h:i<rs.length
 ·rw[List.getElem?_range h,List.getElem?_eq_getElem h]
  show some (G (rs.getD ((i:Nat):Int).toNat []))=_
  rw[yej (List.getElem?_eq_getElem h)]
  rfl
 ·rw[List.getElem?_eq_none (by rw[List.length_range];omega),List.getElem?_eq_none (by omega)];rfl
theorem yg3 (p:List Int→Bool)(G:List Int→Int):∀rs:List (List Int),((rs.filter p).map G).sum=(rs.map fun r=>if p r=true then G r else 0).sum
 |[]=>rfl
 |r::rs=>by
  rw[List.filter_cons,List.map_cons,List.sum_cons,← yg3 p G rs]
  by_cases c:p r=true
  ·rw[if_pos c,if_pos c,List.map_cons,List.sum_cons]
  ·rw[if_neg c,if_neg c];omega
theorem yuo (rs os:List (List Int))(tm u:Int)(ss:List (List Int)):ye8 rs os tm u ss=yml rs u (fun i=>yad rs 1 i) ss+yc8 os tm ss:=by
 unfold ye8 unitsOf
 congr 1
 rw[List.filter_filter,yg3]
 unfold yml
 have:=ymm (fun r=>if u≤r.getD 2 0∧yd9 (r.getD 0 0) ss=false then r.getD 1 0 else 0) rs
 refine Eq.trans ?_ this.symm
 congr 1
 refine List.map_congr_left fun r _=>?_
 unfold ybj
 generalize r.getD 2 0=x
 generalize yd9 (r.getD 0 0) ss=y
 cases y <;> by_cases c:u≤x <;> simp [c]
end L2
namespace L2
open PySem PySem.Spec PySem.W PyProof.Rows
theorem yim {rs:List (List Int)}{ts:List Int}{k:Nat}{x f l:Int}(hk:k<ts.length):∀n,yel rs (ts.set k x) f l n=yel rs ts f l n+if k<n∧f≤yad rs 0 (k:Int)∧yad rs 0 (k:Int)≤l then x-ts.getD k 0 else 0
 |0=>by rw[if_neg (by omega)];rfl
 |n+1=>by
  have ih:=yim (rs:=rs) (x:=x) (f:=f) (l:=l) hk n
  show yel rs (ts.set k x) f l n+(if f≤yad rs 0 (n:Int)∧yad rs 0 (n:Int)≤l then (ts.set k x).getD n 0 else 0)=yel rs ts f l n+(if f≤yad rs 0 (n:Int)∧yad rs 0 (n:Int)≤l then ts.getD n 0 else 0)+_
  rw[ih]
  by_cases e:k=n
  ·subst e
   have g:(ts.set k x).getD k 0=x:=by rw[List.getD_eq_getElem?_getD,List.getElem?_set_self hk];rfl
   rw[g,if_neg (fun z:k<k∧_=>Nat.lt_irrefl _ z.1)]
   by_cases c:f≤yad rs 0 (k:Int)∧yad rs 0 (k:Int)≤l
   ·rw[if_pos c,if_pos c,if_pos ⟨Nat.lt_succ_self _,c⟩];omega
   ·rw[if_neg c,if_neg c,if_neg (fun z=>c z.2)]
  ·have g:(ts.set k x).getD n 0=ts.getD n 0:=by rw[List.getD_eq_getElem?_getD,List.getElem?_set_ne e,List.getD_eq_getElem?_getD]
   rw[g]
   generalize (if f≤yad rs 0 (n:Int)∧yad rs 0 (n:Int)≤l then ts.getD n 0 else 0)=y
   by_cases c:k<n∧f≤yad rs 0 (k:Int)∧yad rs 0 (k:Int)≤l
   ·rw[if_pos c,if_pos ⟨by omega,c.2⟩];omega
   ·rw[if_neg c,if_neg (fun z=>c ⟨by omega,z.2⟩)];omega
theorem yin {rs os:List (List Int)}{tm:Int}{ts:List Int}{k:Nat}{x f l:Int}(hk:k<ts.length)(hl:ts.length=rs.length):ycx rs os tm (ts.set k x) f l=ycx rs os tm ts f l-if f≤yad rs 0 (k:Int)∧yad rs 0 (k:Int)≤l then x-ts.getD k 0 else 0:=by
 unfold ycx
 rw[yed,yed,yim hk]
 by_cases c:f≤yad rs 0 (k:Int)∧yad rs 0 (k:Int)≤l
 ·rw[if_pos c,if_pos ⟨by omega,c⟩];omega
 ·rw[if_neg c,if_neg (fun z=>c z.2)];omega
def insD (x:Int):List Int→List Int
 |[]=>[x]
 |d::ds=>if x<d then x::d::ds else if x=d then d::ds else d::insD x ds
theorem mem_insD {x z:Int}:∀{ds:List Int},z∈insD x ds↔z=x∨z∈ds
 |[]=>by simp [insD]
 |d::ds=>by
  unfold insD
  split
  ·simp
  ·split
   ·rename_i e;subst e;simp
   ·rw[List.mem_cons,mem_insD,List.mem_cons]
    constructor
    ·rintro (h|h|h) <;> simp [h]
    ·rintro (h|h|h) <;> simp [h]
theorem yso {x:Int}:∀{ds:List Int},ds.Pairwise (· < ·)→(insD x ds).Pairwise (· < ·)
 |[],_=>by simp [insD]
 |d::ds,h=>by
  obtain ⟨h1,h2⟩:=List.pairwise_cons.mp h
  unfold insD
  split
  ·rename_i c
   refine List.pairwise_cons.mpr ⟨fun z hz=>?_,h⟩
   rcases List.mem_cons.mp hz with e|e
   ·omega
   ·have:=h1 z e;omega
  ·rename_i c
   split
   ·exact h
   ·rename_i e
    refine List.pairwise_cons.mpr ⟨fun z hz=>?_,yso h2⟩
    rcases mem_insD.mp hz with y|y
    ·omega
    ·exact h1 z y
theorem yo5 {x:Int}:∀{ds:List Int},(insD x ds).length≤ds.length+1
 |[]=>Nat.le_refl _
 |d::ds=>by
  unfold insD
  split
  ·simp
  ·split
   ·simp
   ·have:=yo5 (x:=x) (ds:=ds)
    simp;omega
theorem yex:∀rs:List (List Int),∃ds,yb5 rs ds
 |[]=>⟨[],.nil,fun d=>⟨fun h=>(by cases h),fun ⟨r,h,_⟩=>(by cases h)⟩,Nat.le_refl _⟩
 |r::rs=>by
  obtain ⟨ds,h1,h2,h3⟩:=yex rs
  refine⟨insD (r.getD 0 0) ds,yso h1,fun d=>?_,Nat.le_trans yo5 (by rw[List.length_cons];omega)⟩
  rw[mem_insD,h2 d]
  constructor
  ·rintro (e|⟨q,hq,e⟩)
   ·exact⟨r,.head _,e.symm⟩
   ·exact⟨q,.tail _ hq,e⟩
  ·rintro ⟨q,hq,e⟩
   rcases List.mem_cons.mp hq with z|z
   ·subst z;exact .inl e.symm
   ·exact .inr ⟨q,z,e⟩
def NoLack (rs os:List (List Int))(tm:Int)(ts:List Int):Prop:=∀ds,yb5 rs ds→∀p∈yau ds,0≤ycx rs os tm ts p.1 p.2
theorem ysp {rs:List (List Int)}{ds ds':List Int}(h:yb5 rs ds)(h':yb5 rs ds'):ds'=ds:=yii h' h fun _=>Iff.rfl
theorem NoLack.of {rs os:List (List Int)}{tm:Int}{ts ds:List Int}(hds:yb5 rs ds)(h:∀p∈yau ds,0≤ycx rs os tm ts p.1 p.2):NoLack rs os tm ts:=fun ds' h'=>by rw[ysp hds h'];exact h
theorem yo6 {rs:List (List Int)}{tm e j:Int}:∀(is:List Int) (st:Int×List Int×List (List Int)),(∀x∈st.2.1,0≤x)→∀x∈(is.foldl (ycm rs tm e j) st).2.1,0≤x
 |[],st,h=>h
 |i::is,st,h=>by
  rw[List.foldl_cons]
  refine yo6 is _ fun x hx=>?_
  unfold ycm at hx
  split at hx
  ·rcases List.mem_or_eq_of_mem_set hx with z|z
   ·exact h x z
   ·rw[z];omega
  ·exact h x hx
theorem yo7 {rs os:List (List Int)}{tm:Int}{ages:List Int}:∀(outs:List Int) (st:List Int×List (List Int)),(∀x∈st.1,0≤x)→∀x∈(outs.foldl (ymv rs os tm ages) st).1,0≤x
 |[],st,h=>h
 |j::outs,st,h=>by
  rw[List.foldl_cons]
  exact yo7 outs _ (yo6 ages _ h)
theorem yio {rs os:List (List Int)}{tm:Int}{ages:List Int}:∀(outs:List Int) (st:List Int×List (List Int)),(outs.foldl (ymv rs os tm ages) st).1.length=st.1.length
 |[],st=>rfl
 |j::outs,st=>by
  rw[List.foldl_cons,yio outs]
  exact ygk ages _
theorem yg4 {rs:List (List Int)}{tm e j:Int}:∀(is:List Int) (st:Int×List Int×List (List Int)),(is.foldl (ycm rs tm e j) st).2.2.length≤st.2.2.length+is.length
 |[],st=>Nat.le_refl _
 |i::is,st=>by
  have a:=yg4 (rs:=rs) (tm:=tm) (e:=e) (j:=j) is (ycm rs tm e j st i)
  have b:(ycm rs tm e j st i).2.2.length≤st.2.2.length+1:=by
   unfold ycm
   split
   ·rw[List.length_append,List.length_singleton];exact Nat.le_refl _
   ·exact Nat.le_succ _
  rw[List.foldl_cons,List.length_cons]
  omega
theorem yjq {rs os:List (List Int)}{tm:Int}{ages:List Int}:∀(outs:List Int) (st:List Int×List (List Int)),(outs.foldl (ymv rs os tm ages) st).2.length≤st.2.length+outs.length*ages.length
 |[],st=>by rw[List.length_nil,Nat.zero_mul];exact Nat.le_refl _
 |j::outs,st=>by
  have a:=yjq (rs:=rs) (os:=os) (tm:=tm) (ages:=ages) outs (ymv rs os tm ages st j)
  have b:(ymv rs os tm ages st j).2.length≤st.2.length+ages.length:=yg4 (rs:=rs) (tm:=tm) (e:=yad os 0 j) (j:=j) ages (yad os 1 j,st.1,st.2)
  rw[List.foldl_cons,List.length_cons,Nat.succ_mul]
  omega
theorem ysq:∀{xs:List Int},(∀x∈xs,0≤x)→0≤xs.sum∧(xs.sum=0↔∀x∈xs,x=0)
 |[],_=>⟨Int.le_refl _,by simp⟩
 |x::xs,h=>by
  obtain ⟨a,b⟩:=ysq fun y hy=>h y (.tail _ hy)
  have h0:=h x (.head _)
  rw[List.sum_cons]
  refine⟨by omega,fun z=>?_,fun z=>?_⟩
  ·have e:xs.sum=0:=by omega
   exact zfm0 ⟨by omega,b.mp e⟩
  ·obtain ⟨z1,z2⟩:=List.forall_mem_cons.mp z
   rw[z1,b.mpr z2];rfl
theorem yup {rs os:List (List Int)}{tm:Int}{ts ages outs:List Int}(ht:0≤tm)(ha:yde (ypu rs) rs.length ages)(hb:yde (ypu os) os.length outs)(ho:∀r∈os,0≤r.getD 1 0)(hl:ts.length=rs.length)(hts:∀u∈ts,0≤u) :
 0≤(yi5 rs os tm ages outs ts).1.sum∧((yi5 rs os tm ages outs ts).1.sum=0↔NoLack rs os tm ts):=by
 obtain ⟨ds,hds⟩:=yex rs
 have nn:=yo7 (rs:=rs) (os:=os) (tm:=tm) (ages:=ages) outs (ts,[]) hts
 have ln:=yio (rs:=rs) (os:=os) (tm:=tm) (ages:=ages) outs (ts,[])
 obtain ⟨s0,s1⟩:=ysq nn
 refine⟨s0,?_⟩
 have e1:NoLack rs os tm ts↔∀p∈yau ds,0≤ycx rs os tm ts p.1 p.2:=⟨fun h=>h ds hds,fun h=>.of hds h⟩
 rw[e1,← yun ht hds ha hb ho hl hts]
 refine s1.trans ?_
 show (∀x∈(yi5 rs os tm ages outs ts).1,x=0)↔_
 have ln':(yi5 rs os tm ages outs ts).1.length=rs.length:=ln.trans hl
 constructor
 ·intro h i hi
  have:=uptoN_mem.mp (ha.1.mem_iff.mp hi)
  have hk:i.toNat<(yi5 rs os tm ages outs ts).1.length:=by omega
  rw[List.getD_eq_getElem?_getD,List.getElem?_eq_getElem hk]
  exact h _ (List.getElem_mem hk)
 ·intro h x hx
  obtain ⟨k,hk,e⟩:=List.getElem_of_mem hx
  have:=h ((k:Nat):Int) (ha.1.mem_iff.mpr (uptoN_mem.mpr ⟨by omega,by omega⟩))
  rw[Int.toNat_natCast,List.getD_eq_getElem?_getD,List.getElem?_eq_getElem hk,e] at this
  exact this
def ywu (rs os:List (List Int))(tm:Int)(ts:List Int)(i M:Int):Prop:=∀ds,yb5 rs ds→FreeIs (yau ds) (ycx rs os tm ts) (yad rs 0 i) (yad rs 1 i-ts.getD i.toNat 0) M
theorem yku {rs os:List (List Int)}{tm:Int}{ts ds:List Int}{k:Nat}{m:Int}(hds:yb5 rs ds)(hk:k<ts.length)(hl:ts.length=rs.length)(h:NoLack rs os tm ts):NoLack rs os tm (ts.set k (ts.getD k 0+m))↔∀p∈yau ds,p.1≤yad rs 0 (k:Int)→yad rs 0 (k:Int)≤p.2→m≤ycx rs os tm ts p.1 p.2:=by
 constructor
 ·intro z p hp a b
  have:=z ds hds p hp
  rw[yin hk hl,if_pos ⟨a,b⟩] at this
  omega
 ·intro z
  refine .of hds fun p hp=>?_
  rw[yin hk hl]
  by_cases c:p.1≤yad rs 0 (k:Int)∧yad rs 0 (k:Int)≤p.2
  ·rw[if_pos c]
   have:=z p hp c.1 c.2
   omega
  ·rw[if_neg c]
   have:=h ds hds p hp
   omega
theorem ywv {rs os:List (List Int)}{tm:Int}{ts:List Int}{k:Nat}{M:Int}(hk:k<ts.length)(hl:ts.length=rs.length)(h:NoLack rs os tm ts)(m1:M≤yad rs 1 (k:Int)-ts.getD k 0)(ok:NoLack rs os tm (ts.set k (ts.getD k 0+M)))
 (no:M<yad rs 1 (k:Int)-ts.getD k 0→¬ NoLack rs os tm (ts.set k (ts.getD k 0+(M+1)))):ywu rs os tm ts (k:Int) M:=by
 intro ds hds
 rw[yku hds hk hl h] at ok
 rw[yku hds hk hl h] at no
 refine⟨by rw[Int.toNat_natCast];exact m1,ok,?_⟩
 rw[Int.toNat_natCast]
 by_cases c:M=yad rs 1 (k:Int)-ts.getD k 0
 ·exact .inl c
 ·refine .inr ?_
  have z:=no (by omega)
  refine Classical.byContradiction fun y=>z fun p hp a b=>?_
  have e:=ok p hp a b
  by_cases w:M=ycx rs os tm ts p.1 p.2
  ·exact absurd ⟨p,hp,a,b,w⟩ y
  ·omega
theorem yfj {rs os:List (List Int)}{tm:Int}{ks:List (Int×Int)}:∀(is:List Int) (v:Int→Int→Int) (cs:List Int),(∀f l,v f l=ycx rs os tm cs f l)→is.Nodup→(∀i∈is,0≤i∧i.toNat<cs.length∧cs.getD i.toNat 0=0)→cs.length=rs.length→∀f l,(yav ks rs is v cs).1 f l=ycx rs os tm (yav ks rs is v cs).2 f l
 |[],v,cs,h,_,_,_=>h
 |i::is,v,cs,h,nd,hi,hl=>by
  obtain ⟨n1,n2⟩:=List.nodup_cons.mp nd
  obtain ⟨i0,i1,i2⟩:=hi i (.head _)
  refine yfj is _ _ (fun f l=>?_) n2 (fun j hj=>?_) (by rw[List.length_set];exact hl)
  ·rw[yin i1 hl,i2,show ((i.toNat:Nat):Int)=i by omega,← h f l]
   unfold yce
   split <;> omega
  ·obtain ⟨j0,j1,j2⟩:=hi j (.tail _ hj)
   have ne:i.toNat≠j.toNat:=fun z=>n1 (by rw[show i=j by omega];exact hj)
   refine⟨j0,by rw[List.length_set];exact j1,?_⟩
   rw[List.getD_eq_getElem?_getD,List.getElem?_set_ne ne,← List.getD_eq_getElem?_getD]
   exact j2
theorem slack_zero {rs os:List (List Int)}{tm f l:Int}{n:Nat}:ycx rs os tm (List.replicate n 0) f l=yan os tm f l:=by
 unfold ycx
 rw[yed]
 have:∀m,yel rs (List.replicate n 0) f l m=0:=by
  intro m
  induction m with
  |zero=>rfl
  |succ k ih=>
   show yel rs (List.replicate n 0) f l k+(if f≤yad rs 0 (k:Int)∧yad rs 0 (k:Int)≤l then (List.replicate n (0:Int)).getD k 0 else 0)=0
   rw[ih,List.getD_eq_getElem?_getD,List.getElem?_replicate]
   have g:((if k<n then some (0:Int) else none).getD 0)=0:=by split <;> rfl
   rw[g]
   split <;> rfl
 rw[this];omega
def yzj (σ:List (Option V)):Nat:=match σ[5]?,σ[6]? with
 |some (some (V.int lo)),some (some (V.int hi))=>(hi-lo).toNat
 |_,_=>0
theorem yww (ts:List Int){k:Nat}(x:Int)(h:k<ts.length):ts.take k++[x]++ts.drop (k+1)=ts.set k x:=by
 rw[List.set_eq_take_append_cons_drop,if_pos h,List.append_assoc];rfl
def ynu (tb:Tbs):Sp:=fun vs H Q _=>∃(a b t:Addr) (tm:Int) (rs os:List (List Int)) (ts:List Int),vs=[.ref a,.ref b,.int tm,.ref t]∧Tb tb H∧Rows H a rs∧(∀r∈rs,r.length=3)∧rs.length≤31∧Rows H b os∧(∀r∈os,r.length=2)∧os.length≤31∧ybd H t ts∧ts.length=rs.length∧
 ∀q l ages outs H',H q=none→H l=none→yde (ypu rs) rs.length ages→yde (ypu os) os.length outs→Same H H'→Rows H' l (yi5 rs os tm ages outs ts).2→H' q=some (.tup [.ref l,.int (yi5 rs os tm ages outs ts).1.sum])→Q (.ref q) H'
structure LotsOk (rs os:List (List Int)) (tm:Int):Prop where
 h3:∀r∈rs,r.length=3
 rn:rs.length≤31
 h2:∀r∈os,r.length=2
 on:os.length≤31
 r0:∀r∈rs,0≤r.getD 1 0
 o0:∀r∈os,0≤r.getD 1 0
 t0:0≤tm
 rd:∀r∈rs,yvf r
 rc:∀r∈rs,r.getD 1 0≤10000000000
def ynv (tb:Tbs):Sp:=fun vs H Q _=>∃(a b t:Addr) (tm:Int) (rs os:List (List Int)) (ts:List Int) (k:Nat),vs=[.ref a,.ref b,.int tm,.ref t,.int (k:Int)]∧Tb tb H∧Rows H a rs∧Rows H b os∧LotsOk rs os tm∧ybd H t ts∧ts.length=rs.length∧k<rs.length∧(∀u∈ts,0≤u)∧ts.getD k 0≤yad rs 1 (k:Int)∧NoLack rs os tm ts∧
 ∀M H',ywu rs os tm ts (k:Int) M→Same H H'→Q (.int M) H'
def ynw (tb:Tbs):Sp:=fun vs H Q _=>∃(a b:Addr) (tm:Int) (rs os:List (List Int)),vs=[.ref a,.ref b,.int tm]∧Tb tb H∧Rows H a rs∧Rows H b os∧LotsOk rs os tm∧∀l cs H',H l=none→BestIs rs os tm cs→Same H H'→ybd H' l cs→Q (.ref l) H'
section
variable {K:PySem.W.Frag}{a c x D:Addr}{g:TG}{te:TE}{σ₀:St}{H1:Hp}{R:Hp→Prop}
end
theorem yo8 {K:PySem.W.Frag}{a D:Addr}{xs:List V}{g:TG}{te:TE}{σ₀:St}{H1:Hp}{R:Hp→Prop}(P:Nat→List V→Hp→Prop)(hD:H1 D=none)(hx:H1 a=some (.lst xs))(hn:xs.length≤1000)
 (st:∀i zs H H',P i zs H→(H D=none∨∃l,H D=some (.lst l))→(∀b o,b≠D→H b=some o→H' b=some o)→P i zs H') (h0:P 0 [] H1)
 (step:∀i x zs H,xs[i]? = some x→H D=some (.lst zs)→Same H1 H→P i zs H→∀K1:V→Hp→Prop,(∀y H4,Same H H4→P (i+1) (zs++[y]) H4→K1 y H4)→
  g x σ₀ H fun σ2 H2=>(∀(k:Nat) v,σ₀[k]? = some (some v)→σ2[k]? = some (some v))∧te σ2 H2 K1)
 (fin:∀zs H,Same H1 H→P xs.length zs H→zs.length=xs.length→H D=some (.lst zs)→R H) :
 ∃W:Nat→Nat→Hp→Prop,(∃m,W 0 m (upd H1 D (.lst [])))∧∀i m H,W i m H→((Itl K a).stop i H∧R H)∨((Itl K a).go i H∧∀x H',(Itl K a).yld i H x H'→g x σ₀ H' fun σ2 H2=>(∀(k:Nat) v,σ₀[k]? = some (some v)→σ2[k]? = some (some v))∧ylj σ2 H2 fun b H3=>
  if b=true then te σ2 H3 fun y H4=>∃zs,H4 D=some (.lst zs)∧zs.length<sizeLine∧∃m',m' < m∧W (i+1) m' (upd H4 D (.lst (zs++[y]))) else ∃m',m' < m∧W (i+1) m' H3):=by
 refine⟨fun i m H=>i+m=xs.length∧Same H1 H∧∃zs,H D=some (.lst zs)∧zs.length=i∧P i zs H,⟨xs.length,by omega,yac hD _,[],yaa,rfl,st _ _ _ _ h0 (.inl hD) fun b o hb e=>by rw[yal hb];exact e⟩,?_⟩
 rintro i m H ⟨him,s1,zs,hz,hl,hp⟩
 have ex:=s1 _ _ hx
 by_cases hi:i<xs.length
 ·refine .inr ⟨⟨xs,_,SqL.of ex,List.getElem?_eq_getElem hi⟩,?_⟩
  rintro x H' ⟨rfl,hy⟩
  refine step i x zs H' (hy _ (SqL.of ex)) hz s1 hp _ fun y H4 s4 p4=>⟨zs,s4 _ _ hz,yaq (by omega),m-1,by omega,by omega,(s1.trans s4).young hD,zs++[y],yaa,by rw[List.length_append,List.length_singleton];omega,st _ _ _ _ p4 (.inr ⟨_,s4 _ _ hz⟩) fun b o hb e=>by rw[yal hb];exact e⟩
 ·have e:i=xs.length:=by omega
  subst e
  exact .inl ⟨⟨xs,SqL.of ex,Nat.le_refl _⟩,fin zs H s1 hp hl hz⟩
def LotG (r:List Int):Prop:=∃d c u:Int,r=[d,c,u]∧1≤d∧d≤999∧1≤c∧c≤10000000000∧1≤u∧u≤1000000
def OutG (r:List Int):Prop:=∃d c:Int,r=[d,c]∧1≤d∧d≤999∧1≤c∧c≤10000000000
theorem LotIn.good {lo n sc:Int}{r:List Int}(h:LotIn lo n sc r)(l1:1≤lo)(l2:lo+n≤1000)(s1:sc≤10000000000):LotG r:=by
 obtain ⟨d,c,u,rfl,h1,h2,h3,h4,h5,h6⟩:=h
 exact⟨d,c,u,rfl,by omega,by omega,by omega,by omega,h5,h6⟩
theorem OutIn.good {lo n sc:Int}{r:List Int}(h:OutIn lo n sc r)(l1:1≤lo)(l2:lo+n≤1000)(s1:sc≤10000000000):OutG r:=by
 obtain ⟨d,c,rfl,h1,h2,h3,h4⟩:=h
 exact⟨d,c,rfl,by omega,by omega,by omega,by omega⟩
structure GoodC (ls os:List (List Int)) (tm:Int):Prop where
 lg:∀r∈ls,LotG r
 og:∀r∈os,OutG r
 ln:ls.length≤30
 on:os.length≤30
 t0:0≤tm
 t4:tm≤400
theorem ysr {ls:List (List Int)}(h:∀r∈ls,LotG r):ybs ls=none:=by
 unfold ybs
 rw[List.findSome?_eq_none_iff]
 intro r hr
 obtain ⟨d,c,u,rfl,h1,h2,h3,h4,h5,h6⟩:=h r hr
 simp only[yd1]
 rw[if_pos ⟨by omega,by omega⟩,if_pos ⟨by omega,by omega⟩,if_pos ⟨by omega,by omega⟩]
theorem yss {ls:List (List Int)}(h:∀r∈ls,OutG r):ybs ls=none:=by
 unfold ybs
 rw[List.findSome?_eq_none_iff]
 intro r hr
 obtain ⟨d,c,rfl,h1,h2,h3,h4⟩:=h r hr
 simp only[yd1]
 rw[if_pos ⟨by omega,by omega⟩,if_pos ⟨by omega,by omega⟩]
theorem LotG.len {r:List Int}(h:LotG r):r.length=3:=by obtain ⟨d,c,u,rfl,_⟩:=h;rfl
theorem OutG.len {r:List Int}(h:OutG r):r.length=2:=by obtain ⟨d,c,rfl,_⟩:=h;rfl
theorem LotG.duty {r:List Int}(h:LotG r):yvf r:=by
 obtain ⟨d,c,u,rfl,_,_,_,_,h5,h6⟩:=h
 exact⟨rfl,by show -(2 ^ 64)<u;omega,by show u<2 ^ 64;omega⟩
theorem GoodC.both {ls os:List (List Int)}{tm:Int}(h:GoodC ls os tm):yeo ls os tm=none:=by
 rw[yh8 (ygg h.ln (ysr h.lg)) (ygg h.on (yss h.og)),if_pos ⟨h.t0,h.t4⟩]
theorem GoodC.h3 {ls os:List (List Int)}{tm:Int}(h:GoodC ls os tm):∀r∈ls,r.length=3:=fun r hr=>(h.lg r hr).len
theorem GoodC.h2 {ls os:List (List Int)}{tm:Int}(h:GoodC ls os tm):∀r∈os,r.length=2:=fun r hr=>(h.og r hr).len
theorem yst {ls os:List (List Int)}{tm:Int}(h1:∀r∈ls,LotG r)(h2:∀r∈os,OutG r)(ln:ls.length≤31)(on:os.length≤31)(t0:0≤tm):LotsOk ls os tm:=by
 refine⟨fun r hr=>(h1 r hr).len,ln,fun r hr=>(h2 r hr).len,on,fun r hr=>?_,fun r hr=>?_,t0,fun r hr=>(h1 r hr).duty,fun r hr=>?_⟩
 ·obtain ⟨d,c,u,rfl,_,_,h3,_⟩:=h1 r hr;show (0:Int)≤c;omega
 ·obtain ⟨d,c,rfl,_,_,h3,_⟩:=h2 r hr;show (0:Int)≤c;omega
 ·obtain ⟨d,c,u,rfl,_,_,_,h4,_⟩:=h1 r hr;exact h4
theorem GoodC.ok {ls os:List (List Int)}{tm:Int}(h:GoodC ls os tm):LotsOk ls os tm:=yst h.lg h.og (by have:=h.ln;omega) (by have:=h.on;omega) h.t0
theorem Rows.but {H H':Hp}{D l:Addr}{ls:List (List Int)}(h:Rows H l ls)(hk:∀b o,b≠D→H b=some o→H' b=some o)(nl:H D=none∨∃zs,H D=some (.lst zs))(n:l≠D):Rows H' l ls:=by
 obtain ⟨ps,h1,h2,h3⟩:=h
 refine⟨ps,hk _ _ n h1,h2,fun i p r e1 e2=>hk _ _ (fun z=>?_) (h3 i p r e1 e2)⟩
 have:=h3 i p r e1 e2
 rw[z] at this
 rcases nl with y|⟨zs,y⟩ <;> (rw[y] at this;cases this)
theorem EqD.mono {H:Hp}:∀{n m:Nat}{v u:V},EqD H n v u→n≤m→EqD H m v u
 |n,m,_,_,.flat h,_=>.flat h
 |n+1,m+1,_,_,.tup h1 h2 hl hs h,hm=>.tup h1 h2 hl hs fun i x y e1 e2=>(h i x y e1 e2).mono (by omega)
 |n+1,m+1,_,_,.lst h1 h2 hl hs h,hm=>.lst h1 h2 hl hs fun i x y e1 e2=>(h i x y e1 e2).mono (by omega)
theorem Tups.cat {H:Hp}{xs ys:List V}{rs qs:List (List Int)}(h:Tups H xs rs)(h':Tups H ys qs):Tups H (xs++ys) (rs++qs):=by
 obtain ⟨h1,h2⟩:=h
 obtain ⟨g1,g2⟩:=h'
 refine⟨by rw[List.length_append,List.length_append,h1,g1],fun i x r e1 e2=>?_⟩
 by_cases c:i<xs.length
 ·rw[List.getElem?_append_left c] at e1
  rw[List.getElem?_append_left (by omega)] at e2
  exact h2 i x r e1 e2
 ·rw[List.getElem?_append_right (by omega)] at e1
  rw[List.getElem?_append_right (by omega),← h1] at e2
  exact g2 _ x r e1 e2
theorem ywx (xs:List V){k:Int}(h0:0≤k):yk1 xs none (some k)=xs.take k.toNat:=by
 have e:HT.sIx xs.length xs.length (some k)=min k.toNat xs.length:=by
  show (if k<0 then (k+(xs.length:Int)).toNat else min k.toNat xs.length)=_
  rw[if_neg (by omega)]
 unfold yk1
 rw[e]
 show (xs.drop 0).take (min k.toNat xs.length-0)=_
 rw[List.drop_zero,Nat.sub_zero]
 by_cases z:k.toNat≤xs.length
 ·rw[Nat.min_eq_left z]
 ·rw[Nat.min_eq_right (by omega),List.take_length,List.take_of_length_le (by omega)]
theorem EqD.rows {H:Hp}{p q:Addr}{us:List (List Int)}(h1:Rows H p us)(h2:Rows H q us)(hn:us.length≤1000)(hw:∀r∈us,r.length≤1000):EqD H 2 (.ref p) (.ref q):=by
 obtain ⟨xs,ex,hx⟩:=h1.tups
 obtain ⟨ys,ey,hy⟩:=h2.tups
 have lx:=hx.1
 have ly:=hy.1
 refine .lst ex ey (by omega) (by omega) fun i x y e1 e2=>?_
 obtain ⟨p',r,rfl,er,hp⟩:=hx.at e1
 obtain ⟨q',r',rfl,er',hq⟩:=hy.at e2
 rw[er] at er'
 cases er'
 refine .tup hp hq rfl (by rw[List.length_map];exact hw r (List.mem_of_getElem? er)) fun i x y e1 e2=>?_
 rw[e1] at e2
 cases e2
 obtain ⟨v,rfl,_⟩:=ydz e1
 exact .flat rfl
end L2
namespace L2
open PySem
abbrev Few:=List (Int×List (List Int))
def fAt (few:Few)(k:Nat):Int×List (List Int):=few.getD k (0,[])
def yo9 (d:Int)(r:List Int):Bool:=decide (V.int (r.getD 0 0)=V.int d)
def ygl (W:Int→Int→Int)(few:Few)(last:Int)(b:Int×List (List Int))(k:Nat)(first:Int):Int×List (List Int):=
 if (fAt few k).1+W first last<b.1 then ((fAt few k).1+W first last,(fAt few k).2++[[first,last]]) else b
def ymw (W:Int→Int→Int)(few:Few)(last:Int)(ds:List Int)(b:Int×List (List Int)):Nat→Int×List (List Int)
 |0=>b
 |i+1=>ygl W few last (ymw W few last ds b i) i (ds.getD i 0)
def yc5 (rs:List (List Int))(few:Few)(ds:List Int)(k:Nat):Int×List (List Int):=((fAt few k).1+unitsOf (rs.filter (yo9 (ds.getD k 0))),(fAt few k).2)
def ya1 (rs:List (List Int))(W:Int→Int→Int)(ds:List Int):Nat→Few
 |0=>[(0,[])]
 |k+1=>ya1 rs W ds k++[ymw W (ya1 rs W ds k) (ds.getD k 0) ds (yc5 rs (ya1 rs W ds k) ds k) (k+1)]
def yc6 (rs:List (List Int))(W:Int→Int→Int)(ds:List Int):List (List Int):=(fAt (ya1 rs W ds ds.length) ds.length).2
theorem yef (rs:List (List Int))(W:Int→Int→Int)(ds:List Int):∀k,(ya1 rs W ds k).length=k+1
 |0=>rfl
 |k+1=>by show (_++[_]).length=_;rw[List.length_append,yef rs W ds k];rfl
theorem ykv {few:Few}{e:Int×List (List Int)}{j:Nat}(h:j<few.length):fAt (few++[e]) j=fAt few j:=by
 unfold fAt;rw[List.getD_eq_getElem?_getD,List.getElem?_append_left h,← List.getD_eq_getElem?_getD]
theorem ykw {few:Few}{e:Int×List (List Int)}{j:Nat}(h:few.length=j):fAt (few++[e]) j=e:=by
 subst h
 unfold fAt;rw[List.getD_eq_getElem?_getD,List.getElem?_append_right (Nat.le_refl _),Nat.sub_self];rfl
theorem ygm {W:Int→Int→Int}{few:Few}{last:Int}{ds:List Int}{b:Int×List (List Int)}{n:Nat}(p:Int×List (List Int)→Prop)(h0:p b)(hs:∀c j,j<n→p c→p (ygl W few last c j (ds.getD j 0))):∀i,i≤n→p (ymw W few last ds b i)
 |0,_=>h0
 |i+1,h=>hs _ _ (by omega) (ygm p h0 hs i (by omega))
theorem ysu (rs:List (List Int))(W:Int→Int→Int)(ds:List Int):∀k j,j≤k→(fAt (ya1 rs W ds k) j).2.length≤j
 |0,j,h=>by
  have:j=0:=by omega
  subst this;exact Nat.le_refl _
 |k+1,j,h=>by
  have ih:=ysu rs W ds k
  have ll:=yef rs W ds k
  show (fAt (ya1 rs W ds k++[_]) j).2.length≤j
  by_cases z:j≤k
  ·rw[ykv (by omega)];exact ih j z
  ·have:j=k+1:=by omega
   subst this
   rw[ykw ll]
   refine ygm (n:=k+1) (fun c=>c.2.length≤k+1) ?_ (fun c i hi hc=>?_) (k+1) (Nat.le_refl _)
   ·have:=ih k (Nat.le_refl _)
    show (fAt (ya1 rs W ds k) k).2.length≤k+1
    omega
   ·unfold ygl
    split
    ·show (_++[_]).length≤k+1
     rw[List.length_append]
     have:=ih i (by omega)
     have z1:[[ds.getD i 0,ds.getD k 0]].length=1:=rfl
     omega
    ·exact hc
theorem yjr:∀(ss:List (List Int)) (e f l:Int),ydh e ss=true→(∀r∈ss,r.getD 1 0<f)→e<f→f≤l→l≤999→ydh e (ss++[[f,l]])=true
 |[],e,f,l,_,_,h1,h2,h3=>by
  show (decide (e<f∧f≤l∧l≤999)&&true)=true
  rw[decide_eq_true ⟨h1,h2,h3⟩];rfl
 |r::ss,e,f,l,h,hb,h1,h2,h3=>by
  rw[ydh,Bool.and_eq_true] at h
  show (decide _&&ydh (r.getD 1 0) (ss++[[f,l]]))=true
  rw[Bool.and_eq_true]
  exact⟨h.1,yjr ss _ f l h.2 (fun q hq=>hb q (.tail _ hq)) (hb r (.head _)) h2 h3⟩
theorem ynx (rs:List (List Int))(W:Int→Int→Int){ds:List Int}(hd:ds.Pairwise (· < ·))(hb:∀d∈ds,1≤d∧d≤999):∀k,k≤ds.length→∀j,j≤k→(∀r∈(fAt (ya1 rs W ds k) j).2,r.length=2∧0<j∧r.getD 1 0≤ds.getD (j-1) 0)∧ydh 0 (fAt (ya1 rs W ds k) j).2=true
 |0,_,j,h=>by
  have:j=0:=by omega
  subst this
  exact⟨fun r hr=>(by cases hr),rfl⟩
 |k+1,hk,j,h=>by
  have ih:=ynx rs W hd hb k (by omega)
  have ll:=yef rs W ds k
  show (∀r∈(fAt (ya1 rs W ds k++[_]) j).2,_)∧ydh 0 (fAt (ya1 rs W ds k++[_]) j).2=true
  have lt:∀(i m:Nat),i<m→m<ds.length→ds.getD i 0<ds.getD m 0:=fun i m him hm=>by
   rw[List.getD_eq_getElem?_getD,List.getD_eq_getElem?_getD,List.getElem?_eq_getElem hm,List.getElem?_eq_getElem (by omega)]
   exact List.pairwise_iff_getElem.mp hd i m (by omega) hm him
  have bd:∀m,m<ds.length→1≤ds.getD m 0∧ds.getD m 0≤999:=fun m hm=>by
   rw[List.getD_eq_getElem?_getD,List.getElem?_eq_getElem hm];exact hb _ (List.getElem_mem hm)
  by_cases z:j≤k
  ·rw[ykv (by omega)];exact ih j z
  ·have:j=k+1:=by omega
   subst this
   rw[ykw ll]
   refine ygm (n:=k+1) (fun c=>(∀r∈c.2,r.length=2∧0<k+1∧r.getD 1 0≤ds.getD (k+1-1) 0)∧ydh 0 c.2=true) ?_ (fun c i hi hc=>?_) (k+1) (Nat.le_refl _)
   ·obtain ⟨a1,a2⟩:=ih k (Nat.le_refl _)
    refine⟨fun r hr=>?_,a2⟩
    obtain ⟨b1,b2,b3⟩:=a1 r hr
    have:=lt (k-1) k (by omega) (by omega)
    exact⟨b1,by omega,by rw[Nat.add_sub_cancel];omega⟩
   ·unfold ygl
    split
    ·obtain ⟨a1,a2⟩:=ih i (by omega)
     have ik:ds.getD i 0≤ds.getD k 0:=by
      by_cases y:i=k
      ·subst y;exact Int.le_refl _
      ·exact Int.le_of_lt (lt i k (by omega) (by omega))
     refine⟨fun r hr=>?_,?_⟩
     ·rw[Nat.add_sub_cancel]
      rcases List.mem_append.mp hr with y|y
      ·obtain ⟨b1,b2,b3⟩:=a1 r y
       have:=lt (i-1) i (by omega) (by omega)
       exact⟨b1,by omega,by omega⟩
      ·rw[List.mem_singleton.mp y]
       exact⟨rfl,by omega,Int.le_refl _⟩
     ·refine yjr _ 0 _ _ a2 (fun r hr=>?_) (by have:=bd i (by omega);omega) ik (bd k (by omega)).2
      obtain ⟨b1,b2,b3⟩:=a1 r hr
      have:=lt (i-1) i (by omega) (by omega)
      omega
    ·exact hc
theorem yqf {rs:List (List Int)}(W:Int→Int→Int){ds:List Int}(hd:yb5 rs ds)(hb:∀r∈rs,1≤r.getD 0 0∧r.getD 0 0≤999):(∀r∈yc6 rs W ds,r.length=2)∧ydh 0 (yc6 rs W ds)=true∧(yc6 rs W ds).length≤ds.length:=by
 obtain ⟨a1,a2⟩:=ynx rs W hd.1 (fun d h=>by obtain ⟨r,hr,rfl⟩:=(hd.2.1 d).mp h;exact hb r hr) ds.length (Nat.le_refl _) ds.length (Nat.le_refl _)
 exact⟨fun r hr=>(a1 r hr).1,a2,ysu rs W ds ds.length ds.length (Nat.le_refl _)⟩
def FewX (H0:Hp)(fw:Addr)(H:Hp)(xs:List V)(few:Few):Prop:=xs.length=few.length∧∀(i:Nat) x,xs[i]? = some x→∃p st,x = .ref p∧H p=some (.tup [.int (fAt few i).1,.ref st])∧Rows H st (fAt few i).2∧st≠fw∧H0 st=none
theorem FewX.same {H0:Hp}{fw:Addr}{H H':Hp}{xs:List V}{few:Few}(h:FewX H0 fw H xs few)(s:Same H H'):FewX H0 fw H' xs few:=⟨h.1,fun i x e=>by
 obtain ⟨p,st,h1,h2,h3,h4,h5⟩:=h.2 i x e
 exact⟨p,st,h1,s _ _ h2,h3.same s,h4,h5⟩⟩
theorem FewX.push {H0:Hp}{fw:Addr}{H:Hp}{xs:List V}{few:Few}{p st:Addr}{e:Int×List (List Int)}(h:FewX H0 fw H xs few)(hf:H fw=some (.lst xs))(hp:H p=some (.tup [.int e.1,.ref st]))(hs:Rows H st e.2)(ns:st≠fw)(h0:H0 st=none) :
 FewX H0 fw (L2.upd H fw (.lst (xs++[.ref p]))) (xs++[.ref p]) (few++[e]):=by
 have bt:∀b o,b≠fw→H b=some o→L2.upd H fw (.lst (xs++[.ref p])) b=some o:=fun b o hb e=>by rw[yal hb];exact e
 have nt:∀{q:Addr}{z:List V},H q=some (.tup z)→q≠fw:=fun hq z=>by rw[z,hf] at hq;cases hq
 refine⟨by rw[List.length_append,List.length_append,h.1];rfl,fun i x ei=>?_⟩
 by_cases hi:i<xs.length
 ·rw[List.getElem?_append_left hi] at ei
  obtain ⟨q,s',h1,h2,h3,h4,h5⟩:=h.2 i x ei
  have ef:fAt (few++[e]) i=fAt few i:=by unfold fAt;rw[List.getD_eq_getElem?_getD,List.getElem?_append_left (by rw[← h.1];exact hi),← List.getD_eq_getElem?_getD]
  rw[ef]
  exact⟨q,s',h1,bt _ _ (nt h2) h2,h3.but bt (.inr ⟨_,hf⟩) h4,h4,h5⟩
 ·have:i=xs.length:=by
   have:=(List.getElem?_eq_some_iff.mp ei).1
   rw[List.length_append] at this
   have z:[V.ref p].length=1:=rfl
   omega
  subst this
  rw[List.getElem?_append_right (Nat.le_refl _),Nat.sub_self] at ei
  cases ei
  have ef:fAt (few++[e]) xs.length=e:=by unfold fAt;rw[List.getD_eq_getElem?_getD,List.getElem?_append_right (by rw[h.1];exact Nat.le_refl _),h.1,Nat.sub_self];rfl
  rw[ef]
  exact⟨p,st,rfl,bt _ _ (nt hp) hp,hs.but bt (.inr ⟨_,hf⟩) ns,ns,h0⟩
theorem yyh {ks:List (Int×Int)}{W:Int→Int→Int}{f l:Int}(h:(f,l)∈ks):ynh (slk ks W) (ygh f l)=some (.int (W f l)):=by
 induction ks with
 |nil=>cases h
 |cons p ks ih=>
  show ynh ((ygh p.1 p.2,V.int (W p.1 p.2))::slk ks W) _=_
  by_cases c:ygh p.1 p.2=ygh f l
  ·rw[yhm c]
   unfold ygh at c
   have c1:p.1=f:=by injection c with c1 _;injection c1
   have c2:p.2=l:=by injection c with _ c2;injection c2 with c2 _;injection c2
   rw[c1,c2]
  ·rw[yhn c]
   rcases List.mem_cons.mp h with z|z
   ·rw[← z] at c;exact absurd rfl c
   ·exact ih z
theorem SlAt.get {H:Hp}{d b:Addr}{ks:List (Int×Int)}{W:Int→Int→Int}{f l:Int}(h:SlAt H d ks W)(hb:H b=some (.tup [.int f,.int l]))(hm:(f,l)∈ks):yys H d (.ref b) (some (.int (W f l))):=by
 obtain ⟨o,e⟩:=h
 exact .inr ⟨_,ygh f l,b,.inr ⟨o,e⟩,rfl,hb,(yyh hm).symm⟩
def yny:Sp:=fun vs H Q _=>∃(a d:Addr) (rs:List (List Int)) (ks:List (Int×Int)) (W:Int→Int→Int),vs=[.ref a,.ref d]∧Rows H a rs∧(∀r∈rs,r.length=3)∧rs.length≤31∧SlAt H d ks W∧(∀r∈rs,∀r'∈rs,r.getD 0 0≤r'.getD 0 0→(r.getD 0 0,r'.getD 0 0)∈ks)∧
 ∀l ds H',H l=none→yb5 rs ds→Same H H'→Rows H' l (yc6 rs W ds)→Q (.ref l) H'
def ydk (rs:List (List Int))(cs:List Int)(u:Int):Int:=(((List.range rs.length).filter fun i=>ybj u (rs.getD i [])).map fun i=>cs.getD i 0).sum
theorem ysv {K:PySem.W.Frag}{a b D:Addr}{xs ys:List V}{g:TG}{ti:TT}{te:TE}{σ₀:St}{H1:Hp}{R:Hp→Prop}(P:Nat→List V→Prop)(hD:H1 D=none)(hx:H1 a=some (.lst xs))(hy:H1 b=some (.lst ys))(hl:xs.length=ys.length)(hn:xs.length≤1000)(h0:P 0 [])
 (step:∀i x y zs H p,xs[i]? = some x→ys[i]? = some y→Same H1 H→P i zs→H p=none→∀(K1:V→Hp→Prop) (K2:Hp→Prop),(∀z H4,Same (upd H p (.tup [x,y])) H4→P (i+1) (zs++[z])→K1 z H4)→(∀H3,Same (upd H p (.tup [x,y])) H3→P (i+1) zs→K2 H3)→
  g (.ref p) σ₀ (upd H p (.tup [x,y])) fun σ2 H2=>(∀(k:Nat) v,σ₀[k]? = some (some v)→σ2[k]? = some (some v))∧ti σ2 H2 fun b H3=>if b=true then te σ2 H3 K1 else K2 H3)
 (fin:∀zs H,Same H1 H→P xs.length zs→zs.length≤xs.length→H D=some (.lst zs)→R H) :
 ∃W:Nat→Nat→Hp→Prop,(∃m,W 0 m (upd H1 D (.lst [])))∧∀i m H,W i m H→((Itz K true true a b).stop i H∧R H)∨((Itz K true true a b).go i H∧∀x H',(Itz K true true a b).yld i H x H'→g x σ₀ H' fun σ2 H2=>(∀(k:Nat) v,σ₀[k]? = some (some v)→σ2[k]? = some (some v))∧ti σ2 H2 fun b H3=>
  if b=true then te σ2 H3 fun y H4=>∃zs,H4 D=some (.lst zs)∧zs.length<sizeLine∧∃m',m' < m∧W (i+1) m' (upd H4 D (.lst (zs++[y]))) else ∃m',m' < m∧W (i+1) m' H3):=by
 refine⟨fun i m H=>i+m=xs.length∧Same H1 H∧∃zs,H D=some (.lst zs)∧zs.length≤i∧P i zs,⟨xs.length,by omega,yac hD _,[],yaa,Nat.le_refl _,h0⟩,?_⟩
 rintro i m H ⟨him,s1,zs,hz,hzl,hp⟩
 have ex:=s1 _ _ hx
 have ey:=s1 _ _ hy
 by_cases hi:i<xs.length
 ·refine .inr ⟨⟨xs,ys,_,_,SqL.of ex,SqL.of ey,List.getElem?_eq_getElem hi,List.getElem?_eq_getElem (by omega)⟩,?_⟩
  rintro v H' ⟨p,x,y,rfl,hp',rfl,hxy⟩
  obtain ⟨e1,e2⟩:=hxy xs ys (SqL.of ex) (SqL.of ey)
  have sp:=yac hp' (.tup [x,y])
  refine step i x y zs H p e1 e2 s1 hp hp' _ _ (fun z H4 s4 p4=>⟨zs,s4 _ _ (sp _ _ hz),yaq (by omega),m-1,by omega,by omega,((s1.trans sp).trans s4).young hD,zs++[z],yaa,by rw[List.length_append,List.length_singleton];omega,p4⟩) fun H3 s3 p3=>⟨m-1,by omega,by omega,(s1.trans sp).trans s3,zs,s3 _ _ (sp _ _ hz),by omega,p3⟩
 ·have e:i=xs.length:=by omega
  subst e
  exact .inl ⟨⟨xs,ys,SqL.of ex,SqL.of ey,.inl (Nat.le_refl _)⟩,fin zs H s1 hp hzl hz⟩
theorem ymn {rs:List (List Int)}{cs:List Int}{u v:Int}{i:Nat}{r:List Int}(er:rs[i]? = some r)(ev:cs[i]? = some v):(((List.range (i+1)).filter fun i=>ybj u (rs.getD i [])).map fun i=>cs.getD i 0)=(((List.range i).filter fun i=>ybj u (rs.getD i [])).map fun i=>cs.getD i 0)++if ybj u r=true then [v] else []:=by
 rw[List.range_succ,List.filter_append,List.map_append]
 congr 1
 have e1:rs.getD i []=r:=by rw[List.getD_eq_getElem?_getD,er];rfl
 have e2:cs.getD i 0=v:=by rw[List.getD_eq_getElem?_getD,ev];rfl
 rw[List.filter_cons,e1]
 split
 ·show [cs.getD i 0]=[v];rw[e2]
 ·rfl
def ygn:Sp:=fun vs H Q _=>∃(a c d:Addr) (u:Int) (rs:List (List Int)) (cs:List Int) (ks:List (Int×Int)) (W:Int→Int→Int),vs=[.ref a,.ref c,.ref d,.int u]∧Rows H a rs∧(∀r∈rs,r.length=3)∧rs.length≤31∧ybd H c cs∧cs.length=rs.length∧SlAt H d ks W∧(∀r∈rs,∀r'∈rs,r.getD 0 0≤r'.getD 0 0→(r.getD 0 0,r'.getD 0 0)∈ks)∧
 ∀t l ds H',H l=none→yb5 (rs.filter (ybj u)) ds→Same H H'→Rows H' l (yc6 (rs.filter (ybj u)) W ds)→H' t=some (.tup [.int u,.int (ydk rs cs u),.ref l])→Q (.ref t) H'
def yzx (H0:Hp)(D:Addr)(H:Hp)(xs:List V)(us:List Int)(rs os:List (List Int))(tm:Int)(cs:List Int):Prop:=xs.length=us.length∧∀(i:Nat) x u,xs[i]? = some x→us[i]? = some u→∃t l ds,x = .ref t∧H t=some (.tup [.int u,.int (ydk rs cs u),.ref l])∧yb5 (rs.filter (ybj u)) ds∧Rows H l (yc6 (rs.filter (ybj u)) (yan os tm) ds)∧H0 l=none∧l≠D
def PapL (D:Addr)(H:Hp)(xs:List V):Prop:=∃Ls:List Addr,Ls.Nodup∧Ls.length=xs.length∧∀(i:Nat) x l,xs[i]? = some x→Ls[i]? = some l→∃t u m,x = .ref t∧H t=some (.tup [u,m,.ref l])∧l≠D∧∃z,H l=some z
theorem PapL.nil {D:Addr}{H:Hp}:PapL D H []:=⟨[],List.nodup_nil,rfl,fun i x l e=>by cases e⟩
theorem PapL.but {D:Addr}{H H':Hp}{xs:List V}(h:PapL D H xs)(nl:H D=none∨∃l,H D=some (.lst l))(hk:∀b o,b≠D→H b=some o→H' b=some o):PapL D H' xs:=by
 obtain ⟨Ls,h1,h2,h3⟩:=h
 refine⟨Ls,h1,h2,fun i x l e1 e2=>?_⟩
 obtain ⟨t,u,m,a1,a2,a3,z,a4⟩:=h3 i x l e1 e2
 exact⟨t,u,m,a1,hk _ _ (fun y=>by subst y;rcases nl with n|⟨_,n⟩ <;> rw[n] at a2 <;> cases a2) a2,a3,z,hk _ _ a3 a4⟩
theorem PapL.push {D t l:Addr}{H H':Hp}{xs ys:List V}{u m:V}{z:HO}(h:PapL D H xs)(s:Same H H')(hD:H D=some (.lst ys))(hl:H l=none)(ht:H' t=some (.tup [u,m,.ref l]))(hz:H' l=some z):PapL D H' (xs++[.ref t]):=by
 obtain ⟨Ls,h1,h2,h3⟩:=h
 refine⟨Ls++[l],List.nodup_append.mpr ⟨h1,by simp,fun a ha b hb e=>?_⟩,by rw[List.length_append,List.length_append,h2];rfl,fun i x l' e1 e2=>?_⟩
 ·rw[List.mem_singleton.mp hb] at e
  subst e
  obtain ⟨k,hk,rfl⟩:=List.getElem_of_mem ha
  obtain ⟨_,_,_,_,_,_,z',a4⟩:=h3 k _ _ (List.getElem?_eq_getElem (by omega)) (List.getElem?_eq_getElem hk)
  rw[hl] at a4;cases a4
 ·by_cases hi:i<xs.length
  ·rw[List.getElem?_append_left hi] at e1
   rw[List.getElem?_append_left (by omega)] at e2
   obtain ⟨t,u,m,a1,a2,a3,z,a4⟩:=h3 i x l' e1 e2
   exact⟨t,u,m,a1,s _ _ a2,a3,z,s _ _ a4⟩
  ·have:i=xs.length:=by
    have:=(List.getElem?_eq_some_iff.mp e1).1
    rw[List.length_append,List.length_singleton] at this
    omega
   subst this
   rw[List.getElem?_append_right (Nat.le_refl _),Nat.sub_self] at e1
   rw[List.getElem?_append_right (by omega),h2,Nat.sub_self] at e2
   cases e1;cases e2
   exact⟨t,u,m,rfl,ht,(fun y=>by rw[y,hD] at hl;cases hl),z,hz⟩
def ykx (rs:List (List Int))(us:List Int):Prop:=us.Pairwise (fun x y=>y<x)∧(∀u,u∈us↔∃r∈rs,r.getD 2 0=u)∧us.length≤rs.length
def yky (cl:Nat→Addr):Sp:=fun vs H Q E=>∃(a b:Addr) (tm:Int) (rs os:List (List Int)),vs=[.ref a,.ref b,.int tm]∧Rows H a rs∧(∀r∈rs,r.length=3)∧Rows H b os∧(∀r∈os,r.length=2)∧
 (∀n,yeo rs os tm=some n→∀H',Same H H'→E (.ref (cl n)) none H')∧(yeo rs os tm=none→∀l xs us cs H',H l=none→BestIs rs os tm cs→ykx rs us→Same H H'→H' l=some (.lst xs)→yzx H l H' xs us rs os tm cs→PapL l H' xs→Q (.ref l) H')
end L2
namespace K16
open PySem L2
abbrev ydl:Stmt:=top 37
abbrev yjs:List Str:=["lots","widths","days","fewest","many","last","units","stretches","least","ahead","first"]
abbrev yey:List Str:=["lots","widths"]
theorem sc_tightest:FnScope yjs yey (yab ydl):=⟨rfl,rfl,rfl,by decide +kernel,rfl,by decide +kernel,by decide +kernel⟩
abbrev ydm:Stmt:=top 38
abbrev yjt:List Str:=["lots","counts","widths","duty","units"]
abbrev yez:List Str:=["lots","counts","widths","duty"]
theorem sc_paper_of:FnScope yjt yez (yab ydm):=⟨rfl,rfl,rfl,by decide +kernel,rfl,by decide +kernel,by decide +kernel⟩
abbrev yek:Stmt:=top 39
abbrev ykz:List Str:=["lots","outs","term","goods","gone","counts","widths","duties"]
abbrev ygo:List Str:=["lots","outs","term"]
theorem sc_papers:FnScope ykz ygo (yab yek):=⟨rfl,rfl,rfl,by decide +kernel,rfl,by decide +kernel,by decide +kernel⟩
section
variable {P:Program}{w:World}{K:PySem.W.Frag}{mg:Str→Option Value}{base:Heap}{f:Addr}{fd:FuncData}{cl:Nat→Addr}(T:Txt K mg cl)(B:Bn mg)
include T B
theorem ynz (G_days_of:Cal P w K mg base CX0 1 "days_of" yeq yhp) (G_units_of:Cal P w K mg base CX0 1 "units_of" yep yne) (F:Fun K "tightest" "tightest" ydl f fd):FnOk P w K mg base CX0 2 f fd yey yny:=by
 refine F.ok sc_tightest (fun vs H Q E h=>?_) (fun cdv A outer s H vs Q E hr h=>?_)
 ·obtain ⟨a,d,rs,ks,W,rfl,_⟩:=h;rfl
 obtain ⟨a,d,rs,ks,W,rfl,hR,h3,hn,hW,hks,q⟩:=h
 refine⟨_,(yaf (yat (i:=2) sc_tightest.nd rfl (Or.inl rfl) (yar G_days_of hr rfl ybe (yam (pv 0) yae)))
  (yaf (yat (i:=3) sc_tightest.nd rfl (Or.inl rfl) (yd5 (yam (ybf (yam yag (yam (yd5 yae) yae))) yae)))
  (yaf (yd0 PassesOwn.never rfl (ym6 rfl B.enumerate (yam (pv 2) yae)) (ybl rfl (yah (yai (i:=4) sc_tightest.nd rfl (Or.inl rfl)) (yah (yai (i:=5) sc_tightest.nd rfl (Or.inr rfl)) ya4))) (yaf (yc7 (ya3 ya0 (pv 3) (pv 4) (fun _ _=>rfl)) (ybl rfl (yah (yai (i:=6) sc_tightest.nd rfl (Or.inl rfl)) (yah (yai (i:=7) sc_tightest.nd rfl (Or.inl rfl)) ya4))))
   (yaf (yat (i:=8) sc_tightest.nd rfl (Or.inl rfl) (ybf (yam (ybb yb3 (pv 6) (yar G_units_of hr rfl ybe (yam (yc2 (N':=["lot","last"]) (ix:=[none,some 5]) (g:=(ybi 0)) (ti:=(ygs (tOp rEq (tOp (yq9 K) (ybv 0) (tC (.int 0))) (ybv 1)))) (te:=(ybv 0)) rfl (yax (N:=yjs) (D:=yab ydl) (by decide +kernel)) (ya8 (pv 0)) (fun C s H fp=>(yai (i:=0) (show (["lot","last"]:List Str).Nodup by decide +kernel) rfl (Or.inl rfl))) (fun C s H fp=>(yd2 (ya5 ym2 (ya3 ybg (pv 0) yag (fun _ _=>rfl)) (pv 1) (yba _)))) (fun C s H fp=>(pv 0))) yae))) (yam (pv 7) yae))))
   (yaf (yd0 PassesOwn.never rfl (ym6 rfl B.enumerate (yam (ye3 ygt (pv 2) yfz (yf0 (ybb yb3 (pv 4) yag))) yae)) (ybl rfl (yah (yai (i:=9) sc_tightest.nd rfl (Or.inl rfl)) (yah (yai (i:=10) sc_tightest.nd rfl (Or.inl rfl)) ya4))) (yaf (yc7 (ya3 ya0 (pv 3) (pv 9) (fun _ _=>rfl)) (ybl rfl (yah (yai (i:=6) sc_tightest.nd rfl (Or.inl rfl)) (yah (yai (i:=7) sc_tightest.nd rfl (Or.inl rfl)) ya4))))
    (yaf (yxa (i:=6) sc_tightest.nd rfl (Or.inl rfl) (ywc (yxl hr) (pv 1) (ybf (yam (pv 10) (yam (pv 5) yae))) (fun _ _=>rfl)) yxb)
    (yak (yeg (ya5 yqx (pv 6) (ya3 ybg (pv 8) yag (fun _ _=>rfl)) (yba _)) (yak (yat (i:=8) sc_tightest.nd rfl (Or.inl rfl) (ybf (yam (pv 6) (yam (ybb yi9 (pv 7) (yd5 (yam (ybf (yam (pv 10) (yam (pv 5) yae))) yae))) yae))))) ybr)))))
   (yak (yb6 (ym3 PySem.F.plainAttrs_list PySem.F.slot_list_append PySem.F.type_list_append yc0 (pv 3) (yam (pv 8) yae))))))))
  (yak (ya2 (ya3 ybg (ya3 ya0 (pv 3) (ytf yod yag) (fun _ _=>rfl)) yag (fun _ _=>rfl))))))),?_⟩
 obtain ⟨xs,ex,hx⟩:=hR.tups
 have lx:=hx.1
 refine⟨_,rfl,a,rs,rfl,hR,h3,by omega,fun dl ds H1 hdl hds s1 I1=>?_⟩
 have dn:=hds.2.2
 have inks:∀(i j:Nat),i≤j→j<ds.length→(ds.getD i 0,ds.getD j 0)∈ks:=fun i j hij hj=>by
  have ei:ds.getD i 0=ds[i]:=by rw[List.getD_eq_getElem?_getD,List.getElem?_eq_getElem (by omega)];rfl
  have ej:ds.getD j 0=ds[j]:=by rw[List.getD_eq_getElem?_getD,List.getElem?_eq_getElem hj];rfl
  obtain ⟨r,hr,er⟩:=(hds.2.1 ds[i]).mp (List.getElem_mem _)
  obtain ⟨r',hr',er'⟩:=(hds.2.1 ds[j]).mp (List.getElem_mem _)
  have le:ds[i]≤ds[j]:=by
   by_cases z:i=j
   ·subst z;exact Int.le_refl _
   ·exact Int.le_of_lt (List.pairwise_iff_getElem.mp hds.1 i j (by omega) hj (by omega))
  rw[ei,ej,← er,← er']
  exact hks r hr r' hr' (by rw[er,er'];exact le)
 refine⟨by show 0≤sizeLine;decide,fun e0 he0=>⟨by show 2≤sizeLine;decide,fun t0 ht0=>⟨by show 1≤sizeLine;decide,fun fw hfw=>?_⟩⟩⟩
 have u1:=yac (H:=H1) he0 (.lst [])
 have u2:=u1.trans (yac ht0 (.tup [.int 0,.ref e0]))
 have u3:=u2.trans (yac hfw (.lst [.ref t0]))
 have E3:=yac hfw (.lst [.ref t0]) _ _ (yac ht0 (.tup [.int 0,.ref e0]) _ _ (yaa (H:=H1) (a:=e0) (o:=.lst [])))
 have T3:=yac hfw (.lst [.ref t0]) _ _ (yaa (H:=L2.upd H1 e0 (.lst [])) (a:=t0) (o:=.tup [.int 0,.ref e0]))
 have F3:=yaa (H:=L2.upd (L2.upd H1 e0 (.lst [])) t0 (.tup [.int 0,.ref e0])) (a:=fw) (o:=.lst [.ref t0])
 have ne0:e0≠fw:=yaj (yac ht0 (.tup [.int 0,.ref e0]) _ _ (yaa (H:=H1) (a:=e0) (o:=.lst []))) hfw
 have hfw0:H fw=none:=(s1.trans u2).free hfw
 have he00:H e0=none:=s1.free he0
 have I3:=u3 _ _ I1
 have S3:=s1.trans u3
 have ndl:dl≠fw:=yaj (u2 _ _ I1) hfw
 generalize L2.upd (L2.upd (L2.upd H1 e0 (.lst [])) t0 (.tup [.int 0,.ref e0])) fw (.lst [.ref t0])=H3 at *
 have X3:FewX H fw H3 [.ref t0] (ya1 rs W ds 0):=⟨rfl,fun i x e=>by
  match i,e with
  |0,e=>cases e;exact⟨t0,e0,rfl,T3,Rows.nil E3,ne0,he00⟩
  |i+1,e=>cases e⟩
 clear u1 u2 u3 he0 ht0 hfw E3 T3 I1 s1
 refine⟨_,rfl,dl,_,rfl,SqL.of I3,?_⟩
 refine yoj (xs:=ds.map V.int) (fun k σ H5=>∃o4 o5 o6 o7 o8 o9 o10 zs,σ=[some (.ref a),some (.ref d),some (.ref dl),some (.ref fw),o4,o5,o6,o7,o8,o9,o10]∧Same H H5∧H5 dl=some (.lst (ds.map V.int))∧H5 fw=some (.lst zs)∧FewX H fw H5 zs (ya1 rs W ds k)) ⟨_,_,_,_,_,_,_,_,rfl,S3,I3,F3,X3⟩ ?_ ?_ ?_
 ·rintro k σ H5 hk ⟨o4,o5,o6,o7,o8,o9,o10,zs,rfl,sm,I5,F5,X5⟩
  exact SqL.of I5
 ·rintro k x σ H5 p2 ek ⟨o4,o5,o6,o7,o8,o9,o10,zs,rfl,sm,I5,F5,X5⟩ hp2
  obtain ⟨last,rfl,el⟩:=ydz ek
  have hk:k<ds.length:=(List.getElem?_eq_some_iff.mp el).1
  have eld:ds.getD k 0=last:=by rw[List.getD_eq_getElem?_getD,el];rfl
  have s6:=yac (H:=H5) hp2 (.tup [.int k,.int last])
  refine⟨p2,_,rfl,SqT.of yaa,rfl,_,_,rfl,_,_,rfl,rfl,?_⟩
  have zl:zs.length=k+1:=by rw[X5.1,yef]
  obtain ⟨te,st,ete,hte,hst,nst,hst0⟩:=(X5.same s6).2 k _ (List.getElem?_eq_getElem (by omega))
  have eat:atI zs (k:Int)=some (.ref te):=ydy (by rw[List.getElem?_eq_getElem (by omega),ete])
  refine⟨_,rfl,_,rfl,fw,_,_,_,rfl,rfl,SqL.of (s6 _ _ F5),eat,te,_,rfl,SqT.of hte,rfl,_,_,rfl,_,_,rfl,rfl,?_⟩
  refine⟨_,rfl,_,rfl,a,rfl,⟨_,SqL.of (s6 _ _ (sm _ _ ex))⟩,fun D hD=>?_⟩
  refine yf3 (fun i zs _=>Tups H zs ((rs.take i).filter (yo9 last))) hD (s6 _ _ (sm _ _ ex)) (by omega) (fun i zs _ _ h _=>h) Tups.nil (fun i x zs H7 e1 s7 hp K1 K2 k1 k2=>?_) fun zs' H7 s7 hp lz hD7=>?_
  ·obtain ⟨pr,r,rfl,er,hpr⟩:=hx.at e1
   obtain ⟨dd,cc,uu,rfl⟩:=ync (h3 r (List.mem_of_getElem? er))
   refine⟨yaw ya7 rfl,?_⟩
   have ft:=yb7 (rs:=rs) (yo9 last) er
   have gb:yo9 last [dd,cc,uu]=decide (V.int dd=V.int last):=rfl
   refine⟨_,rfl,pr,_,_,.int dd,rfl,rfl,SqT.of (((sm.trans s6).trans s7) _ _ hpr),rfl,_,rfl,rfl,_,rfl,?_⟩
   by_cases z:dd=last
   ·rw[decide_eq_true (congrArg V.int z)]
    refine yem ⟨_,rfl,k1 _ _ (fun _ _ h=>h) ?_⟩
    rw[ft,gb,if_pos (decide_eq_true (congrArg V.int z))]
    exact hp.cat (Tups.one hpr)
   ·rw[decide_eq_false (fun y=>z (V.int.inj y))]
    refine ycd (k2 _ (fun _ _ h=>h) ?_)
    rw[ft,gb,if_neg (fun y=>z (V.int.inj (of_decide_eq_true y))),List.append_nil]
    exact hp
  rw[lx,List.take_length] at hp
  have S7:=(sm.trans s6).trans s7
  refine⟨D,_,rfl,(hp.same S7).rows hD7,fun r hr=>h3 r ((List.mem_filter.mp hr).1),?_,fun H8 s8=>⟨_,_,rfl,rfl,_,rfl,by show 2≤sizeLine;decide,fun lt hlt=>?_⟩⟩
  ·have:=List.length_filter_le (yo9 last) rs;omega
  have S8:=S7.trans s8
  have s9:=yac (H:=H8) hlt (.tup [.int ((fAt (ya1 rs W ds k) k).1+unitsOf (rs.filter (yo9 last))),.ref st])
  have S9:=S8.trans s9
  have v9:=(s6.trans s7).trans (s8.trans s9)
  have F9:=v9 _ _ F5
  have X9:=X5.same v9
  have I9:=v9 _ _ I5
  have st9:=hst.same ((s7.trans s8).trans s9)
  have lt9:=yaa (H:=H8) (a:=lt) (o:=.tup [.int ((fAt (ya1 rs W ds k) k).1+unitsOf (rs.filter (yo9 last))),.ref st])
  have eb:yc5 rs (ya1 rs W ds k) ds k=((fAt (ya1 rs W ds k) k).1+unitsOf (rs.filter (yo9 last)),(fAt (ya1 rs W ds k) k).2):=by unfold yc5;rw[eld]
  generalize L2.upd H8 lt (.tup [.int ((fAt (ya1 rs W ds k) k).1+unitsOf (rs.filter (yo9 last))),.ref st])=H9 at *
  clear s6 s7 s8 s9 S7 S8 v9 F5 X5 I5 sm hp hD7 hD hlt hte eat hp2
  refine⟨_,rfl,_,rfl,_,_,rfl,rfl,_,rfl,dl,_,rfl,SqL.of I9,fun sl hsl=>?_⟩
  have ecut:yk1 (ds.map V.int) none (some ((k:Int)+1))=(ds.take (k+1)).map V.int:=by rw[ywx _ (by omega),show ((k:Int)+1).toNat=k+1 by omega,List.map_take]
  rw[ecut]
  have s10:=yac (H:=H9) hsl (.lst ((ds.take (k+1)).map V.int))
  refine⟨sl,_,rfl,SqL.of yaa,?_⟩
  show ∃W,_
  have dsl:(ds.take (k+1)).length=k+1:=by rw[List.length_take];omega
  refine yoj (xs:=(ds.take (k+1)).map V.int) (fun j σ H11=>∃o6 o7 o9 o10 lt st,σ=[some (.ref a),some (.ref d),some (.ref dl),some (.ref fw),some (.int (k:Int)),some (.int last),o6,o7,some (.ref lt),o9,o10]∧Same H H11∧H11 dl=some (.lst (ds.map V.int))∧H11 fw=some (.lst zs)∧FewX H fw H11 zs (ya1 rs W ds k)∧H11 sl=some (.lst ((ds.take (k+1)).map V.int))∧
   H11 lt=some (.tup [.int (ymw W (ya1 rs W ds k) last ds (yc5 rs (ya1 rs W ds k) ds k) j).1,.ref st])∧Rows H11 st (ymw W (ya1 rs W ds k) last ds (yc5 rs (ya1 rs W ds k) ds k) j).2∧st≠fw∧H st=none) ⟨_,_,_,_,lt,st,rfl,S9.trans s10,s10 _ _ I9,s10 _ _ F9,X9.same s10,yaa,by rw[show ymw W (ya1 rs W ds k) last ds (yc5 rs (ya1 rs W ds k) ds k) 0=yc5 rs (ya1 rs W ds k) ds k from rfl,eb];exact s10 _ _ lt9,by rw[show ymw W (ya1 rs W ds k) last ds (yc5 rs (ya1 rs W ds k) ds k) 0=yc5 rs (ya1 rs W ds k) ds k from rfl,eb];exact st9.same s10,nst,hst0⟩ ?_ ?_ ?_
  ·rintro j σ H11 hj ⟨o6,o7,o9,o10,lt,st,rfl,sm,I11,F11,X11,L11,l11,t11,n11,h11⟩
   exact SqL.of L11
  ·clear s10 hsl I9 F9 X9 st9 lt9 hst0 nst S9
   rintro j x σ H11 p3 ej ⟨o6,o7,o9,o10,lt,st,rfl,sm,I11,F11,X11,L11,l11,t11,n11,h11⟩ hp3
   obtain ⟨first,rfl,ef⟩:=ydz ej
   have hj:j<k+1:=by have:=(List.getElem?_eq_some_iff.mp ef).1;omega
   have efd:ds.getD j 0=first:=by
    rw[List.getElem?_take_of_lt hj] at ef
    rw[List.getD_eq_getElem?_getD,ef];rfl
   have s12:=yac (H:=H11) hp3 (.tup [.int j,.int first])
   refine⟨p3,_,rfl,SqT.of yaa,rfl,_,_,rfl,_,_,rfl,rfl,?_⟩
   obtain ⟨tj,sj,etj,htj,hsj,nsj,hsj0⟩:=(X11.same s12).2 j _ (List.getElem?_eq_getElem (by omega))
   have eatj:atI zs (j:Int)=some (.ref tj):=ydy (by rw[List.getElem?_eq_getElem (by omega),etj])
   refine⟨_,rfl,_,rfl,fw,_,_,_,rfl,rfl,SqL.of (s12 _ _ F11),eatj,tj,_,rfl,SqT.of htj,rfl,_,_,rfl,_,_,rfl,rfl,?_⟩
   have hin:(first,last)∈ks:=by rw[← efd,← eld];exact inks j k (by omega) hk
   refine⟨_,rfl,_,rfl,_,rfl,_,rfl,by show 2≤sizeLine;decide,fun kt hkt=>?_⟩
   have s13:=s12.trans (yac hkt (.tup [.int first,.int last]))
   refine⟨d,_,rfl,(hW.same (sm.trans s13)).get yaa hin,_,_,rfl,rfl,?_⟩
   have l13:=s13 _ _ l11
   refine⟨_,rfl,_,rfl,lt,_,_,_,rfl,rfl,SqT.of l13,rfl,_,_,rfl,rfl,_,rfl,?_⟩
   have en:ymw W (ya1 rs W ds k) last ds (yc5 rs (ya1 rs W ds k) ds k) (j+1)=if (fAt (ya1 rs W ds k) j).1+W first last<(ymw W (ya1 rs W ds k) last ds (yc5 rs (ya1 rs W ds k) ds k) j).1 then ((fAt (ya1 rs W ds k) j).1+W first last,(fAt (ya1 rs W ds k) j).2++[[first,last]]) else ymw W (ya1 rs W ds k) last ds (yc5 rs (ya1 rs W ds k) ds k) j:=by
    show ygl W (ya1 rs W ds k) last _ j (ds.getD j 0)=_
    rw[efd];rfl
   by_cases c1:(fAt (ya1 rs W ds k) j).1+W first last<(ymw W (ya1 rs W ds k) last ds (yc5 rs (ya1 rs W ds k) ds k) j).1
   ·rw[decide_eq_true c1]
    rw[if_pos c1] at en
    obtain ⟨ws,ews,hws⟩:=(hsj.same (yac hkt (.tup [.int first,.int last]))).tups
    have lws:=hws.1
    refine yem ⟨_,rfl,_,rfl,_,rfl,_,rfl,by show 2≤sizeLine;decide,fun tq htq=>⟨by show 1≤sizeLine;decide,fun ql hql=>?_⟩⟩
    have v1:=yac htq (.tup [.int first,.int last])
    have v2:=v1.trans (yac hql (.lst [.ref tq]))
    refine⟨sj,ql,_,_,rfl,rfl,v2 _ _ ews,yaa,?_,fun q2 hq2=>⟨by show 2≤sizeLine;decide,fun lt2 hlt2=>?_⟩⟩
    ·have:=ysu rs W ds k j (by omega)
     exact Nat.le_of_lt (yaq (by show ws.length+1≤1000;omega))
    have v3:=v2.trans (yac hq2 (.lst (ws++[.ref tq])))
    have v4:=v3.trans (yac hlt2 (.tup [.int ((fAt (ya1 rs W ds k) j).1+W first last),.ref q2]))
    have s14:=s13.trans v4
    have tq4:=yac hlt2 (.tup [.int ((fAt (ya1 rs W ds k) j).1+W first last),.ref q2]) _ _ (yac hq2 (.lst (ws++[.ref tq])) _ _ (yac hql (.lst [.ref tq]) _ _ (yaa (H:=L2.upd (L2.upd H11 p3 (.tup [.int j,.int first])) kt (.tup [.int first,.int last])) (a:=tq) (o:=.tup [.int first,.int last]))))
    have q24:=yac hlt2 (.tup [.int ((fAt (ya1 rs W ds k) j).1+W first last),.ref q2]) _ _ (yaa (H:=L2.upd (L2.upd (L2.upd (L2.upd H11 p3 (.tup [.int j,.int first])) kt (.tup [.int first,.int last])) tq (.tup [.int first,.int last])) ql (.lst [.ref tq])) (a:=q2) (o:=.lst (ws++[.ref tq])))
    refine⟨_,_,_,_,lt2,q2,rfl,sm.trans s14,s14 _ _ I11,s14 _ _ F11,X11.same s14,s14 _ _ L11,by rw[en];exact yaa,?_,fun z=>?_,?_⟩
    ·rw[en]
     exact((hws.same v4).cat (Tups.one (r:=[first,last]) tq4)).rows q24
    ·exact yaj ((s13.trans v2) _ _ F11) hq2 z.symm
    ·exact(sm.trans (s13.trans v2)).free hq2
   ·rw[decide_eq_false c1]
    rw[if_neg c1] at en
    exact ycd ⟨_,_,_,_,lt,st,rfl,sm.trans s13,s13 _ _ I11,s13 _ _ F11,X11.same s13,s13 _ _ L11,by rw[en];exact l13,by rw[en];exact t11.same s13,n11,h11⟩
  clear s10 hsl I9 F9 X9 st9 lt9 hst0 nst S9
  rintro σ H11 ⟨o6,o7,o9,o10,lt,st,rfl,sm,I11,F11,X11,L11,l11,t11,n11,h11⟩
  rw[List.length_map,dsl] at l11 t11
  refine⟨_,rfl,.inl ⟨rfl,_,SqL.of F11⟩,_,rfl,fw,zs,.ref lt,rfl,rfl,F11,yaq (by omega),?_⟩
  have X12:=X11.push F11 l11 t11 n11 h11
  rw[← eld] at X12
  refine⟨_,_,_,_,_,_,_,zs++[.ref lt],rfl,sm.young hfw0,by rw[yal ndl];exact I11,yaa,X12⟩
 ·rintro σ H5 ⟨o4,o5,o6,o7,o8,o9,o10,zs,rfl,sm,I5,F5,X5⟩
  rw[List.length_map] at X5
  have zl:zs.length=ds.length+1:=by rw[X5.1,yef]
  obtain ⟨te,st,ete,hte,hst,nst,hst0⟩:=X5.2 ds.length _ (List.getElem?_eq_getElem (by omega))
  have eat:atI zs (-1)=some (.ref te):=by
   unfold atI ixN
   rw[if_neg (by decide),if_pos (by omega),show (-1+(zs.length:Int)).toNat=ds.length by omega]
   show zs[ds.length]? = _
   rw[List.getElem?_eq_getElem (by omega),ete]
  exact⟨_,rfl,_,rfl,fw,_,_,_,rfl,rfl,SqL.of F5,eat,te,_,_,.ref st,rfl,rfl,SqT.of hte,rfl,q st ds H5 hst0 hds sm hst⟩
theorem yn0 (G_dear_ones:Cal P w K mg base CX0 1 "dear_ones" yea yr5) (G_tightest:Cal P w K mg base CX0 2 "tightest" yey yny) (F:Fun K "paper_of" "paper_of" ydm f fd):FnOk P w K mg base CX0 3 f fd yez ygn:=by
 refine F.ok sc_paper_of (fun vs H Q E h=>?_) (fun cdv A outer s H vs Q E hr h=>?_)
 ·obtain ⟨a,c,d,u,rs,cs,ks,W,rfl,_⟩:=h;rfl
 obtain ⟨a,c,d,u,rs,cs,ks,W,rfl,hR,h3,hn,hC,lc,hW,hks,q⟩:=h
 refine⟨_,(yaf (yat (i:=4) sc_paper_of.nd rfl (Or.inl rfl) (yao (yen rfl) rfl B.sum PyProof.Rows.boot_sum (yam (yc2 (N':=["lot","count","duty"]) (ix:=[none,none,some 3]) (g:=(yob K 2 (ycc (ybi 0) (ycc (ybi 1) yoa)))) (ti:=(ygs (tOp (rI0 fun i j=>.bl (decide (j≤i))) (tOp (yq9 K) (ybv 0) (tC (.int 2))) (ybv 2)))) (te:=(ybv 1)) rfl (yax (N:=yjt) (D:=yab ydm) (by decide +kernel)) (yva rfl B.zip (yam (pv 0) (yam (pv 1) yae))) (fun C s H fp=>(ybl rfl (yah (yai (i:=0) (show (["lot","count","duty"]:List Str).Nodup by decide +kernel) rfl (Or.inl rfl)) (yah (yai (i:=1) (show (["lot","count","duty"]:List Str).Nodup by decide +kernel) rfl (Or.inl rfl)) ya4)))) (fun C s H fp=>(yd2 (ya5 ypi (ya3 ybg (pv 0) yag (fun _ _=>rfl)) (pv 2) (yba _)))) (fun C s H fp=>(pv 1))) yae)))
  (yak (ya2 (ybf (yam (pv 3) (yam (pv 4) (yam (yar G_tightest hr rfl ybe (yam (yar G_dear_ones hr rfl ybe (yam (pv 0) (yam (pv 3) yae))) (yam (pv 2) yae))) yae))))))),?_⟩
 obtain ⟨xs,ex,hx⟩:=hR.tups
 have lx:=hx.1
 refine⟨_,rfl,_,rfl,true,true,a,c,xs,_,rfl,SqL.of ex,SqL.of hC,fun D hD=>?_⟩
 refine ysv (fun i zs=>zs=(((List.range i).filter fun i=>ybj u (rs.getD i [])).map fun i=>cs.getD i 0).map V.int) hD ex hC (by rw[List.length_map];omega) (by omega) rfl (fun i x y zs H3 p e1 e2 s3 hp hpn K1 K2 k1 k2=>?_) fun zs H3 s3 hp lz hD3=>?_
 ·obtain ⟨pr,r,rfl,er,hpr⟩:=hx.at e1
  obtain ⟨v,rfl,ev⟩:=ydz e2
  obtain ⟨dd,cc,uu,rfl⟩:=ync (h3 r (List.mem_of_getElem? er))
  have sp:=yac (H:=H3) hpn (.tup [.ref pr,.int v])
  refine⟨p,_,rfl,SqT.of yaa,rfl,_,_,rfl,_,_,rfl,rfl,yaw (yaw ya7 rfl) rfl,?_⟩
  have dn:=ymn (u:=u) er ev
  have gb:ybj u [dd,cc,uu]=decide (u≤uu):=rfl
  refine⟨_,rfl,pr,_,_,.int uu,rfl,rfl,SqT.of (sp _ _ (s3 _ _ hpr)),rfl,_,rfl,_,_,rfl,rfl,_,rfl,?_⟩
  by_cases z:u≤uu
  ·rw[decide_eq_true z]
   refine yem ⟨_,rfl,k1 _ _ (fun _ _ h=>h) ?_⟩
   rw[dn,gb,if_pos (decide_eq_true z),List.map_append,hp];rfl
  ·rw[decide_eq_false z]
   refine ycd (k2 _ (fun _ _ h=>h) ?_)
   rw[dn,gb,if_neg (fun y=>z (of_decide_eq_true y)),List.append_nil,hp]
 subst hp
 rw[lx] at hD3
 refine⟨D,_,rfl,SqL.of hD3,?_⟩
 refine⟨_,rfl,_,rfl,_,rfl,_,rfl,a,u,rs,rfl,hR.same s3,h3,by omega,fun dl H4 hdl s4 R4=>?_⟩
 have S4:=s3.trans s4
 refine⟨_,rfl,dl,d,_,ks,W,rfl,R4,fun r hr=>h3 r (List.mem_filter.mp hr).1,?_,hW.same S4,fun r hr r' hr' hle=>hks r (List.mem_filter.mp hr).1 r' (List.mem_filter.mp hr').1 hle,fun l ds H5 hl hds s5 R5=>⟨by show 3≤sizeLine;decide,fun t ht=>?_⟩⟩
 ·have:=List.length_filter_le (ybj u) rs;omega
 have s6:=yac (H:=H5) ht (.tup [.int u,.int (ydk rs cs u),.ref l])
 exact q t l ds _ (S4.free hl) hds ((S4.trans s5).trans s6) (R5.same s6) yaa
theorem ysw (G_checked_both:Cal P w K mg base (CXE P w) 4 "checked_both" ycj (yr4 cl)) (G_best_of:Cal P w K mg base CX0 4 "best_of" yfh ykq) (G_against_each:Cal P w K mg base CX0 3 "against_each" ybz yd3) (G_paper_of:Cal P w K mg base CX0 3 "paper_of" yez ygn) (F:Fun K "papers" "papers" yek f fd):FnOk P w K mg base (CXE P w) 5 f fd ygo (yky cl):=by
 refine F.okE sc_papers (fun vs H Q E h=>?_) (fun cdv A outer s H vs Q E hr h=>?_)
 ·obtain ⟨a,b,tm,rs,os,rfl,_⟩:=h;rfl
 obtain ⟨a,b,tm,rs,os,rfl,hR,h3,hO,h2,q1,q2⟩:=h
 refine⟨_,(yaf (yc7 (yar (E:=E) G_checked_both hr rfl (yhw fun _ _ z=>z) (yam (pv 0) (yam (pv 1) (yam (pv 2) yae)))) (ybl rfl (yah (yai (i:=3) sc_papers.nd rfl (Or.inr rfl)) (yah (yai (i:=4) sc_papers.nd rfl (Or.inl rfl)) ya4))))
  (yaf (yat (i:=5) sc_papers.nd rfl (Or.inr rfl) (yar G_best_of hr rfl ybe (yam (pv 3) (yam (pv 4) (yam (pv 2) yae)))))
  (yaf (yat (i:=6) sc_papers.nd rfl (Or.inr rfl) (yar G_against_each hr rfl ybe (yam (pv 3) (yam (pv 4) (yam (pv 2) yae)))))
  (yaf (yat (i:=7) sc_papers.nd rfl (Or.inl rfl) (yao (yg0 rfl) rfl B.sorted PyProof.Rows.boot_sorted (yam (yox (N':=["day","count","duty"]) (ix:=[none,none,none]) (g:=(yob K 3 (ycc (ybi 0) (ycc (ybi 1) (ycc (ybi 2) yoa))))) (ti:=ylj) (te:=(ybv 2)) rfl (yax (N:=ykz) (D:=yab yek) (by decide +kernel)) (ya8 (pv 3)) (fun C s H fp=>(ybl rfl (yah (yai (i:=0) (show (["day","count","duty"]:List Str).Nodup by decide +kernel) rfl (Or.inl rfl)) (yah (yai (i:=1) (show (["day","count","duty"]:List Str).Nodup by decide +kernel) rfl (Or.inl rfl)) (yah (yai (i:=2) (show (["day","count","duty"]:List Str).Nodup by decide +kernel) rfl (Or.inl rfl)) ya4))))) (fun C s H fp=>ycn) (fun C s H fp=>(pv 2))) yae)))
  (yak (ya2 (yc2 (N':=["duty","goods","counts","widths"]) (ix:=[none,some 3,some 5,some 6]) (g:=(ybi 0)) (ti:=ylj) (te:=(ypl ygn [] E0 (ycp (ybv 1) (ycp (ybv 2) (ycp (ybv 3) (ycp (ybv 0) ypk)))))) rfl (yax (N:=ykz) (D:=yab yek) (by decide +kernel)) (ya8 (yvg (pv 7) yx1)) (fun C s H fp=>(yai (i:=0) (show (["duty","goods","counts","widths"]:List Str).Nodup by decide +kernel) rfl (Or.inl rfl))) (fun C s H fp=>ycn) (fun C s H fp=>(yar G_paper_of hr rfl ybe (yam (pv 1) (yam (pv 2) (yam (pv 3) (yam (pv 0) yae))))))))))))),?_⟩
 refine⟨_,rfl,_,rfl,_,rfl,a,b,tm,rs,os,rfl,hR,h3,hO,h2,q1,fun bn t g o H1 ht hg ho s1 R1 O1 e1=>?_⟩
 obtain ⟨rn,on,rb,ob⟩:=ywo bn
 refine⟨t,_,rfl,SqT.of e1,rfl,_,_,rfl,_,_,rfl,rfl,?_⟩
 refine⟨_,rfl,_,rfl,_,rfl,g,o,tm,rs,os,rfl,R1,h3,by omega,O1,h2,by omega,fun lc cs H2 hlc hb s2 I2=>?_⟩
 have lcs:=hb.len
 refine⟨_,rfl,_,rfl,_,rfl,g,o,tm,rs,os,rfl,R1.same s2,h3,by omega,O1.same s2,h2,by omega,fun d ds H3 hd hds s3 SL=>?_⟩
 have S3:=s1.trans (s2.trans s3)
 have R3:=R1.same (s2.trans s3)
 have I3:=s3 _ _ I2
 obtain ⟨xs,ex,hx⟩:=R3.tups
 have lx:=hx.1
 have hks:∀r∈rs,∀r'∈rs,r.getD 0 0≤r'.getD 0 0→(r.getD 0 0,r'.getD 0 0)∈yau ds:=fun r hr r' hr' hle=>mem_str.mpr ⟨(hds.2.1 _).mpr ⟨r,hr,rfl⟩,(hds.2.1 _).mpr ⟨r',hr',rfl⟩,hle⟩
 refine⟨_,rfl,g,rfl,⟨xs,SqL.of ex⟩,fun D hD=>?_⟩
 refine yo0 (fun i ns=>ns.Nodup∧(∀d,d∈ns↔∃r∈rs.take i,r.getD 2 0=d)∧ns.length≤i) hD ex (by omega) ⟨List.nodup_nil,fun d=>⟨fun z=>(by cases z),fun ⟨r,hr,_⟩=>(by cases hr)⟩,Nat.le_refl _⟩ ?_ ?_
 ·rintro i x ns H4 ei s4 ⟨nd,hm,hl⟩ K1 K2 k1 k2
  obtain ⟨p,r,rfl,er,hp⟩:=hx.at ei
  obtain ⟨dd,cc,u,rfl⟩:=ync (h3 r (List.mem_of_getElem? er))
  refine⟨p,_,rfl,SqT.of (s4 _ _ hp),rfl,_,_,rfl,_,_,rfl,_,_,rfl,rfl,yaw (yaw (yaw ya7 rfl) rfl) rfl,?_⟩
  refine⟨_,rfl,k1 _ u _ rfl (Same.refl _) ⟨?_,fun e=>?_,?_⟩⟩
  ·split
   ·exact nd
   ·rename_i z
    exact List.nodup_append.mpr ⟨nd,by simp,fun a ha b hb e=>z (by rw[← List.mem_singleton.mp hb,← e];exact ha)⟩
  ·rw[yaz er]
   have key:(∃r∈rs.take i++[[dd,cc,u]],r.getD 2 0=e)↔(e∈ns∨e=u):=by
    rw[hm e]
    constructor
    ·rintro ⟨r,hr,e'⟩
     rcases List.mem_append.mp hr with z|z
     ·exact .inl ⟨r,z,e'⟩
     ·rw[List.mem_singleton.mp z] at e';exact .inr e'.symm
    ·rintro (⟨r,hr,e'⟩ | rfl)
     ·exact⟨r,List.mem_append_left _ hr,e'⟩
     ·exact⟨_,List.mem_append_right _ (List.mem_singleton.mpr rfl),rfl⟩
   rw[key]
   split
   ·rename_i z
    exact⟨.inl,fun y=>y.elim id fun y'=>by rw[y'];exact z⟩
   ·rw[List.mem_append,List.mem_singleton]
  ·split
   ·omega
   ·rw[List.length_append,List.length_singleton];omega
 ·rintro ns H4 s4 ⟨nd,hm,hl⟩ hl' hz
  rw[lx,List.take_length] at hm
  refine⟨D,ns,rfl,hz,by omega,fun dl ms hdl hp hs=>?_⟩
  have s5:=s4.trans (yac hdl (.lst (ms.map V.int)))
  have hdu:ykx rs ms.reverse:=by
   refine⟨?_,fun u=>by rw[List.mem_reverse,hp.mem_iff];exact hm u,by rw[List.length_reverse,hp.length_eq];omega⟩
   rw[List.pairwise_reverse]
   exact(hs.and (hp.nodup_iff.mpr nd)).imp fun ⟨z1,z2⟩=>by omega
  have ml:ms.reverse.length≤30:=by have:=hdu.2.2;omega
  refine⟨_,rfl,dl,_,rfl,SqL.of yaa,fun rl hrl=>?_⟩
  rw[← List.map_reverse]
  have s6:=s5.trans (yac hrl (.lst (ms.reverse.map V.int)))
  have L6:=yaa (H:=L2.upd H4 dl (.lst (ms.map V.int))) (a:=rl) (o:=.lst (ms.reverse.map V.int))
  generalize L2.upd (L2.upd H4 dl (.lst (ms.map V.int))) rl (.lst (ms.reverse.map V.int))=H6 at *
  generalize ms.reverse=us at *
  refine⟨rl,rfl,⟨_,SqL.of L6⟩,fun D2 hD2=>?_⟩
  have S6:=S3.trans s6
  refine yo8 (fun i zs H'=>yzx H D2 H' zs (us.take i) rs os tm cs∧PapL D2 H' zs) hD2 L6 (by rw[List.length_map];omega) (fun i zs H' H'' ⟨h,h'⟩ nl hk=>⟨⟨h.1,fun j x u e1 e2=>?_⟩,h'.but nl hk⟩) ⟨⟨rfl,fun j x u e1=>(by cases e1)⟩,.nil⟩ (fun i x zs H7 e1 hz7 s7 ⟨hp7,hL7⟩ K1 k1=>?_) fun zs H7 s7 ⟨hp7,hL7⟩ lz hD7=>?_
  ·obtain ⟨t,l,ds',a1,a2,a3,a4,a5,a6⟩:=h.2 j x u e1 e2
   have nt:t≠D2:=fun y=>by subst y;rcases nl with n|⟨_,n⟩ <;> rw[n] at a2 <;> cases a2
   exact⟨t,l,ds',a1,hk _ _ nt a2,a3,a4.but hk nl a6,a5,a6⟩
  ·obtain ⟨u,rfl,eu⟩:=ydz e1
   refine⟨yaw ya7 rfl,?_⟩
   have S7:=s6.trans s7
   refine⟨_,rfl,_,rfl,_,rfl,_,rfl,g,lc,d,u,rs,cs,yau ds,yan os tm,rfl,R3.same S7,h3,by omega,S7 _ _ I3,lcs,SL.same S7,hks,fun t l ds' H8 hl hds' s8 R8 ht=>?_⟩
   have hi:i<us.length:=(List.getElem?_eq_some_iff.mp eu).1
   have zl:zs.length=i:=by rw[hp7.1,List.length_take];omega
   have hl8:=R8.there
   refine k1 _ H8 s8 ⟨⟨by rw[List.length_append,zl,List.length_take];show i+1=_;omega,fun j x u' e3 e4=>?_⟩,hL7.push s8 hz7 hl ht hl8.choose_spec⟩
   by_cases hj:j<i
   ·rw[List.getElem?_append_left (by omega)] at e3
    have e4':(us.take i)[j]? = some u':=by rw[List.getElem?_take_of_lt (by omega)] at e4;rw[List.getElem?_take_of_lt hj];exact e4
    obtain ⟨t',l',ds'',a1,a2,a3,a4,a5,a6⟩:=hp7.2 j x u' e3 e4'
    exact⟨t',l',ds'',a1,s8 _ _ a2,a3,a4.same s8,a5,a6⟩
   ·have:j=i:=by
     have:=(List.getElem?_eq_some_iff.mp e3).1
     rw[List.length_append,zl] at this
     have z1:[V.ref t].length=1:=rfl
     omega
    subst this
    rw[List.getElem?_append_right (by omega),zl,Nat.sub_self] at e3
    cases e3
    rw[List.getElem?_take_of_lt (by omega),eu] at e4
    cases e4
    exact⟨t,l,ds',rfl,ht,hds',R8,(S6.trans s7).free hl,fun z=>by rw[z,hz7] at hl;cases hl⟩
  ·rw[List.length_map,List.take_length] at hp7
   exact q2 bn D2 zs us cs H7 (S6.free hD2) hb hdu (S6.trans s7) hD7 hp7 hL7
end
end K16
namespace K16
open PySem L2
abbrev yhe:Stmt:=top 53
abbrev yhf:List Str:=["_law_found","_law_due"]
abbrev ysx:List Str:=["_law_found","_law_due"]
theorem ywy:FnScope yhf ysx (yab yhe):=⟨rfl,rfl,rfl,by decide +kernel,rfl,by decide +kernel,by decide +kernel⟩
def yip:Nat→Sp
 |0=>fun _ _ _ _=>False
 |n+1=>fun vs H Q _=>∃v u,vs=[v,u]∧EqD H n v u∧∀H',Same H H'→Q (.bl true) H'
section
variable {P:Program}{w:World}{K:PySem.W.Frag}{mg:Str→Option Value}{base:Heap}{f:Addr}{fd:FuncData}
theorem nd2:(["_law_one","_law_other"]:List Str).Nodup:=by decide +kernel
abbrev g2 (K:PySem.W.Frag):TG:=yob K 2 (ycc (ybi 0) (ycc (ybi 1) yoa))
theorem ymo {m:Nat}{H2:Hp}{a b:Addr}{xs ys:List V}{bb:Bool}{Q:VK}(hl:xs.length=ys.length)(hs:xs.length≤1000)(hx:∀(i:Nat) x y,xs[i]? = some x→ys[i]? = some y→EqD H2 m x y)(hb:∀H',Same H2 H'→SqB K H' bb a xs∧SqB K H' bb b ys)
 (q:∀H',Same H2 H'→Q (.bl true) H'):yvz [none,none] (yzq K (ycp (ybv 0) (ycp (ybv 1) ypk))) (g2 K) ylj (ypl (yip (m+1)) [] E0 (ycp (ybv 0) (ycp (ybv 1) ypk))) [some (.ref a),some (.ref b)] H2
  (fun x H3=>∃(p:Addr) (bs:List Bool),[x]=[V.ref p]∧SqL K H3 p (bs.map V.bl)∧Q (.bl (bs.all id)) H3):=by
 obtain ⟨q1,q2⟩:=hb H2 (Same.refl H2)
 refine⟨_,rfl,_,rfl,bb,bb,a,b,xs,ys,rfl,q1,q2,fun D hD=>⟨fun i m' H4=>i+m' = xs.length∧Same H2 H4∧H4 D=some (.lst (List.replicate i (.bl true))),⟨xs.length,by omega,yac hD _,yaa⟩,?_⟩⟩
 rintro i m' H4 ⟨him,sm,hD4⟩
 obtain ⟨r1,r2⟩:=hb H4 sm
 by_cases hi:i<xs.length
 ·refine .inr ⟨⟨xs,ys,xs[i],ys[i]'(by omega),r1,r2,List.getElem?_eq_getElem hi,List.getElem?_eq_getElem (by omega)⟩,?_⟩
  rintro x H' ⟨p,x',y',rfl,hp,rfl,hxy⟩
  obtain ⟨e1,e2⟩:=hxy xs ys r1 r2
  refine⟨p,_,rfl,SqT.of yaa,rfl,_,_,rfl,_,_,rfl,rfl,?_,?_⟩
  ·intro k v e
   match k,e with
   |0,e=>cases e
   |1,e=>cases e
   |k+2,e=>cases e
  ·refine⟨_,rfl,_,rfl,x',y',rfl,(hx i x' y' e1 e2).same (sm.trans (yac hp _)),fun H5 s5=>?_⟩
   have hD5:=s5 _ _ (show L2.upd H4 p (.tup [x',y']) D=some (.lst (List.replicate i (.bl true))) by rw[yal (yaj hD4 hp)];exact hD4)
   refine⟨_,hD5,yaq (by rw[List.length_replicate];omega),m' - 1,by omega,by omega,fun c o e=>?_,?_⟩
   ·rw[yal (yaj e hD)]
    exact s5 _ _ (yac hp _ _ _ (sm _ _ e))
   ·rw[yaa,List.replicate_succ']
 ·refine .inl ⟨⟨xs,ys,r1,r2,.inl (by omega)⟩,D,List.replicate i true,rfl,SqL.of (by rw[List.map_replicate];exact hD4),?_⟩
  have e:(List.replicate i true).all id=true:=List.all_eq_true.mpr fun b hb=>by rw[List.eq_of_mem_replicate hb];rfl
  rw[e]
  exact q H4 sm
theorem yuq {n:Nat} (F:Fun K "_law_same" "_law_same" yhe f fd) (B:Bn mg) (G:FnOk P w K mg base CX0 n f fd yhf (yip n)) (b1:Binds K fd yhf []) (k1:PySem.W.keepIn K (.ref f)=true) (m1:mg "_law_same" = some (.ref f)) :
 FnOk P w K mg base CX0 (n+1) f fd yhf (yip (n+1)):=by
 refine F.ok ywy (fun vs H Q E h=>?_) (fun cdv A outer s H vs Q E hr h=>?_)
 ·obtain ⟨v,u,rfl,_⟩:=h;rfl
 obtain ⟨v,u,rfl,heq,q⟩:=h
 refine⟨_,yaf (yeg (ya5 yu5 (pv 1) yu1 (yba _)) (yak (ya2 (yfc yu5 (pv 0) yu1 (yba _)))) ybr)
  (yaf (yeg (PW.pt (ypg (ydq (yao yb4 rfl B.isi PyProof.Rows.boot_isinstance (yam (pv 1) (yam (yb1 rfl B.bool PyProof.Rows.boot_bool (v:=.ty "bool") rfl) yae))) (fun _=>rfl)) (yk4 (ydq (yao yb4 rfl B.isi PyProof.Rows.boot_isinstance (yam (pv 0) (yam (yb1 rfl B.bool PyProof.Rows.boot_bool (v:=.ty "bool") rfl) yae))) (fun _=>rfl)))))
   (yak (ya2 (yk6 (yao yb4 rfl B.isi PyProof.Rows.boot_isinstance (yam (pv 1) (yam (yb1 rfl B.bool PyProof.Rows.boot_bool (v:=.ty "bool") rfl) yae))) (yk6 (yao yb4 rfl B.isi PyProof.Rows.boot_isinstance (yam (pv 0) (yam (yb1 rfl B.bool PyProof.Rows.boot_bool (v:=.ty "bool") rfl) yae))) (yqr (yfc ym2 (pv 0) (pv 1) (yba _))))))) ybr)
  (yaf (yeg (ydq (yao yoi rfl B.isi PyProof.Rows.boot_isinstance (yam (pv 1) (yam (ybf (yam (yb1 rfl B.int PyProof.Rows.boot_int (v:=.ty "int") rfl) (yam (yb1 rfl B.str PyProof.Rows.boot_str (v:=.ty "str") rfl) yae))) yae))) (fun _=>rfl))
   (yak (ya2 (yk6 (yfc ym2 (yao yb4 rfl B.isi PyProof.Rows.boot_isinstance (yam (pv 0) (yam (yb1 rfl B.int PyProof.Rows.boot_int (v:=.ty "int") rfl) yae))) (yao yb4 rfl B.isi PyProof.Rows.boot_isinstance (yam (pv 1) (yam (yb1 rfl B.int PyProof.Rows.boot_int (v:=.ty "int") rfl) yae))) (yba _))
    (yk6 (yao yoi rfl B.isi PyProof.Rows.boot_isinstance (yam (pv 0) (yam (ybf (yam (yb1 rfl B.int PyProof.Rows.boot_int (v:=.ty "int") rfl) (yam (yb1 rfl B.str PyProof.Rows.boot_str (v:=.ty "str") rfl) yae))) yae))) (yqr (yfc ym2 (pv 0) (pv 1) (yba _))))))) ybr)
  (yaf (yeg (PW.pt (ypg (ya5 yvr (yao yb4 rfl B.isi PyProof.Rows.boot_isinstance (yam (pv 0) (yam (yb1 rfl B.list PyProof.Rows.boot_list (v:=.ty "list") rfl) yae))) (yao yb4 rfl B.isi PyProof.Rows.boot_isinstance (yam (pv 1) (yam (yb1 rfl B.list PyProof.Rows.boot_list (v:=.ty "list") rfl) yae))) (yba _))
   (yk4 (ya5 yvr (yao yb4 rfl B.isi PyProof.Rows.boot_isinstance (yam (pv 0) (yam (yb1 rfl B.tuple PyProof.Rows.boot_tuple (v:=.ty "tuple") rfl) yae))) (yao yb4 rfl B.isi PyProof.Rows.boot_isinstance (yam (pv 1) (yam (yb1 rfl B.tuple PyProof.Rows.boot_tuple (v:=.ty "tuple") rfl) yae))) (yba _)))))
   (yak (ya2 ym0)) ybr)
  (yaf (yeg (ya5 yvr (yao ybm rfl B.len PySem.boot_len (yam (pv 0) yae)) (yao ybm rfl B.len PySem.boot_len (yam (pv 1) yae)) (yba _)) (yak (ya2 ym0)) ybr)
  (yak (ya2 (yao (yll rfl) rfl B.all PyProof.Rows.boot_all (yam (yc2 (N':=["_law_one","_law_other"]) (ix:=[none,none]) (g:=g2 K) (ti:=ylj) (te:=ypl (yip n) [] E0 (ycp (ybv 0) (ycp (ybv 1) ypk))) rfl (yax (N:=yhf) (D:=yab yhe) (by decide +kernel)) (yva rfl B.zip (yam (pv 0) (yam (pv 1) yae)))
   (fun C s H fp=>ybl rfl (yah (yai (i:=0) nd2 rfl (Or.inl rfl)) (yah (yai (i:=1) nd2 rfl (Or.inl rfl)) ya4))) (fun _ _ _ _=>ycn) (fun C s H fp=>yq3 G hr rfl m1 k1 b1 .nil ybe (yam (pv 0) (yam (pv 1) yae)))) yae)))))))),?_⟩
 have sN:∀{p:Addr}{o:HO},H p=none→Same H (L2.upd H p o):=fun hp=>yac hp _
 cases heq with
 |flat hf=>
  cases v with
  |non=>
   refine⟨_,rfl,rfl,_,rfl,?_⟩
   refine yem ?_
   exact⟨_,rfl,rfl,q H (Same.refl H)⟩
  |bl b=>
   refine⟨_,rfl,rfl,_,rfl,?_⟩
   refine ycd ?_
   refine⟨_,rfl,_,_,_,_,true,rfl,rfl,TyOf.bl b,by kernel_rfl,_,rfl,?_⟩
   refine yem (yem ?_)
   refine⟨_,rfl,_,_,_,_,true,rfl,rfl,TyOf.bl b,by kernel_rfl,_,rfl,?_⟩
   refine yem ⟨_,rfl,_,_,_,_,true,rfl,rfl,TyOf.bl b,by kernel_rfl,_,rfl,?_⟩
   refine yem ⟨_,rfl,_,rfl,rfl,?_⟩
   rw[decide_eq_true (rfl:V.bl b=V.bl b)]
   exact q H (Same.refl H)
  |int i=>
   refine⟨_,rfl,rfl,_,rfl,?_⟩
   refine ycd ?_
   refine⟨_,rfl,_,_,_,_,false,rfl,rfl,TyOf.int i,by kernel_rfl,_,rfl,?_⟩
   refine ycd ⟨_,rfl,_,_,_,_,false,rfl,rfl,TyOf.int i,by kernel_rfl,_,rfl,?_⟩
   refine ycd ?_
   refine⟨_,rfl,by show 2≤sizeLine;decide,fun p hp=>⟨_,p,_,_,[.type "int",.type "str"],true,rfl,yaa,rfl,TyOf.int i,by kernel_rfl,_,rfl,?_⟩⟩
   refine yem ?_
   refine⟨_,rfl,_,_,_,_,true,rfl,rfl,TyOf.int i,by kernel_rfl,_,rfl,_,_,_,_,true,rfl,rfl,TyOf.int i,by kernel_rfl,rfl,_,rfl,?_⟩
   refine yem ⟨_,rfl,by show 2≤sizeLine;decide,fun p2 hp2=>⟨_,p2,_,_,[.type "int",.type "str"],true,rfl,yaa,rfl,TyOf.int i,by kernel_rfl,_,rfl,?_⟩⟩
   refine yem ⟨_,rfl,_,rfl,rfl,?_⟩
   rw[decide_eq_true (rfl:V.int i=V.int i)]
   exact q _ ((sN hp).trans (yac hp2 _))
  |str x=>
   refine⟨_,rfl,rfl,_,rfl,?_⟩
   refine ycd ?_
   refine⟨_,rfl,_,_,_,_,false,rfl,rfl,TyOf.str x,by kernel_rfl,_,rfl,?_⟩
   refine ycd ⟨_,rfl,_,_,_,_,false,rfl,rfl,TyOf.str x,by kernel_rfl,_,rfl,?_⟩
   refine ycd ?_
   refine⟨_,rfl,by show 2≤sizeLine;decide,fun p hp=>⟨_,p,_,_,[.type "int",.type "str"],true,rfl,yaa,rfl,TyOf.str x,by kernel_rfl,_,rfl,?_⟩⟩
   refine yem ?_
   refine⟨_,rfl,_,_,_,_,false,rfl,rfl,TyOf.str x,by kernel_rfl,_,rfl,_,_,_,_,false,rfl,rfl,TyOf.str x,by kernel_rfl,rfl,_,rfl,?_⟩
   refine yem ⟨_,rfl,by show 2≤sizeLine;decide,fun p2 hp2=>⟨_,p2,_,_,[.type "int",.type "str"],true,rfl,yaa,rfl,TyOf.str x,by kernel_rfl,_,rfl,?_⟩⟩
   refine yem ⟨_,rfl,_,rfl,rfl,?_⟩
   rw[decide_eq_true (rfl:V.str x=V.str x)]
   exact q _ ((sN hp).trans (yac hp2 _))
  |_=>exact absurd (show false=true from hf) Bool.false_ne_true
 |@tup m a b xs ys h1 h2 hl hs hx=>
  refine⟨_,rfl,rfl,_,rfl,?_⟩
  refine ycd ?_
  refine⟨_,rfl,_,_,_,_,false,rfl,rfl,TyOf.tup h2,by kernel_rfl,_,rfl,?_⟩
  refine ycd ⟨_,rfl,_,_,_,_,false,rfl,rfl,TyOf.tup h1,by kernel_rfl,_,rfl,?_⟩
  refine ycd ?_
  refine⟨_,rfl,by show 2≤sizeLine;decide,fun p hp=>?_⟩
  have g1:=sN (o:=.tup [.ty "int",.ty "str"]) hp _ _ h1
  have g2:=sN (o:=.tup [.ty "int",.ty "str"]) hp _ _ h2
  refine⟨_,p,_,_,[.type "int",.type "str"],false,rfl,yaa,rfl,TyOf.tup g2,by kernel_rfl,_,rfl,?_⟩
  refine ycd ?_
  refine⟨_,rfl,_,_,_,_,false,rfl,rfl,TyOf.tup g1,by kernel_rfl,_,rfl,_,_,_,_,false,rfl,rfl,TyOf.tup g2,by kernel_rfl,rfl,_,rfl,?_⟩
  refine ycd ⟨_,rfl,_,_,_,_,true,rfl,rfl,TyOf.tup g1,by kernel_rfl,_,rfl,_,_,_,_,true,rfl,rfl,TyOf.tup g2,by kernel_rfl,rfl,_,rfl,?_⟩
  refine ycd ?_
  refine⟨_,rfl,a,_,rfl,.inr (SqT.of g1),_,rfl,b,_,rfl,.inr (SqT.of g2),rfl,_,rfl,?_⟩
  refine yxn (by rw[hl]) ?_
  exact ymo (bb:=false) hl hs (fun i x y e1 e2=>(hx i x y e1 e2).same (sN hp)) (fun H' sm=>⟨SqT.of (sm _ _ g1),SqT.of (sm _ _ g2)⟩) fun H' sm=>q H' ((sN hp).trans sm)
 |@lst m a b xs ys h1 h2 hl hs hx=>
  refine⟨_,rfl,rfl,_,rfl,?_⟩
  refine ycd ?_
  refine⟨_,rfl,_,_,_,_,false,rfl,rfl,TyOf.lst h2,by kernel_rfl,_,rfl,?_⟩
  refine ycd ⟨_,rfl,_,_,_,_,false,rfl,rfl,TyOf.lst h1,by kernel_rfl,_,rfl,?_⟩
  refine ycd ?_
  refine⟨_,rfl,by show 2≤sizeLine;decide,fun p hp=>?_⟩
  have g1:=sN (o:=.tup [.ty "int",.ty "str"]) hp _ _ h1
  have g2:=sN (o:=.tup [.ty "int",.ty "str"]) hp _ _ h2
  refine⟨_,p,_,_,[.type "int",.type "str"],false,rfl,yaa,rfl,TyOf.lst g2,by kernel_rfl,_,rfl,?_⟩
  refine ycd ?_
  refine⟨_,rfl,_,_,_,_,true,rfl,rfl,TyOf.lst g1,by kernel_rfl,_,rfl,_,_,_,_,true,rfl,rfl,TyOf.lst g2,by kernel_rfl,rfl,_,rfl,?_⟩
  refine ycd ⟨_,rfl,_,_,_,_,false,rfl,rfl,TyOf.lst g1,by kernel_rfl,_,rfl,_,_,_,_,false,rfl,rfl,TyOf.lst g2,by kernel_rfl,rfl,_,rfl,?_⟩
  refine ycd ?_
  refine⟨_,rfl,a,_,rfl,.inl (SqL.of g1),_,rfl,b,_,rfl,.inl (SqL.of g2),rfl,_,rfl,?_⟩
  refine yxn (by rw[hl]) ?_
  exact ymo (bb:=true) hl hs (fun i x y e1 e2=>(hx i x y e1 e2).same (sN hp)) (fun H' sm=>⟨SqL.of (sm _ _ g1),SqL.of (sm _ _ g2)⟩) fun H' sm=>q H' ((sN hp).trans sm)
theorem ysy (F:Fun K "_law_same" "_law_same" yhe f fd) (B:Bn mg) (b1:Binds K fd yhf []) (k1:PySem.W.keepIn K (.ref f)=true) (m1:mg "_law_same" = some (.ref f)):∀n:Nat,FnOk P w K mg base CX0 n f fd yhf (yip n)
 |0=>⟨fun _ _ _ _ h=>False.elim h,fun _ _ _ _ _ _ _ _ _ _ _ _ _ h=>False.elim h⟩
 |n+1=>yuq F B (ysy F B b1 k1 m1 n) b1 k1 m1
end
end K16
namespace K16
open PySem L2
abbrev ydx:Stmt:=top 49
abbrev ymp:List Str:=["_law_rows"]
abbrev yfk:List Str:=["_law_rows"]
theorem yqg:FnScope ymp yfk (yab ydx):=⟨rfl,rfl,rfl,by decide +kernel,rfl,by decide +kernel,by decide +kernel⟩
abbrev ydn:Str:=("_law_eldest" : Str) ++ ".<locals>." ++ "<lambda>"
abbrev ydo:PySem.Pos:=yvj ydx
abbrev ycy:Stmt:=top 48
abbrev yju:List Str:=["_law_lots"]
abbrev ye0:List Str:=["_law_lots"]
theorem yn1:FnScope yju ye0 (yab ycy):=⟨rfl,rfl,rfl,by decide +kernel,rfl,by decide +kernel,by decide +kernel⟩
abbrev ycr:Str:=("_law_dearest" : Str) ++ ".<locals>." ++ "<lambda>"
abbrev ycs:PySem.Pos:=yvj ycy
abbrev yjv:Stmt:=top 50
abbrev yyi:List Str:=["_law_lots","_law_outs","_law_term","_law_taken","_law_left","_law_found","_law_order","_law_out","_law_day","_law_count","_law_lot","_law_some"]
abbrev ymq:List Str:=["_law_lots","_law_outs","_law_term","_law_taken"]
theorem sc_deal:FnScope yyi ymq (yab yjv):=⟨rfl,rfl,rfl,by decide +kernel,rfl,by decide +kernel,by decide +kernel⟩
abbrev yjw:Stmt:=top 51
abbrev yyj:List Str:=["_law_lots","_law_outs","_law_term","_law_taken","_law_at","_law_low","_law_high","_law_middle","_law_tried"]
abbrev ymr:List Str:=["_law_lots","_law_outs","_law_term","_law_taken","_law_at"]
theorem sc_most:FnScope yyj ymr (yab yjw):=⟨rfl,rfl,rfl,by decide +kernel,rfl,by decide +kernel,by decide +kernel⟩
abbrev yg5:Stmt:=top 52
abbrev ywz:List Str:=["_law_lots","_law_outs","_law_term","_law_taken","_law_at"]
abbrev yiq:List Str:=["_law_lots","_law_outs","_law_term"]
theorem sc_bestL:FnScope ywz yiq (yab yg5):=⟨rfl,rfl,rfl,by decide +kernel,rfl,by decide +kernel,by decide +kernel⟩
section
variable {P:Program}{w:World}{K:PySem.W.Frag}{mg:Str→Option Value}{base:Heap}{f c PT:Addr}{fd:FuncData}{tb:Tbs}(B:Bn mg)
include B
theorem yqh (BM:yi4 mg base) (hc:fd.code = .ref c) (hC:PySem.W.codeHdIn K c PT=true) (ht:(PT,ydn,ydo)∈tb) (F:Fun K "_law_eldest" "_law_eldest" ydx f fd):FnOk P w K mg base CX0 1 f fd yfk (yjl tb ypu okE):=by
 refine F.okC hc yqg (fun vs H Q E h=>?_) (fun A outer s H vs Q E hr h=>?_)
 ·obtain ⟨a,rs,rfl,_⟩:=h;rfl
 obtain ⟨a,rs,rfl,hT,hR,h60,hok,q⟩:=h
 refine⟨_,(yak (ya2 (yo1 (N':=["_law_at","_law_rows"]) (ix:=[none,some 0]) (p := "_law_at") (tb:=(yw3 (ycp (tOp (yq9 K) (tOp (yw4 K) (ybv 1) (ybv 0)) (tC (.int 0))) (ycp (ybv 0) ypk)))) hr (yam (ycg (yge rfl) rfl B.list PyProof.Rows.boot_list (yam (ycg ylt rfl B.range PyProof.Rows.boot_range (yam (yao ybm rfl B.len PySem.boot_len (yam (pv 0) yae)) yae)) yae)) yae) rfl B.sorted PyProof.Rows.boot_sorted rfl rfl hC BM rfl rfl (yme (N:=ymp) (D:=yab ydx) (by decide +kernel)) (fun _ _ _ _ _=>rfl) (fun A f c s H=>(ybf (yam (ya3 ybg (ya3 ya0 (pv 1) (pv 0) (fun _ _=>rfl)) yag (fun _ _=>rfl)) (yam (pv 0) yae))))))),?_⟩
 obtain ⟨xs,ex,hx⟩:=hR.tups
 have lx:=hx.1
 refine⟨_,rfl,a,xs,rfl,.inl (SqL.of ex),(xs.length:Int),rfl,fun g hg=>?_⟩
 refine⟨g,xs.length,rfl,yaa,by omega,fun l hl=>?_⟩
 have sg:=yac (H:=H) hg (.rng 0 (xs.length:Int))
 have sl:=yac hl (.lst ((ya9 xs.length).map V.int))
 have s1:=sg.trans sl
 refine⟨l,ya9 xs.length,ypu rs,2,rfl,yaa,by rw[ybt];omega,s1 _ _ (hT _ ht),by decide,fun n hn=>rfl,fun n hn H2 h2=>?_,fun D ms H' hD hp ho s2 e2=>?_⟩
 ·obtain ⟨n0,n1⟩:=uptoN_mem.mp hn
  obtain ⟨k,rfl⟩ : ∃k:Nat,n=(k:Int):=⟨n.toNat,by omega⟩
  have hk:k<xs.length:=by omega
  obtain ⟨p,r,ep,er,hp⟩:=hx.at (List.getElem?_eq_getElem hk)
  have eix:atI xs (k:Int)=some (.ref p):=ydy (by rw[List.getElem?_eq_getElem hk,ep])
  obtain ⟨d,r',rfl⟩ : ∃d r',r=d::r':=by
   match r,hok r (List.mem_of_getElem? er) with
   |d::r',_=>exact⟨d,r',rfl⟩
  have ex2:H2 a=some (.lst xs):=h2 _ _ (s1 _ _ ex) (by intro z;cases z) (by intro z;cases z)
  have hp2:H2 p=some (.tup ((d::r').map V.int)):=h2 _ _ (s1 _ _ hp) (by intro z;cases z) (by intro z;cases z)
  refine⟨_,rfl,_,rfl,a,xs,_,.ref p,rfl,rfl,SqL.of ex2,eix,p,_,_,.int d,rfl,rfl,SqT.of hp2,yj6 (by decide) rfl,_,rfl,by show 2≤sizeLine;decide,fun t ht=>⟨t,rfl,yac ht _,?_⟩⟩
  have e2:ypu rs ((k:Nat):Int)=[d,(k:Int)]:=by
   unfold ypu yad
   rw[yej er];rfl
  rw[e2]
  exact yaa
 ·rw[lx] at hp
  exact q D ms H' (s1.free hD) (s1.trans s2) ⟨hp,ho⟩ e2
theorem yn2 (BM:yi4 mg base) (hc:fd.code = .ref c) (hC:PySem.W.codeHdIn K c PT=true) (ht:(PT,ycr,ycs)∈tb) (F:Fun K "_law_dearest" "_law_dearest" ycy f fd):FnOk P w K mg base CX0 1 f fd ye0 (yjl tb keyD okD):=by
 refine F.okC hc yn1 (fun vs H Q E h=>?_) (fun A outer s H vs Q E hr h=>?_)
 ·obtain ⟨a,rs,rfl,_⟩:=h;rfl
 obtain ⟨a,rs,rfl,hT,hR,h60,hok,q⟩:=h
 refine⟨_,(yak (ya2 (yo1 (N':=["_law_at","_law_lots"]) (ix:=[none,some 0]) (p := "_law_at") (tb:=(yw3 (ycp (tUn (rU fun i=>.int (-i)) (tOp (yq9 K) (tOp (yw4 K) (ybv 1) (ybv 0)) (tC (.int 2)))) (ycp (tOp (yq9 K) (tOp (yw4 K) (ybv 1) (ybv 0)) (tC (.int 0))) (ycp (ybv 0) ypk))))) hr (yam (ycg (yge rfl) rfl B.list PyProof.Rows.boot_list (yam (ycg ylt rfl B.range PyProof.Rows.boot_range (yam (yao ybm rfl B.len PySem.boot_len (yam (pv 0) yae)) yae)) yae)) yae) rfl B.sorted PyProof.Rows.boot_sorted rfl rfl hC BM rfl rfl (yme (N:=yju) (D:=yab ycy) (by decide +kernel)) (fun _ _ _ _ _=>rfl) (fun A f c s H=>(ybf (yam (ytf yod (ya3 ybg (ya3 ya0 (pv 1) (pv 0) (fun _ _=>rfl)) yag (fun _ _=>rfl))) (yam (ya3 ybg (ya3 ya0 (pv 1) (pv 0) (fun _ _=>rfl)) yag (fun _ _=>rfl)) (yam (pv 0) yae)))))))),?_⟩
 obtain ⟨xs,ex,hx⟩:=hR.tups
 have lx:=hx.1
 refine⟨_,rfl,a,xs,rfl,.inl (SqL.of ex),(xs.length:Int),rfl,fun g hg=>?_⟩
 refine⟨g,xs.length,rfl,yaa,by omega,fun l hl=>?_⟩
 have sg:=yac (H:=H) hg (.rng 0 (xs.length:Int))
 have sl:=yac hl (.lst ((ya9 xs.length).map V.int))
 have s1:=sg.trans sl
 refine⟨l,ya9 xs.length,keyD rs,3,rfl,yaa,by rw[ybt];omega,s1 _ _ (hT _ ht),by decide,fun n hn=>rfl,fun n hn H2 h2=>?_,fun D ms H' hD hp ho s2 e2=>?_⟩
 ·obtain ⟨n0,n1⟩:=uptoN_mem.mp hn
  obtain ⟨k,rfl⟩ : ∃k:Nat,n=(k:Int):=⟨n.toNat,by omega⟩
  have hk:k<xs.length:=by omega
  obtain ⟨p,r,ep,er,hp⟩:=hx.at (List.getElem?_eq_getElem hk)
  have eix:atI xs (k:Int)=some (.ref p):=ydy (by rw[List.getElem?_eq_getElem hk,ep])
  obtain ⟨d,cc,u,rfl⟩:=ync (hok r (List.mem_of_getElem? er))
  have ex2:H2 a=some (.lst xs):=h2 _ _ (s1 _ _ ex) (by intro z;cases z) (by intro z;cases z)
  have hp2:H2 p=some (.tup ([d,cc,u].map V.int)):=h2 _ _ (s1 _ _ hp) (by intro z;cases z) (by intro z;cases z)
  refine⟨_,rfl,_,rfl,a,xs,_,.ref p,rfl,rfl,SqL.of ex2,eix,p,_,_,.int u,rfl,rfl,SqT.of hp2,rfl,u,rfl,_,rfl,_,rfl,a,xs,_,.ref p,rfl,rfl,SqL.of ex2,eix,p,_,_,.int d,rfl,rfl,SqT.of hp2,rfl,_,rfl,by show 3≤sizeLine;decide,fun t ht=>⟨t,rfl,yac ht _,?_⟩⟩
  have e2:keyD rs ((k:Nat):Int)=[-u,d,(k:Int)]:=by
   unfold keyD yad
   rw[yej er];rfl
  rw[e2]
  exact yaa
 ·rw[lx] at hp
  exact q D ms H' (s1.free hD) (s1.trans s2) ⟨hp,ho⟩ e2
theorem yw0 (G_eldestL:Cal P w K mg base CX0 1 "_law_eldest" yfk (yjl tb ypu okE)) (F:Fun K "_law_deal" "_law_deal" yjv f fd):FnOk P w K mg base CX0 2 f fd ymq (ynu tb):=by
 refine F.ok sc_deal (fun vs H Q E h=>?_) (fun cdv A outer s H vs Q E hr h=>?_)
 ·obtain ⟨a,b,t,tm,rs,os,ts,rfl,_⟩:=h;rfl
 obtain ⟨a,b,t,tm,rs,os,ts,rfl,hTb,hR,h3,rn,hO,h2,on,hT,hl,q⟩:=h
 refine⟨_,(yaf (yat (i:=4) sc_deal.nd rfl (Or.inl rfl) (ycg yei rfl B.list PyProof.Rows.boot_list (yam (pv 3) yae)))
  (yaf (yat (i:=5) sc_deal.nd rfl (Or.inl rfl) (yd5 yae))
  (yaf (yat (i:=6) sc_deal.nd rfl (Or.inl rfl) (yar G_eldestL hr rfl ybe (yam (pv 0) yae)))
  (yaf (yd0 PassesOwn.never rfl (ya8 (yar G_eldestL hr rfl ybe (yam (pv 1) yae))) (yai (i:=7) sc_deal.nd rfl (Or.inl rfl)) (yaf (yc7 (ya3 ya0 (pv 1) (pv 7) (fun _ _=>rfl)) (ybl rfl (yah (yai (i:=8) sc_deal.nd rfl (Or.inl rfl)) (yah (yai (i:=9) sc_deal.nd rfl (Or.inl rfl)) ya4))))
   (yak (yd0 PassesOwn.never rfl (ya8 (pv 6)) (yai (i:=10) sc_deal.nd rfl (Or.inl rfl)) (yaf (yat (i:=11) sc_deal.nd rfl (Or.inl rfl) (yao (yqy rfl) rfl B.min PyProof.Rows.boot_min (yam (pv 9) (yam (ya3 ya0 (pv 4) (pv 10) (fun _ _=>rfl)) yae))))
    (yak (yeg (PW.pt (yk5 (ya5 yvs (pv 11) yag (yba _)) (yk5 (ya5 yeh (ybb yg9 (pv 8) (pv 2)) (ya3 ybg (ya3 ya0 (pv 0) (pv 10) (fun _ _=>rfl)) yag (fun _ _=>rfl)) (yba _)) (yj1 (ya5 yeh (ya3 ybg (ya3 ya0 (pv 0) (pv 10) (fun _ _=>rfl)) yag (fun _ _=>rfl)) (pv 8) (yba _)))))) (yaf (yb6 (ym3 PySem.F.plainAttrs_list PySem.F.slot_list_append PySem.F.type_list_append yc0 (pv 5) (yam (ybf (yam (pv 10) (yam (pv 7) (yam (pv 11) yae)))) yae)))
     (yaf (yc7 (ybb yg9 (ya3 ya0 (pv 4) (pv 10) (fun _ _=>rfl)) (pv 11)) (yfu (pv 4) (pv 10) ydr))
     (yak (yat (i:=9) sc_deal.nd rfl (Or.inl rfl) (ybb yg9 (pv 9) (pv 11)))))) ybr)))))))
  (yak (ya2 (ybf (yam (pv 5) (yam (yao (yen rfl) rfl B.sum PyProof.Rows.boot_sum (yam (pv 4) yae)) yae))))))))),?_⟩
 refine⟨_,rfl,t,_,rfl,.inl (SqL.of hT),fun lf hlf=>?_⟩
 have s1:=yac (H:=H) hlf (.lst (ts.map V.int))
 have I1:ybd (L2.upd H lf (.lst (ts.map V.int))) lf ts:=yaa
 generalize L2.upd H lf (.lst (ts.map V.int))=H1 at *
 refine⟨by show 0≤sizeLine;decide,fun tl htl=>?_⟩
 have s2:=yac (H:=H1) htl (.lst [])
 have I2:ybd (L2.upd H1 tl (.lst [])) lf ts:=s2 _ _ I1
 have R2:Rows (L2.upd H1 tl (.lst [])) tl []:=Rows.nil yaa
 have htl0:H tl=none:=s1.free htl
 have nlt:lf≠tl:=yaj I1 htl
 generalize L2.upd H1 tl (.lst [])=H2 at *
 have s12:=s1.trans s2
 refine⟨_,rfl,a,rs,rfl,hTb.same s12,hR.same s12,by omega,fun r hr=>by unfold okE;rw[h3 r hr];decide,fun ag ages H3 hag s3 hages e3=>?_⟩
 have s13:=s12.trans s3
 have I3:ybd H3 lf ts:=s3 _ _ I2
 have R3:=R2.same s3
 have nla:lf≠ag:=yaj I2 hag
 have nta:tl≠ag:=by obtain ⟨z,ez,_⟩:=R2.get;exact yaj ez hag
 have lag:ages.length=rs.length:=by rw[hages.1.length_eq,ybt]
 refine⟨_,rfl,b,os,rfl,hTb.same s13,hO.same s13,by omega,fun r hr=>by unfold okE;rw[h2 r hr];decide,fun ol outs H4 hol s4 houts e4=>?_⟩
 have lou:outs.length=os.length:=by rw[houts.1.length_eq,ybt]
 have nlo:lf≠ol:=yaj I3 hol
 have nto:tl≠ol:=by obtain ⟨z,ez,_⟩:=R3.get;exact yaj ez hol
 have s14:=s13.trans s4
 refine⟨ol,rfl,⟨_,SqL.of e4⟩,?_⟩
 refine ydp (xs:=outs.map V.int) (fun i σ H5=>∃o7 o8 o9 o10 o11,σ=[some (.ref a),some (.ref b),some (.int tm),some (.ref t),some (.ref lf),some (.ref tl),some (.ref ag),o7,o8,o9,o10,o11]∧Same H H5∧H5 ol=some (.lst (outs.map V.int))∧H5 ag=some (.lst (ages.map V.int))∧ybd H5 lf ((outs.take i).foldl (ymv rs os tm ages) (ts,[])).1∧Rows H5 tl ((outs.take i).foldl (ymv rs os tm ages) (ts,[])).2) ⟨_,_,_,_,_,rfl,s14,e4,s4 _ _ e3,s4 _ _ I3,R3.same s4⟩ ?_ ?_ ?_
 ·rintro i σ H5 hi ⟨o7,o8,o9,o10,o11,rfl,sm,e5,_⟩
  exact SqL.of e5
 ·rintro i x σ H5 exi ⟨o7,o8,o9,o10,o11,rfl,sm,e5,a5,I5,R5⟩
  obtain ⟨j',rfl,ej⟩:=ydz exi
  have hj:=uptoN_mem.mp (houts.1.mem_iff.mp (List.mem_of_getElem? ej))
  obtain ⟨j,rfl⟩ : ∃k:Nat,j'=(k:Int):=⟨j'.toNat,by omega⟩
  obtain ⟨xs,ex,hx⟩:=hR.tups
  obtain ⟨ys,ey,hy⟩:=hO.tups
  have lx:=hx.1
  have ly:=hy.1
  have hjy:j<ys.length:=by omega
  obtain ⟨po,r,ep,er,hpo⟩:=hy.at (List.getElem?_eq_getElem hjy)
  obtain ⟨dd,cc,rfl⟩:=ytv (h2 r (List.mem_of_getElem? er))
  have c0:yad os 0 (j:Int)=dd:=by unfold yad;rw[yej er];rfl
  have c1:yad os 1 (j:Int)=cc:=by unfold yad;rw[yej er];rfl
  have eix:atI ys (j:Int)=some (.ref po):=ydy (by rw[List.getElem?_eq_getElem hjy,ep])
  refine⟨_,rfl,_,rfl,b,ys,_,.ref po,rfl,rfl,SqL.of (sm _ _ ey),eix,po,_,rfl,SqT.of (sm _ _ hpo),rfl,_,_,rfl,_,_,rfl,rfl,?_⟩
  have fold:(outs.take (i+1)).foldl (ymv rs os tm ages) (ts,[])=(ages.foldl (ycm rs tm dd (j:Int)) (cc,((outs.take i).foldl (ymv rs os tm ages) (ts,[])).1,((outs.take i).foldl (ymv rs os tm ages) (ts,[])).2)).2:=by
   rw[yaz ej,List.foldl_append]
   show ymv rs os tm ages _ (j:Int)=_
   unfold ymv
   rw[c0,c1]
  rw[fold]
  have len:=yio (rs:=rs) (os:=os) (tm:=tm) (ages:=ages) (outs.take i) (ts,[])
  have ytv:=yjq (rs:=rs) (os:=os) (tm:=tm) (ages:=ages) (outs.take i) (ts,[])
  have li:(outs.take i).length≤30:=by rw[List.length_take];have:=(List.getElem?_eq_some_iff.mp ej).1;omega
  generalize ((outs.take i).foldl (ymv rs os tm ages) (ts,[])).1=left at *
  generalize ((outs.take i).foldl (ymv rs os tm ages) (ts,[])).2=told at *
  have tlen:told.length≤930:=by
   have h9:(outs.take i).length*ages.length≤30*31:=Nat.mul_le_mul li (by omega)
   have h0:([]:List (List Int)).length=0:=rfl
   dsimp only at ytv
   omega
  have llen:left.length=rs.length:=len.trans hl
  clear fold len ytv
  refine⟨_,rfl,ag,rfl,⟨_,SqL.of a5⟩,?_⟩
  refine ydp (xs:=ages.map V.int) (fun k σ H7=>∃o10 o11,σ=[some (.ref a),some (.ref b),some (.int tm),some (.ref t),some (.ref lf),some (.ref tl),some (.ref ag),some (.int (j:Int)),some (.int dd),some (.int ((ages.take k).foldl (ycm rs tm dd (j:Int)) (cc,left,told)).1),o10,o11]∧Same H H7∧H7 ol=some (.lst (outs.map V.int))∧H7 ag=some (.lst (ages.map V.int))∧ybd H7 lf ((ages.take k).foldl (ycm rs tm dd (j:Int)) (cc,left,told)).2.1∧Rows H7 tl ((ages.take k).foldl (ycm rs tm dd (j:Int)) (cc,left,told)).2.2) ⟨_,_,rfl,sm,e5,a5,I5,R5⟩ ?_ ?_ ?_
  ·rintro k σ H7 hk ⟨o10,o11,rfl,s7,_,a7,_⟩
   exact SqL.of a7
  ·rintro k x σ H7 exk ⟨o10,o11,rfl,s7,e7,a7,I7,R7⟩
   obtain ⟨v',rfl,ev⟩:=ydz exk
   have hv:=uptoN_mem.mp (hages.1.mem_iff.mp (List.mem_of_getElem? ev))
   obtain ⟨v,rfl⟩ : ∃k:Nat,v'=(k:Int):=⟨v'.toNat,by omega⟩
   have fl:=ygk (rs:=rs) (tm:=tm) (e:=dd) (j:=(j:Int)) (ages.take k) (cc,left,told)
   have ft:=yg4 (rs:=rs) (tm:=tm) (e:=dd) (j:=(j:Int)) (ages.take k) (cc,left,told)
   have kl:k<ages.length:=(List.getElem?_eq_some_iff.mp ev).1
   have tk:(ages.take k).length=k:=by rw[List.length_take];omega
   have next:(ages.take (k+1)).foldl (ycm rs tm dd (j:Int)) (cc,left,told)=ycm rs tm dd (j:Int) ((ages.take k).foldl (ycm rs tm dd (j:Int)) (cc,left,told)) (v:Int):=by
    rw[yaz ev,List.foldl_append];rfl
   rw[next]
   generalize (ages.take k).foldl (ycm rs tm dd (j:Int)) (cc,left,told)=st at *
   obtain ⟨wt,lft,tld⟩:=st
   dsimp only at fl ft I7 R7 ⊢
   have hvx:v<xs.length:=by omega
   obtain ⟨pl,rl,epl,erl,hpl⟩:=hx.at (List.getElem?_eq_getElem hvx)
   obtain ⟨ld,lc,lu,rfl⟩:=ync (h3 rl (List.mem_of_getElem? erl))
   have l0:yad rs 0 (v:Int)=ld:=by unfold yad;rw[yej erl];rfl
   have eil:atI xs (v:Int)=some (.ref pl):=ydy (by rw[List.getElem?_eq_getElem hvx,epl])
   have hvl:v<lft.length:=by omega
   have eiv:atI (lft.map V.int) (v:Int)=some (.int lft[v]):=yor rfl hvl
   have gv:lft.getD (v:Int).toNat 0=lft[v]:=by rw[Int.toNat_natCast,List.getD_eq_getElem?_getD,List.getElem?_eq_getElem hvl];rfl
   refine⟨_,rfl,_,rfl,_,rfl,lf,_,_,.int lft[v],rfl,rfl,SqL.of I7,eiv,_,_,rfl,?_⟩
   have em:(if lft[v]<wt then lft[v] else wt)=min wt lft[v]:=by
    split <;> omega
   rw[em]
   have hstep:ycm rs tm dd (j:Int) (wt,lft,tld) (v:Int)=if 0<min wt lft[v]∧dd-tm≤ld∧ld≤dd then (wt-min wt lft[v],lft.set v (lft[v]-min wt lft[v]),tld++[[(v:Int),(j:Int),min wt lft[v]]]) else (wt,lft,tld):=by
    unfold ycm
    dsimp only
    rw[gv,l0,Int.toNat_natCast]
   rw[hstep]
   generalize hm:min wt lft[v]=m
   refine⟨_,rfl,_,_,rfl,rfl,_,rfl,?_⟩
   by_cases c:0<m
   ·rw[decide_eq_true c]
    refine yem ⟨_,rfl,_,rfl,_,_,rfl,rfl,_,rfl,_,rfl,a,xs,_,.ref pl,rfl,rfl,SqL.of (s7 _ _ ex),eil,pl,_,_,.int ld,rfl,rfl,SqT.of (s7 _ _ hpl),rfl,_,_,rfl,rfl,_,rfl,?_⟩
    by_cases d1:dd-tm≤ld
    ·rw[decide_eq_true d1]
     refine yem ⟨_,rfl,_,rfl,a,xs,_,.ref pl,rfl,rfl,SqL.of (s7 _ _ ex),eil,pl,_,_,.int ld,rfl,rfl,SqT.of (s7 _ _ hpl),rfl,_,rfl,_,_,rfl,rfl,_,rfl,?_⟩
     by_cases d2:ld≤dd
     ·rw[decide_eq_true d2,if_pos ⟨c,d1,d2⟩]
      refine yem ?_
      obtain ⟨zs,ez,ezl,_⟩:=R7.get
      refine⟨_,rfl,.inl ⟨rfl,_,SqL.of ez⟩,?_⟩
      refine⟨_,rfl,_,rfl,_,rfl,by show 3≤sizeLine;decide,fun tp htp=>?_⟩
      refine⟨tl,zs,.ref tp,rfl,rfl,by rw[yal (yaj ez htp)];exact ez,yaq (by omega),?_⟩
      have sT:=yac (H:=H7) htp (.tup [.int (v:Int),.int (j:Int),.int m])
      have R8:Rows (L2.upd (L2.upd H7 tp (.tup [.int (v:Int),.int (j:Int),.int m])) tl (.lst (zs++[.ref tp]))) tl (tld++[[(v:Int),(j:Int),m]]):=R7.push (r:=[(v:Int),(j:Int),m]) ez htp
      have s8:Same H (L2.upd (L2.upd H7 tp (.tup [.int (v:Int),.int (j:Int),.int m])) tl (.lst (zs++[.ref tp]))):=(s7.trans sT).young htl0
      have I8:ybd (L2.upd (L2.upd H7 tp (.tup [.int (v:Int),.int (j:Int),.int m])) tl (.lst (zs++[.ref tp]))) lf lft:=by unfold ybd;rw[yal nlt];exact sT _ _ I7
      have e8:L2.upd (L2.upd H7 tp (.tup [.int (v:Int),.int (j:Int),.int m])) tl (.lst (zs++[.ref tp])) ol=some (.lst (outs.map V.int)):=by rw[yal nto.symm];exact sT _ _ e7
      have a8:L2.upd (L2.upd H7 tp (.tup [.int (v:Int),.int (j:Int),.int m])) tl (.lst (zs++[.ref tp])) ag=some (.lst (ages.map V.int)):=by rw[yal nta.symm];exact sT _ _ a7
      generalize L2.upd (L2.upd H7 tp (.tup [.int (v:Int),.int (j:Int),.int m])) tl (.lst (zs++[.ref tp]))=H8 at *
      refine⟨_,rfl,_,rfl,lf,_,_,.int lft[v],rfl,rfl,SqL.of I8,eiv,_,rfl,_,_,rfl,rfl,?_⟩
      refine⟨_,rfl,_,rfl,lf,_,(v:Int),v,rfl,rfl,I8,by unfold ixN;rw[List.length_map,if_pos (by omega),Int.toNat_natCast,if_pos (by omega)],?_⟩
      refine⟨_,rfl,_,rfl,_,_,rfl,rfl,?_⟩
      obtain ⟨ws,ew,hw⟩:=R8.tups
      refine⟨_,_,rfl,s8.young hlf,?_,?_,?_,?_⟩
      ·rw[yal nlo.symm];exact e8
      ·rw[yal nla.symm];exact a8
      ·unfold ybd
       rw[yaa,List.map_set]
      ·refine Tups.rows (xs:=ws) (hw.but I8 fun b o hb e=>by rw[yal hb];exact e) ?_
       rw[yal nlt.symm];exact ew
     ·rw[decide_eq_false d2,if_neg (fun z=>d2 z.2.2)]
      exact ycd ⟨_,_,rfl,s7,e7,a7,I7,R7⟩
    ·rw[decide_eq_false d1,if_neg (fun z=>d1 z.2.1)]
     exact ycd (ycd ⟨_,_,rfl,s7,e7,a7,I7,R7⟩)
   ·rw[decide_eq_false c,if_neg (fun z=>c z.1)]
    exact ycd (ycd ⟨_,_,rfl,s7,e7,a7,I7,R7⟩)
  ·rintro σ H7 ⟨o10,o11,rfl,s7,e7,a7,I7,R7⟩
   rw[List.length_map,List.take_length] at I7 R7
   exact⟨_,_,_,_,_,rfl,s7,e7,a7,I7,R7⟩
 ·rintro σ H5 ⟨o7,o8,o9,o10,o11,rfl,sm,e5,a5,I5,R5⟩
  rw[List.length_map,List.take_length] at I5 R5
  refine⟨_,rfl,_,rfl,lf,_,rfl,SqL.of I5,by show 2≤sizeLine;decide,fun qq hqq=>?_⟩
  exact q qq tl ages outs _ (sm.free hqq) htl0 hages houts (sm.trans (yac hqq _)) (R5.same (yac hqq _)) yaa
theorem yw1 (G_deal:Cal P w K mg base CX0 2 "_law_deal" ymq (ynu tb)) (F:Fun K "_law_most" "_law_most" yjw f fd):FnOk P w K mg base CX0 3 f fd ymr (ynv tb):=by
 refine F.ok sc_most (fun vs H Q E h=>?_) (fun cdv A outer s H vs Q E hr h=>?_)
 ·obtain ⟨a,b,t,tm,rs,os,ts,k,rfl,_⟩:=h;rfl
 obtain ⟨a,b,t,tm,rs,os,ts,k,rfl,hTb,hR,hO,ok,hT,hl,hk,hts,hkc,nl,q⟩:=h
 refine⟨_,(yaf (yat (i:=5) sc_most.nd rfl (Or.inl rfl) yag)
  (yaf (yat (i:=6) sc_most.nd rfl (Or.inl rfl) (ybb yg9 (ya3 ybg (ya3 ya0 (pv 0) (pv 4) (fun _ _=>rfl)) yag (fun _ _=>rfl)) (ya3 ya0 (pv 3) (pv 4) (fun _ _=>rfl))))
  (yaf (ytc PassesOwn.never (ya5 yqx (pv 5) (pv 6) (yba _)) (yaf (yat (i:=7) sc_most.nd rfl (Or.inl rfl) (ybb yj5 (ybb yb3 (ybb yb3 (pv 5) (pv 6)) yag) yag))
   (yaf (yat (i:=8) sc_most.nd rfl (Or.inl rfl) (ybb yi9 (ybb yi9 (ye3 ygt (pv 3) yfz (yf0 (pv 4))) (yd5 (yam (ybb yb3 (ya3 ya0 (pv 3) (pv 4) (fun _ _=>rfl)) (pv 7)) yae))) (ye3 ygt (pv 3) (yf0 (ybb yb3 (pv 4) yag)) yfz)))
   (yak (yeg (ya5 ym2 (ya3 ybg (yar G_deal hr rfl ybe (yam (pv 0) (yam (pv 1) (yam (pv 2) (yam (pv 8) yae))))) yag (fun _ _=>rfl)) yag (yba _)) (yak (yat (i:=5) sc_most.nd rfl (Or.inl rfl) (pv 7))) (yak (yat (i:=6) sc_most.nd rfl (Or.inl rfl) (ybb yg9 (pv 7) yag))))))))
  (yak (ya2 (pv 5)))))),?_⟩
 obtain ⟨xs,ex,hx⟩:=hR.tups
 have lx:=hx.1
 have hkx:k<xs.length:=by omega
 have hkt:k<ts.length:=by omega
 obtain ⟨pl,rl,epl,erl,hpl⟩:=hx.at (List.getElem?_eq_getElem hkx)
 obtain ⟨ld,lc,lu,rfl⟩:=ync (ok.h3 rl (List.mem_of_getElem? erl))
 have l1:yad rs 1 (k:Int)=lc:=by unfold yad;rw[yej erl];rfl
 have gk:ts.getD k 0=ts[k]:=by rw[List.getD_eq_getElem?_getD,List.getElem?_eq_getElem hkt];rfl
 have eil:atI xs (k:Int)=some (.ref pl):=ydy (by rw[List.getElem?_eq_getElem hkx,epl])
 have eik:atI (ts.map V.int) (k:Int)=some (.int ts[k]):=yor rfl hkt
 rw[l1,gk] at hkc
 refine⟨_,rfl,_,rfl,a,xs,_,.ref pl,rfl,rfl,SqL.of ex,eil,pl,_,_,.int lc,rfl,rfl,SqT.of hpl,rfl,_,rfl,_,rfl,t,_,_,.int ts[k],rfl,rfl,SqL.of hT,eik,_,_,rfl,rfl,?_⟩
 have z0:ts.set k (ts.getD k 0+0)=ts:=by
  rw[Int.add_zero,gk];exact List.set_getElem_self hkt
 dsimp only
 refine ygw (fun σ H'=>∃M o6 o7 o8,σ=[some (.ref a),some (.ref b),some (.int tm),some (.ref t),some (.int (k:Int)),some (.int M),o6,o7,o8]∧Same H H'∧ywu rs os tm ts (k:Int) M) (fun D' hD' _=>?_) ?_
 ·refine yte (fun σ H'=>∃lo hi o7 o8,σ=[some (.ref a),some (.ref b),some (.int tm),some (.ref t),some (.int (k:Int)),some (.int lo),some (.int hi),o7,o8]∧Same H H'∧0≤lo∧lo≤hi∧hi≤lc-ts[k]∧NoLack rs os tm (ts.set k (ts.getD k 0+lo))∧∀m,hi<m→m≤lc-ts[k]→¬ NoLack rs os tm (ts.set k (ts.getD k 0+m)))
   (fun σ _=>yzj σ) ⟨0,lc-ts[k],_,_,rfl,Same.refl H,Int.le_refl _,by omega,Int.le_refl _,by rw[z0];exact nl,fun m h1 h2=>by omega⟩ ?_ ?_
  ·rintro σ H1 ⟨lo,hi,o7,o8,rfl,sm,lo0,lh,hh,okl,noh⟩
   refine⟨_,rfl,_,rfl,_,_,rfl,rfl,_,rfl,?_⟩
   by_cases c:lo<hi
   ·rw[decide_eq_true c]
    refine yem ?_
    have md:(lo+hi+1) / 2≤hi∧lo<(lo+hi+1) / 2:=by omega
    refine⟨_,rfl,_,rfl,_,_,rfl,rfl,_,_,rfl,rfl,_,_,rfl,rfl,⟨by decide,by decide⟩,?_⟩
    refine⟨_,rfl,_,rfl,_,rfl,t,_,rfl,SqL.of (sm _ _ hT),fun p1 hp1=>?_⟩
    rw[(yxy ts (show (0:Int)≤(k:Int) by omega) (by omega)).1]
    have s1:=yac (H:=H1) hp1 (.lst ((ts.take (k:Int).toNat).map V.int))
    refine⟨_,rfl,_,rfl,t,_,_,.int ts[k],rfl,rfl,SqL.of (s1 _ _ (sm _ _ hT)),eik,_,rfl,_,_,rfl,rfl,by show 1≤sizeLine;decide,fun p2 hp2=>?_⟩
    have s2:=yac hp2 (.lst [V.int (ts[k]+((lo+hi+1) / 2))])
    refine⟨p1,p2,_,_,rfl,rfl,s2 _ _ yaa,yaa,?_,fun p3 hp3=>?_⟩
    ·rw[List.length_map,List.length_take]
     refine Nat.le_of_lt (yaq ?_)
     show min _ _+1≤1000
     have:=ok.rn
     omega
    have s3:=yac hp3 (.lst ((ts.take (k:Int).toNat).map V.int++[V.int (ts[k]+((lo+hi+1) / 2))]))
    refine⟨_,rfl,_,rfl,_,_,rfl,rfl,_,rfl,t,_,rfl,SqL.of (s3 _ _ (s2 _ _ (s1 _ _ (sm _ _ hT)))),fun p4 hp4=>?_⟩
    rw[(ytx ts (show (1:Int)≤(k:Int)+1 by omega) (by omega)).1]
    have s4:=yac hp4 (.lst ((ts.drop ((k:Int)+1).toNat).map V.int))
    have ecat:(ts.take (k:Int).toNat).map V.int++[V.int (ts[k]+((lo+hi+1) / 2))]++(ts.drop ((k:Int)+1).toNat).map V.int=(ts.set k (ts.getD k 0+((lo+hi+1) / 2))).map V.int:=by
     rw[← yww ts (ts.getD k 0+((lo+hi+1) / 2)) hkt,Int.toNat_natCast,show ((k:Int)+1).toNat=k+1 by omega,List.map_append,List.map_append,gk];rfl
    have ltr:(ts.set k (ts.getD k 0+((lo+hi+1) / 2))).length=rs.length:=by rw[List.length_set];exact hl
    have rn:=ok.rn
    refine⟨p3,p4,_,_,rfl,rfl,s4 _ _ yaa,yaa,?_,fun p5 hp5=>?_⟩
    ·rw[← List.length_append,ecat,List.length_map,ltr]
     exact Nat.le_of_lt (yaq (by omega))
    rw[ecat]
    have s5:=yac hp5 (.lst ((ts.set k (ts.getD k 0+((lo+hi+1) / 2))).map V.int))
    have sm5:=sm.trans (s1.trans (s2.trans (s3.trans (s4.trans s5))))
    have hnn:∀u∈ts.set k (ts.getD k 0+((lo+hi+1) / 2)),0≤u:=fun u hu=>by
     rcases List.mem_or_eq_of_mem_set hu with z|z
     ·exact hts u z
     ·have:=hts _ (List.getElem_mem hkt)
      rw[z,gk];omega
    have I5:ybd (L2.upd (L2.upd (L2.upd (L2.upd (L2.upd H1 p1 (.lst ((ts.take (k:Int).toNat).map V.int))) p2 (.lst [V.int (ts[k]+((lo+hi+1) / 2))])) p3 (.lst ((ts.take (k:Int).toNat).map V.int++[V.int (ts[k]+((lo+hi+1) / 2))]))) p4 (.lst ((ts.drop ((k:Int)+1).toNat).map V.int))) p5 (.lst ((ts.set k (ts.getD k 0+((lo+hi+1) / 2))).map V.int))) p5 (ts.set k (ts.getD k 0+((lo+hi+1) / 2))):=yaa
    generalize L2.upd (L2.upd (L2.upd (L2.upd (L2.upd H1 p1 (.lst ((ts.take (k:Int).toNat).map V.int))) p2 (.lst [V.int (ts[k]+((lo+hi+1) / 2))])) p3 (.lst ((ts.take (k:Int).toNat).map V.int++[V.int (ts[k]+((lo+hi+1) / 2))]))) p4 (.lst ((ts.drop ((k:Int)+1).toNat).map V.int))) p5 (.lst ((ts.set k (ts.getD k 0+((lo+hi+1) / 2))).map V.int))=H5 at *
    refine⟨_,rfl,_,rfl,_,rfl,_,rfl,a,b,p5,tm,rs,os,_,rfl,hTb.same sm5,hR.same sm5,ok.h3,ok.rn,hO.same sm5,ok.h2,ok.on,I5,ltr,fun qq l ages outs H6 hqq hl6 ha hb s6 R6 e6=>?_⟩
    obtain ⟨_,ls⟩:=yup ok.t0 ha hb ok.o0 ltr hnn
    refine⟨qq,_,_,.int _,rfl,rfl,SqT.of e6,rfl,rfl,_,rfl,?_⟩
    generalize (yi5 rs os tm ages outs (ts.set k (ts.getD k 0+((lo+hi+1) / 2)))).1.sum=sm0 at ls ⊢
    by_cases c0:sm0=0
    ·rw[decide_eq_true (show V.int sm0=V.int 0 by rw[c0])]
     refine yem ⟨_,rfl,⟨((lo+hi+1) / 2),hi,_,_,rfl,sm5.trans s6,by omega,md.1,hh,ls.mp c0,noh⟩,?_⟩
     show (hi-((lo+hi+1) / 2)).toNat<(hi-lo).toNat
     omega
    ·rw[decide_eq_false (show ¬ V.int sm0=V.int 0 from fun z=>c0 (V.int.inj z))]
     refine ycd ⟨_,rfl,_,_,rfl,rfl,⟨lo,((lo+hi+1) / 2)-1,_,_,rfl,sm5.trans s6,lo0,by omega,by omega,okl,fun m h1 h2=>?_⟩,?_⟩
     ·intro z
      by_cases hm:hi<m
      ·exact noh m hm h2 z
      ·refine c0 (ls.mpr ?_)
       obtain ⟨ds,hds⟩:=yex rs
       rw[yku hds hkt hl nl] at z ⊢
       intro p hp a1 b1
       have:=z p hp a1 b1
       omega
     ·show (((lo+hi+1) / 2)-1-lo).toNat<(hi-lo).toNat
      omega
   ·rw[decide_eq_false c]
    refine ycd (hD' _ _ ⟨lo,_,_,_,rfl,sm,?_⟩)
    have e:lo=hi:=by omega
    subst e
    refine ywv hkt hl nl (by rw[l1,gk];exact hh) okl fun z=>?_
    rw[l1,gk] at z
    exact noh (lo+1) (by omega) (by omega)
  ·rintro σ H1 Q1 Q2 hm ⟨v1,e1,v2,e2,i1,i2,r1,r2,b,r3,q1⟩
   exact⟨v1,e1,v2,e2,i1,i2,r1,r2,b,r3,hm _ _ q1⟩
 ·rintro σ H1 ⟨M,o6,o7,o8,rfl,sm,hM⟩
  exact⟨_,rfl,q M H1 hM sm⟩
theorem yur (G_dearestL:Cal P w K mg base CX0 1 "_law_dearest" ye0 (yjl tb keyD okD)) (G_most:Cal P w K mg base CX0 3 "_law_most" ymr (ynv tb)) (F:Fun K "_law_best" "_law_best" yg5 f fd):FnOk P w K mg base CX0 4 f fd yiq (ynw tb):=by
 refine F.ok sc_bestL (fun vs H Q E h=>?_) (fun cdv A outer s H vs Q E hr h=>?_)
 ·obtain ⟨a,b,tm,rs,os,rfl,_⟩:=h;rfl
 obtain ⟨a,b,tm,rs,os,rfl,hTb,hR,hO,ok,q⟩:=h
 refine⟨_,(yaf (yat (i:=3) sc_bestL.nd rfl (Or.inl rfl) (ybb yu8 (yd5 (yam yag yae)) (yao ybm rfl B.len PySem.boot_len (yam (pv 0) yae))))
  (yaf (yd0 PassesOwn.never rfl (ya8 (yar G_dearestL hr rfl ybe (yam (pv 0) yae))) (yai (i:=4) sc_bestL.nd rfl (Or.inl rfl)) (yak (yc7 (yar G_most hr rfl ybe (yam (pv 0) (yam (pv 1) (yam (pv 2) (yam (pv 3) (yam (pv 4) yae)))))) (yfu (pv 3) (pv 4) ydr))))
  (yak (ya2 (pv 3))))),?_⟩
 obtain ⟨xs,ex,ht⟩:=hR.tups
 have lx:=ht.1
 have rn:=ok.rn
 refine⟨by show 1≤sizeLine;decide,fun z hz=>?_⟩
 have sz:=yac (H:=H) hz (.lst [.int 0])
 refine⟨_,rfl,a,xs,rfl,.inl (SqL.of (sz _ _ ex)),z,(xs.length:Int),_,rfl,rfl,yaa,by omega,by omega,?_,fun l hl=>?_⟩
 ·show 1*(xs.length:Int).toNat≤sizeLine
  exact Nat.le_of_lt (yaq (by omega))
 have s1:=sz.trans (yac hl (.lst (List.replicate (xs.length:Int).toNat [V.int 0]).flatten))
 have hl0:H l=none:=sz.free hl
 have e1:ybd (L2.upd (L2.upd H z (.lst [.int 0])) l (.lst (List.replicate (xs.length:Int).toNat [V.int 0]).flatten)) l (List.replicate rs.length 0):=by
  unfold ybd
  rw[yaa,List.map_replicate,Int.toNat_natCast,lx]
  congr 2
  induction rs.length with
  |zero=>rfl
  |succ k ih=>rw[List.replicate_succ,List.flatten_cons,ih];rfl
 generalize L2.upd (L2.upd H z (.lst [.int 0])) l (.lst (List.replicate (xs.length:Int).toNat [V.int 0]).flatten)=H1 at s1 e1 ⊢
 obtain ⟨ds,hds⟩:=yex rs
 refine⟨_,rfl,a,rs,rfl,hTb.same s1,hR.same s1,by omega,ok.h3,fun dl ord H3 hdl s3 hord e3=>?_⟩
 refine⟨dl,rfl,⟨_,SqL.of e3⟩,?_⟩
 have nl:l≠dl:=yaj e1 hdl
 have nd:ord.Nodup:=(hord.1.nodup_iff).mpr (yfs _)
 refine ydp (xs:=ord.map V.int) (fun i σ H4=>∃o4,σ=[some (.ref a),some (.ref b),some (.int tm),some (.ref l),o4]∧Same H H4∧H4 dl=some (.lst (ord.map V.int))∧ybd H4 l (yav (yau ds) rs (ord.take i) (yan os tm) (List.replicate rs.length 0)).2) ⟨_,rfl,s1.trans s3,e3,s3 _ _ e1⟩ ?_ ?_ ?_
 ·rintro i σ H4 hi ⟨o4,rfl,sm,e4,_⟩
  exact SqL.of e4
 ·rintro i x σ H4 exi ⟨o4,rfl,sm,e4,I4⟩
  obtain ⟨at',rfl,eat⟩:=ydz exi
  have hat:=uptoN_mem.mp (hord.1.mem_iff.mp (List.mem_of_getElem? eat))
  obtain ⟨k,rfl⟩ : ∃k:Nat,at'=(k:Int):=⟨at'.toNat,by omega⟩
  have pre:∀j∈ord.take i,0≤j∧j.toNat<rs.length:=fun j hj=>by
   have:=uptoN_mem.mp (hord.1.mem_iff.mp (List.mem_of_mem_take hj))
   exact⟨this.1,by omega⟩
  have ndi:(ord.take i).Nodup:=nd.sublist (List.take_sublist _ _)
  have kno:∀j∈ord.take i,j.toNat≠k:=fun j hj z=>by
   have h1:=(pre j hj).1
   have ej:j=(k:Int):=by omega
   rw[ej] at hj
   obtain ⟨m,hm,em⟩:=List.getElem_of_mem hj
   rw[List.length_take] at hm
   rw[List.getElem_take] at em
   have hi':=(List.getElem?_eq_some_iff.mp eat)
   have:=(List.getElem_inj nd).mp (em.trans hi'.2.symm)
   omega
  have lc:(yav (yau ds) rs (ord.take i) (yan os tm) (List.replicate rs.length 0)).2.length=rs.length:=by rw[yet,List.length_replicate]
  obtain ⟨nn,wi⟩:=yff (rs:=rs) (ks:=yau ds) (ord.take i) (yan os tm) (List.replicate rs.length 0) (fun j hj=>⟨(pre j hj).1,yfx ok.r0 j⟩) (fun p _=>ygi ok.o0 _ _ _) (fun j u e=>by
   have:=List.mem_of_getElem? e
   rw[(List.mem_replicate.mp this).2]
   exact⟨Int.le_refl _,yfx ok.r0 _⟩)
  have sl:=yfj (rs:=rs) (os:=os) (tm:=tm) (ks:=yau ds) (ord.take i) (yan os tm) (List.replicate rs.length 0) (fun f l=>slack_zero.symm) ndi (fun j hj=>⟨(pre j hj).1,by rw[List.length_replicate];exact(pre j hj).2,by
   rw[List.getD_eq_getElem?_getD,List.getElem?_replicate];split <;> rfl⟩) List.length_replicate
  have kp:=yee (ks:=yau ds) (rs:=rs) (j:=k) (ord.take i) (yan os tm) (List.replicate rs.length 0) kno
  have next:(yav (yau ds) rs (ord.take (i+1)) (yan os tm) (List.replicate rs.length 0)).2=(yav (yau ds) rs (ord.take i) (yan os tm) (List.replicate rs.length 0)).2.set k (ycf (yau ds) rs (yav (yau ds) rs (ord.take i) (yan os tm) (List.replicate rs.length 0)).1 (k:Int)):=by
   rw[yaz eat,yc4];rfl
  rw[next]
  generalize (yav (yau ds) rs (ord.take i) (yan os tm) (List.replicate rs.length 0)).1=v at *
  generalize (yav (yau ds) rs (ord.take i) (yan os tm) (List.replicate rs.length 0)).2=cs at *
  clear next
  have ev:v=ycx rs os tm cs:=funext fun f=>funext fun l=>sl f l
  have gk:cs.getD k 0=0:=by
   rw[List.getD_eq_getElem?_getD,kp,List.getElem?_replicate];split <;> rfl
  have noL:NoLack rs os tm cs:=.of hds (by rw[← ev];exact nn)
  have csn:∀u∈cs,0≤u:=fun u hu=>by
   obtain ⟨j,hj,e⟩:=List.getElem_of_mem hu
   exact(wi j u (by rw[List.getElem?_eq_getElem hj,e])).1
  refine⟨_,rfl,_,rfl,_,rfl,_,rfl,_,rfl,a,b,l,tm,rs,os,cs,k,rfl,hTb.same sm,hR.same sm,hO.same sm,ok,I4,lc,by omega,csn,by rw[gk];exact yfx ok.r0 _,noL,fun M H5 hM s5=>?_⟩
  have eM:M=ycf (yau ds) rs v (k:Int):=by
   have h1:=hM ds hds
   rw[Int.toNat_natCast,gk,Int.sub_zero,← ev] at h1
   exact h1.uniq (yfr _ _ _ _)
  rw[← eM]
  have I5:ybd H5 l cs:=s5 _ _ I4
  refine⟨_,rfl,_,rfl,l,_,(k:Int),k,rfl,rfl,I5,by unfold ixN;rw[List.length_map,if_pos (by omega),Int.toNat_natCast,if_pos (by omega)],?_⟩
  refine⟨_,rfl,(sm.trans s5).young hl0,by rw[yal nl.symm];exact s5 _ _ e4,?_⟩
  unfold ybd
  rw[yaa,List.map_set]
 ·rintro σ H4 ⟨o4,rfl,sm,e4,I4⟩
  rw[List.length_map,List.take_length] at I4
  exact⟨_,rfl,q l _ H4 hl0 ⟨ds,ord,hds,hord,rfl⟩ sm I4⟩
end
end K16
namespace HT
open PySem PySem.Spec PyProof.Rows
variable {prog:Program}{w:World}{A:Around}{E:Value→Shared→Prop}{s:Shared}
end HT
namespace L2
open PySem PySem.Spec PyProof.Rows
end L2
namespace L2
open PySem PySem.Spec PySem.W PyProof.Rows
end L2
namespace L2
open PySem
end L2
namespace L2
open PySem PySem.Spec PyProof.Rows
variable {X:Cx}
end L2
namespace L2
open PySem
def zal (ss:List (List Int)):Prop:=(∀r∈ss,r.length=2)∧ydh 0 ss=true
theorem ysz {D:Addr}{lo:Int}{n:Nat}{g:TG}{ti:TT}{te:TE}{σ₀:St}{H1:Hp}{R:Hp→Prop}(P:Nat→List V→Prop)(hD:H1 D=none)(hn:n≤1000)(h0:P 0 [])
 (step:∀i zs H,i<n→Same H1 H→P i zs→∀(K1:V→Hp→Prop) (K2:Hp→Prop),(∀z H4,Same H H4→P (i+1) (zs++[z])→K1 z H4)→(∀H3,Same H H3→P (i+1) zs→K2 H3)→
  g (.int (lo+i)) σ₀ H fun σ2 H2=>(∀(k:Nat) v,σ₀[k]? = some (some v)→σ2[k]? = some (some v))∧ti σ2 H2 fun b H3=>if b=true then te σ2 H3 K1 else K2 H3)
 (fin:∀zs H,Same H1 H→P n zs→H D=some (.lst zs)→R H) :
 ∃W:Nat→Nat→Hp→Prop,(∃m,W 0 m (upd H1 D (.lst [])))∧∀i m H,W i m H→((Itr lo n).stop i H∧R H)∨((Itr lo n).go i H∧∀x H',(Itr lo n).yld i H x H'→g x σ₀ H' fun σ2 H2=>(∀(k:Nat) v,σ₀[k]? = some (some v)→σ2[k]? = some (some v))∧ti σ2 H2 fun b H3=>
  if b=true then te σ2 H3 fun y H4=>∃zs,H4 D=some (.lst zs)∧zs.length<sizeLine∧∃m',m' < m∧W (i+1) m' (upd H4 D (.lst (zs++[y]))) else ∃m',m' < m∧W (i+1) m' H3):=by
 refine⟨fun i m H=>i+m=n∧Same H1 H∧∃zs,H D=some (.lst zs)∧zs.length≤i∧P i zs,⟨n,by omega,yac hD _,[],yaa,Nat.le_refl _,h0⟩,?_⟩
 rintro i m H ⟨him,s1,zs,hz,hl,hp⟩
 by_cases hi:i<n
 ·refine .inr ⟨hi,?_⟩
  rintro x H' ⟨rfl,rfl⟩
  exact step i zs _ hi s1 hp _ _ (fun y H4 s4 p4=>⟨zs,s4 _ _ hz,yaq (by omega),m-1,by omega,by omega,(s1.trans s4).young hD,zs++[y],yaa,by rw[List.length_append,List.length_singleton];omega,p4⟩) fun H3 s3 p3=>⟨m-1,by omega,by omega,s1.trans s3,zs,s3 _ _ hz,by omega,p3⟩
 ·have e:i=n:=by omega
  subst e
  exact .inl ⟨by show i≤i;exact Nat.le_refl _,fin zs H s1 hp hz⟩
theorem ys0 (rs:List (List Int))(cs:List Int)(u:Int):∀ns:List Nat,((ns.filter fun i=>ybj u (rs.getD i [])).map fun i=>cs.getD i 0).sum=yfa (fun i=>if u≤yad rs 2 i then cs.getD i.toNat 0 else 0) (ns.map fun i=>((i:Nat):Int))
 |[]=>rfl
 |k::ns=>by
  have ih:=ys0 rs cs u ns
  show _=(if u≤yad rs 2 (k:Int) then cs.getD ((k:Nat):Int).toNat 0 else 0)+yfa _ (ns.map fun i=>((i:Nat):Int))
  rw[← ih,List.filter_cons]
  have e:ybj u (rs.getD k [])=decide (u≤yad rs 2 (k:Int)):=rfl
  rw[e]
  by_cases c:u≤yad rs 2 (k:Int)
  ·rw[decide_eq_true c,if_pos rfl,if_pos c,List.map_cons,List.sum_cons];rfl
  ·rw[decide_eq_false c,if_neg (by decide),if_neg c,Int.zero_add]
theorem yhg (rs:List (List Int))(cs:List Int)(u:Int):ydk rs cs u=yfa (fun i=>if u≤yad rs 2 i then cs.getD i.toNat 0 else 0) (ya9 rs.length):=ys0 rs cs u _
theorem ys1 {rs os:List (List Int)}{tm:Int}{cs:List Int}(h:BestIs rs os tm cs)(hr:∀r∈rs,0≤r.getD 1 0)(ho:∀r∈os,0≤r.getD 1 0)(u:Int)(ss:List (List Int)):ydk rs cs u≤ye8 rs os tm u ss:=by
 obtain ⟨ds,hds⟩:=yex rs
 rw[yuo,yhg]
 exact(h.fits hr ho).weak hds ho u ss
theorem yir (rs:List (List Int))(W:Int→Int→Int)(ds:List Int){j:Nat}:∀{k:Nat},j≤k→fAt (ya1 rs W ds k) j=fAt (ya1 rs W ds j) j
 |0,h=>by
  have:j=0:=by omega
  subst this;rfl
 |k+1,h=>by
  by_cases z:j≤k
  ·show fAt (ya1 rs W ds k++[_]) j=_
   rw[ykv (by rw[yef];omega)]
   exact yir rs W ds z
  ·have:j=k+1:=by omega
   subst this;rfl
theorem yn3 {W:Int→Int→Int}{few:Few}{last:Int}{ds:List Int}{b:Int×List (List Int)}:∀i,(ymw W few last ds b i).1≤b.1∧∀j,j<i→(ymw W few last ds b i).1≤(fAt few j).1+W (ds.getD j 0) last
 |0=>⟨Int.le_refl _,fun j h=>by omega⟩
 |i+1=>by
  obtain ⟨h1,h2⟩:=yn3 (W:=W) (few:=few) (last:=last) (ds:=ds) (b:=b) i
  show (ygl W few last (ymw W few last ds b i) i (ds.getD i 0)).1≤_∧∀j,j<i+1→(ygl W few last (ymw W few last ds b i) i (ds.getD i 0)).1≤_
  unfold ygl
  split
  ·rename_i c
   refine⟨by show (fAt few i).1+_≤_;omega,fun j hj=>?_⟩
   show (fAt few i).1+W (ds.getD i 0) last≤_
   by_cases e:j=i
   ·subst e;exact Int.le_refl _
   ·have:=h2 j (by omega);omega
  ·rename_i c
   refine⟨h1,fun j hj=>?_⟩
   by_cases e:j=i
   ·subst e;omega
   ·exact h2 j (by omega)
theorem yn4 (rs:List (List Int))(W:Int→Int→Int)(ds:List Int)(k:Nat):fAt (ya1 rs W ds (k+1)) (k+1)=ymw W (ya1 rs W ds k) (ds.getD k 0) ds (yc5 rs (ya1 rs W ds k) ds k) (k+1):=ykw (yef rs W ds k)
theorem yyk (rs:List (List Int))(W:Int→Int→Int)(ds:List Int)(k:Nat):(fAt (ya1 rs W ds (k+1)) (k+1)).1≤(fAt (ya1 rs W ds k) k).1+unitsOf (rs.filter (yo9 (ds.getD k 0))):=by
 rw[yn4]
 exact(yn3 (k+1)).1
theorem yyl (rs:List (List Int))(W:Int→Int→Int)(ds:List Int){j k:Nat}(h:j≤k):(fAt (ya1 rs W ds (k+1)) (k+1)).1≤(fAt (ya1 rs W ds j) j).1+W (ds.getD j 0) (ds.getD k 0):=by
 rw[yn4,← yir rs W ds h]
 exact(yn3 (k+1)).2 j (by omega)
def inK (ds:List Int)(k:Nat)(r:List Int):Bool:=decide (r.getD 0 0∈ds.take k)
def yk0 (rs:List (List Int))(W:Int→Int→Int)(ds:List Int)(k:Nat)(ss:List (List Int)):Int:=(ss.map fun s=>W (s.getD 0 0) (s.getD 1 0)).sum+unitsOf (rs.filter fun r=>inK ds k r && !yd9 (r.getD 0 0) ss)
theorem yis (p q r:List Int→Bool):∀rs:List (List Int),(∀x∈rs,p x=(q x || r x)∧(q x&&r x)=false)→unitsOf (rs.filter p)=unitsOf (rs.filter q)+unitsOf (rs.filter r)
 |[],_=>rfl
 |x::rs,h=>by
  have ih:=yis p q r rs fun y hy=>h y (.tail _ hy)
  obtain ⟨h1,h2⟩:=h x (.head _)
  unfold unitsOf at ih ⊢
  rw[List.filter_cons,List.filter_cons,List.filter_cons,h1]
  cases e1:q x <;> cases e2:r x
  ·simp only[Bool.or_false,Bool.false_eq_true,if_false];exact ih
  ·simp only[Bool.false_or,if_true,Bool.false_eq_true,if_false,List.map_cons,List.sum_cons];rw[ih];omega
  ·simp only[Bool.or_false,if_true,Bool.false_eq_true,if_false,List.map_cons,List.sum_cons];rw[ih];omega
  ·rw[e1,e2] at h2;cases h2
theorem yus (d:Int)(ss:List (List Int))(f l:Int):yd9 d (ss++[[f,l]])=(yd9 d ss || decide (f≤d∧d≤l)):=by
 unfold yd9
 rw[List.any_append]
 congr 1
 show (yb2 d [f,l] || false)=_
 rw[Bool.or_false];rfl
theorem yg6 {ds:List Int}(hd:ds.Pairwise (· < ·)){k:Nat}(hk:k<ds.length){d:Int}:d∈ds.take k↔d∈ds∧d<ds.getD k 0:=by
 have ek:ds.getD k 0=ds[k]:=by rw[List.getD_eq_getElem?_getD,List.getElem?_eq_getElem hk];rfl
 have pw:=List.pairwise_iff_getElem.mp hd
 rw[ek]
 constructor
 ·intro h
  obtain ⟨i,hi,rfl⟩:=List.getElem_of_mem h
  rw[List.length_take] at hi
  rw[List.getElem_take]
  exact⟨List.getElem_mem _,pw i k (by omega) hk (by omega)⟩
 ·rintro ⟨h1,h2⟩
  obtain ⟨i,hi,rfl⟩:=List.getElem_of_mem h1
  have:i<k:=by
   by_cases c:i<k
   ·exact c
   ·by_cases e:i=k
    ·subst e;omega
    ·have:=pw k i hk hi (by omega);omega
  exact List.mem_take_iff_getElem.mpr ⟨i,by omega,rfl⟩
theorem yit {ds:List Int}{k:Nat}(hk:k<ds.length){d:Int}:d∈ds.take (k+1)↔d∈ds.take k∨d=ds.getD k 0:=by
 have ek:ds.getD k 0=ds[k]:=by rw[List.getD_eq_getElem?_getD,List.getElem?_eq_getElem hk];rfl
 rw[List.take_succ_eq_append_getElem hk,List.mem_append,List.mem_singleton,ek]
theorem ys2 (rs:List (List Int))(W:Int→Int→Int){ds:List Int}(hd:ds.Pairwise (· < ·))(hb:∀d∈ds,1≤d∧d≤999):∀k,k≤ds.length→∀j,j≤k→(fAt (ya1 rs W ds j) j).1=yk0 rs W ds j (fAt (ya1 rs W ds j) j).2
 |0,_,j,hj=>by
  have:j=0:=by omega
  subst this
  show (0:Int)=0+unitsOf (rs.filter _)
  rw[List.filter_eq_nil_iff.mpr fun r _=>by unfold inK;rw[List.take_zero];simp]
  rfl
 |k+1,hk,j,hj=>by
  have ih:=ys2 rs W hd hb k (by omega)
  by_cases z:j≤k
  ·exact ih j z
  have:j=k+1:=by omega
  subst this
  have hk':k<ds.length:=by omega
  rw[yn4]
  refine ygm (n:=k+1) (fun c=>c.1=yk0 rs W ds (k+1) c.2) ?_ (fun c i hi hc=>?_) (k+1) (Nat.le_refl _)
  ·show (fAt (ya1 rs W ds k) k).1+_=yk0 rs W ds (k+1) (fAt (ya1 rs W ds k) k).2
   rw[ih k (Nat.le_refl _)]
   unfold yk0
   have rise:=(ynx rs W hd hb k (by omega) k (Nat.le_refl _)).1
   rw[Int.add_assoc]
   congr 1
   refine(yis _ _ _ rs fun x _=>?_).symm
   by_cases e:x.getD 0 0=ds.getD k 0
   ·have a1:inK ds (k+1) x=true:=decide_eq_true ((yit hk').mpr (.inr e))
    have a2:inK ds k x=false:=decide_eq_false fun y=>by have:=((yg6 hd hk').mp y).2;omega
    have a3:yo9 (ds.getD k 0) x=true:=decide_eq_true (congrArg V.int e)
    have a4:yd9 (x.getD 0 0) (fAt (ya1 rs W ds k) k).2=false:=by
     unfold yd9
     rw[List.any_eq_false]
     intro s hs
     obtain ⟨_,k0,le⟩:=rise s hs
     have lt:ds.getD (k-1) 0<ds.getD k 0:=by
      rw[List.getD_eq_getElem?_getD,List.getD_eq_getElem?_getD,List.getElem?_eq_getElem hk',List.getElem?_eq_getElem (by omega:k-1<ds.length)]
      exact List.pairwise_iff_getElem.mp hd (k-1) k (by omega) hk' (by omega)
     unfold yb2
     rw[decide_eq_false (by omega)]
     decide
    rw[a1,a2,a3,a4];exact⟨rfl,rfl⟩
   ·have a1:inK ds (k+1) x=inK ds k x:=by
     unfold inK
     by_cases y:x.getD 0 0∈ds.take k
     ·rw[decide_eq_true y,decide_eq_true ((yit hk').mpr (.inl y))]
     ·rw[decide_eq_false y,decide_eq_false fun w=>((yit hk').mp w).elim y e]
    have a3:yo9 (ds.getD k 0) x=false:=decide_eq_false fun y=>e (V.int.inj y)
    rw[a1,a3,Bool.or_false,Bool.and_false];exact⟨rfl,rfl⟩
  ·unfold ygl
   split
   ·show (fAt (ya1 rs W ds k) i).1+W (ds.getD i 0) (ds.getD k 0)=yk0 rs W ds (k+1) ((fAt (ya1 rs W ds k) i).2++[[ds.getD i 0,ds.getD k 0]])
    rw[yir rs W ds (by omega:i≤k),ih i (by omega)]
    unfold yk0
    rw[List.map_append,List.sum_append]
    have:rs.filter (fun r=>inK ds (k+1) r && !yd9 (r.getD 0 0) ((fAt (ya1 rs W ds i) i).2++[[ds.getD i 0,ds.getD k 0]]))=rs.filter (fun r=>inK ds i r && !yd9 (r.getD 0 0) (fAt (ya1 rs W ds i) i).2):=by
     refine List.filter_congr fun x _=>?_
     rw[yus]
     have hi':i<ds.length:=by omega
     by_cases y:x.getD 0 0∈ds.take i
     ·obtain ⟨y1,y2⟩:=(yg6 hd hi').mp y
      have a1:inK ds i x=true:=decide_eq_true y
      have a2:inK ds (k+1) x=true:=decide_eq_true ((List.take_sublist_take_left (by omega:i≤k+1)).subset y)
      rw[a1,a2,decide_eq_false (by omega),Bool.or_false]
     ·have a1:inK ds i x=false:=decide_eq_false y
      rw[a1,Bool.false_and]
      by_cases w:x.getD 0 0∈ds.take (k+1)
      ·have w1:x.getD 0 0∈ds:=List.mem_of_mem_take w
       have w2:x.getD 0 0≤ds.getD k 0:=by
        rcases (yit hk').mp w with v|v
        ·have:=((yg6 hd hk').mp v).2;omega
        ·omega
       have w3:ds.getD i 0≤x.getD 0 0:=by
        by_cases v:ds.getD i 0≤x.getD 0 0
        ·exact v
        ·exact absurd ((yg6 hd hi').mpr ⟨w1,by omega⟩) y
       rw[decide_eq_true ⟨w3,w2⟩,Bool.or_true,Bool.not_true,Bool.and_false]
      ·have a2:inK ds (k+1) x=false:=decide_eq_false w
       rw[a2,Bool.false_and]
    rw[this]
    show _=_+(W (ds.getD i 0) (ds.getD k 0)+0)+_
    omega
   ·exact hc
def ybh (rs:List (List Int))(u:Int)(c:Int→Int)(p:Int→Bool):Int:=yfa (fun i=>if u≤yad rs 2 i∧p (yad rs 0 i)=true then c i else 0) (ya9 rs.length)
theorem yiu {rs:List (List Int)}{u:Int}{c:Int→Int}{p q r:Int→Bool}(hc:∀i∈ya9 rs.length,0≤c i)(h:∀i∈ya9 rs.length,u≤yad rs 2 i→(p (yad rs 0 i)=true→r (yad rs 0 i)=true)∧(q (yad rs 0 i)=true→r (yad rs 0 i)=true)∧¬ (p (yad rs 0 i)=true∧q (yad rs 0 i)=true)) :
 ybh rs u c p+ybh rs u c q≤ybh rs u c r:=by
 unfold ybh
 rw[← ykt]
 refine yf5 fun i hi=>?_
 have h0:=hc i hi
 by_cases d:u≤yad rs 2 i
 ·obtain ⟨h1,h2,h3⟩:=h i hi d
  by_cases a:p (yad rs 0 i)=true
  ·rw[if_pos ⟨d,a⟩,if_neg fun z=>h3 ⟨a,z.2⟩,if_pos ⟨d,h1 a⟩];omega
  ·rw[if_neg fun z=>a z.2]
   by_cases b:q (yad rs 0 i)=true
   ·rw[if_pos ⟨d,b⟩,if_pos ⟨d,h2 b⟩];omega
   ·rw[if_neg fun z=>b z.2]
    split <;> omega
 ·rw[if_neg fun z=>d z.1,if_neg fun z=>d z.1,if_neg fun z=>d z.1];decide
theorem ys3 {rs:List (List Int)}{u:Int}{c:Int→Int}(hc:∀i∈ya9 rs.length,0≤c i)(p:Int→Bool):0≤ybh rs u c p:=by
 have:=yiu (u:=u) (p:=fun _=>false) (q:=fun _=>false) (r:=p) hc fun i _ _=>⟨fun z=>(by cases z),fun z=>(by cases z),fun z=>(by cases z.1)⟩
 have z:ybh rs u c (fun _=>false)=0:=by
  unfold ybh
  rw[yev (g':=fun _=>0) fun i _=>if_neg fun z=>by cases z.2]
  have:∀os:List Int,yfa (fun _=>0) os=0:=fun os=>by
   induction os with
   |nil=>rfl
   |cons i os ih=>show 0+yfa _ os=0;rw[ih];rfl
  exact this _
 omega
def yvn (x d:Int):Bool:=decide (d<x)
def onB (f l d:Int):Bool:=decide (f≤d∧d≤l)
structure Dual (rs:List (List Int)) (u:Int) (c:Int→Int) (W:Int→Int→Int) (ks:List (Int×Int)) (ds:List Int):Prop where
 clos:yzv ks
 modu:Modu fun f l=>W f l-ybh rs u c (onB f l)
 nn:∀p∈ks,0≤W p.1 p.2-ybh rs u c (onB p.1 p.2)
 mono:∀f l f' l',f≤f'→l'≤l→W f' l'≤W f l
 c0:∀i∈ya9 rs.length,0≤c i
 full:∀i∈ya9 rs.length,u≤yad rs 2 i→c i=yad rs 1 i∨∃T∈ks,T.1≤yad rs 0 i∧yad rs 0 i≤T.2∧W T.1 T.2-ybh rs u c (onB T.1 T.2)=0
 days:∀i∈ya9 rs.length,u≤yad rs 2 i→yad rs 0 i∈ds
 dsd:ds.Pairwise (· < ·)
theorem yut {rs:List (List Int)}{u:Int}(e:Int):unitsOf ((rs.filter (ybj u)).filter (yo9 e))=ybh rs u (fun i=>yad rs 1 i) (onB e e):=by
 unfold unitsOf ybh
 rw[List.filter_filter,yg3]
 have:=ymm (fun r=>if u≤r.getD 2 0∧onB e e (r.getD 0 0)=true then r.getD 1 0 else 0) rs
 refine Eq.trans ?_ this.symm
 congr 1
 refine List.map_congr_left fun r _=>?_
 unfold ybj yo9 onB
 by_cases c:u≤r.getD 2 0
 ·by_cases d:r.getD 0 0=e
  ·rw[decide_eq_true c,decide_eq_true (congrArg V.int d),if_pos (show (true&&true)=true from rfl),if_pos ⟨c,decide_eq_true (by omega)⟩]
  ·rw[decide_eq_false (fun z=>d (V.int.inj z)),Bool.false_and,if_neg (by decide),if_neg fun z=>d (by have:=of_decide_eq_true z.2;omega)]
 ·rw[decide_eq_false c,Bool.and_false,if_neg (by decide),if_neg fun z=>c z.1]
theorem ypa {ds:List Int}(hd:ds.Pairwise (· < ·)){M:Int}:∀k,k<ds.length→M≤ds.getD k 0→∃j,j≤k∧M≤ds.getD j 0∧∀i,i<j→ds.getD i 0<M
 |0,_,h=>⟨0,Nat.le_refl _,h,fun i hi=>by omega⟩
 |k+1,hk,h=>by
  by_cases c:M≤ds.getD k 0
  ·obtain ⟨j,a1,a2,a3⟩:=ypa hd k (by omega) c
   exact⟨j,by omega,a2,a3⟩
  ·refine⟨k+1,Nat.le_refl _,h,fun i hi=>?_⟩
   by_cases e:i=k
   ·subst e;omega
   ·have:ds.getD i 0<ds.getD k 0:=by
     rw[List.getD_eq_getElem?_getD,List.getD_eq_getElem?_getD,List.getElem?_eq_getElem (by omega:i<ds.length),List.getElem?_eq_getElem (by omega:k<ds.length)]
     exact List.pairwise_iff_getElem.mp hd i k (by omega) (by omega) (by omega)
    omega
theorem Dual.cut {rs:List (List Int)}{u:Int}{c:Int→Int}{W:Int→Int→Int}{ks:List (Int×Int)}{ds:List Int}(D:Dual rs u c W ks ds):∀(k:Nat),k≤ds.length→∀j,j≤k→∀X:Int,(∀d∈ds,d<X↔d∈ds.take j)→(∀T∈ks,W T.1 T.2-ybh rs u c (onB T.1 T.2)=0→T.1<X→T.2<X)→
 (fAt (ya1 (rs.filter (ybj u)) W ds j) j).1≤ybh rs u c (yvn X)
 |0,_,j,hj,X,_,_=>by
  have:j=0:=by omega
  subst this
  exact ys3 D.c0 _
 |k+1,hk,j,hj,X,hX,hT=>by
  have ih:=D.cut k (by omega)
  by_cases z:j≤k
  ·exact ih j z X hX hT
  have:j=k+1:=by omega
  subst this
  have hk':k<ds.length:=by omega
  have em:ds.getD k 0∈ds.take (k+1):=(yit hk').mpr (.inr rfl)
  have e1:ds.getD k 0∈ds:=List.mem_of_mem_take em
  have eX:ds.getD k 0<X:=(hX _ e1).mpr em
  generalize ee:ds.getD k 0=e at *
  by_cases cv:∃T∈ks,(W T.1 T.2-ybh rs u c (onB T.1 T.2)=0)∧T.1≤e∧e≤T.2
  ·-- the tight one that begins first
   obtain ⟨M,m1,m2,m3,m4,least⟩ : ∃M∈ks,(W M.1 M.2-ybh rs u c (onB M.1 M.2)=0)∧M.1≤e∧e≤M.2∧∀T∈ks,(W T.1 T.2-ybh rs u c (onB T.1 T.2)=0)→T.1≤e→e≤T.2→M.1≤T.1:=by
    obtain ⟨T0,a1,a2,a3,a4⟩:=cv
    have ne:(ks.filter fun T=>decide ((W T.1 T.2-ybh rs u c (onB T.1 T.2)=0)∧T.1≤e∧e≤T.2)).map (·.1)≠[]:=fun y=>by
     have:T0.1∈(ks.filter fun T=>decide ((W T.1 T.2-ybh rs u c (onB T.1 T.2)=0)∧T.1≤e∧e≤T.2)).map (·.1):=List.mem_map.mpr ⟨T0,List.mem_filter.mpr ⟨a1,decide_eq_true ⟨a2,a3,a4⟩⟩,rfl⟩
     rw[y] at this;cases this
    obtain ⟨⟨f,hf,h1⟩,_⟩:=yhr _ ne
    obtain ⟨M,hM,rfl⟩:=List.mem_map.mp hf
    obtain ⟨b1,b2⟩:=List.mem_filter.mp hM
    obtain ⟨b3,b4,b5⟩:=of_decide_eq_true b2
    exact⟨M,b1,b3,b4,b5,fun T t1 t2 t3 t4=>h1 _ (List.mem_map.mpr ⟨T,List.mem_filter.mpr ⟨t1,decide_eq_true ⟨t2,t3,t4⟩⟩,rfl⟩)⟩
   have m5:=hT M m1 m2 (by omega)
   obtain ⟨j,hj1,hj2,hj3⟩ : ∃j,j≤k∧M.1≤ds.getD j 0∧∀d∈ds,d<M.1↔d∈ds.take j:=by
    obtain ⟨j,a1,a2,a3⟩:=ypa (M:=M.1) D.dsd k hk' (by omega)
    refine⟨j,a1,a2,fun d hd=>⟨fun y=>(yg6 D.dsd (by omega)).mpr ⟨hd,by omega⟩,fun y=>?_⟩⟩
    obtain ⟨i,hi,rfl⟩:=List.getElem_of_mem y
    rw[List.length_take] at hi
    have:=a3 i (by omega)
    rw[List.getD_eq_getElem?_getD,List.getElem?_eq_getElem (by omega)] at this
    rw[List.getElem_take]
    exact this
   have ps:=yyl (rs.filter (ybj u)) W ds hj1
   rw[ee] at ps
   have i1:=ih j hj1 M.1 hj3 (fun T t1 t2 t3=>by
    by_cases y:T.2<M.1
    ·exact y
    ·exfalso
     have c12:=D.clos.1 T t1
     have cM:=D.clos.1 M m1
     obtain ⟨q1,q2⟩:=D.clos.2 T t1 M m1 (by omega) (by omega)
     have md:=D.modu T.1 T.2 M.1 M.2 c12 cM (by omega) (by omega)
     have n1:=D.nn _ q1
     have n2:=D.nn _ q2
     simp only at md n1 n2
     have:=least _ q1 (by show W (min T.1 M.1) (max T.2 M.2)-ybh rs u c (onB (min T.1 M.1) (max T.2 M.2))=0;omega) (by show min T.1 M.1≤e;omega) (by show e≤max T.2 M.2;omega)
     have:M.1≤min T.1 M.1:=this
     omega)
   have mo:=D.mono M.1 M.2 (ds.getD j 0) e hj2 m4
   have le:=yiu (u:=u) (p:=yvn M.1) (q:=onB M.1 M.2) (r:=yvn X) D.c0 fun i _ _=>⟨fun y=>decide_eq_true (by have:=of_decide_eq_true y;omega),fun y=>decide_eq_true (by have:=of_decide_eq_true y;omega),fun y=>by
    have a:=of_decide_eq_true y.1
    have b:=of_decide_eq_true y.2
    omega⟩
   omega
  ·have pd:=yyk (rs.filter (ybj u)) W ds k
   rw[ee,yut] at pd
   have i1:=ih k (Nat.le_refl _) e (fun d hd=>by rw[← ee,yg6 D.dsd hk'];exact⟨fun y=>⟨hd,y⟩,fun y=>y.2⟩) (fun T hT1 hT2 hT3=>by
    by_cases y:T.2<e
    ·exact y
    ·exact absurd ⟨T,hT1,hT2,by omega,by omega⟩ cv)
   have fu:ybh rs u (fun i=>yad rs 1 i) (onB e e)=ybh rs u c (onB e e):=by
    unfold ybh
    refine yev fun i hi=>?_
    by_cases a:u≤yad rs 2 i∧onB e e (yad rs 0 i)=true
    ·rw[if_pos a,if_pos a]
     have b:=of_decide_eq_true a.2
     rcases D.full i hi a.1 with y|⟨T,t1,t2,t3,t4⟩
     ·exact y.symm
     ·exact absurd ⟨T,t1,t4,by omega,by omega⟩ cv
    ·rw[if_neg a,if_neg a]
   rw[fu] at pd
   have le:=yiu (u:=u) (p:=yvn e) (q:=onB e e) (r:=yvn X) D.c0 fun i _ _=>⟨fun y=>decide_eq_true (by have:=of_decide_eq_true y;omega),fun y=>decide_eq_true (by have:=of_decide_eq_true y;omega),fun y=>by
    have a:=of_decide_eq_true y.1
    have b:=of_decide_eq_true y.2
    omega⟩
   omega
end L2
namespace L2
open PySem PySem.Spec PySem.W PyProof.Rows
section
variable {X:Cx}
end
end L2
namespace L2
open PySem
variable {P:Program}{w:World}{K:PySem.W.Frag}{mg:Str→Option Value}{base:Heap}
end L2
namespace L2
open PySem PySem.Spec PyProof.Rows
section
variable {X:Cx}
end
end L2
namespace L2
open PySem
open Classical in
noncomputable def okN (rs os:List (List Int)) (tm:Int) (ts:List Int):Bool:=decide (NoLack rs os tm ts)
open Classical in
open Classical in
noncomputable def isAt (H:Hp) (cs:List Int) (p:Addr):Bool:=decide (ybd H p cs)
open Classical in
theorem yms (g:Int→Int)(k:Int):∀os:List Int,yfa g (os++[k])=yfa g os+g k
 |[]=>by show g k+0=0+g k;omega
 |i::os=>by show g i+yfa g (os++[k])=g i+yfa g os+g k;rw[yms g k os];omega
theorem ys4 (n:Nat):ya9 (n+1)=ya9 n++[(n:Int)]:=by
 unfold ya9
 rw[List.range_succ,List.map_append];rfl
theorem ypb (rs:List (List Int))(ts:List Int)(v:Int→Int→Int)(f l:Int):∀k,yg2 rs ts v k f l=v f l-yfa (fun i=>if f≤yad rs 0 i∧yad rs 0 i≤l then ts.getD i.toNat 0 else 0) (ya9 k)
 |0=>by show v f l=v f l-0;omega
 |k+1=>by
  rw[ys4,yms]
  have ih:=ypb rs ts v f l k
  show yce (yg2 rs ts v k) _ _ f l=_
  unfold yce
  have e:yad rs 0 (k:Int)=(rs.getD k []).getD 0 0:=rfl
  have e2:((k:Nat):Int).toNat=k:=by omega
  rw[ih,e,e2]
  split <;> omega
theorem yn5 (rs os:List (List Int))(tm:Int)(ts:List Int)(f l:Int):ycx rs os tm ts f l=yan os tm f l-ybp rs (fun i=>ts.getD i.toNat 0) f l:=ypb rs ts (yan os tm) f l rs.length
theorem ys5 {ks:List (Int×Int)}{rs:List (List Int)}(hc:∀i,0≤yad rs 1 i){T:Int×Int}(hT:T∈ks):∀(b:List Int) (v:Int→Int→Int) (cs:List Int),nN ks v→v T.1 T.2=0→b.Nodup→(∀i∈b,0≤i∧i.toNat<cs.length)→
 (yav ks rs b v cs).1 T.1 T.2=0∧∀j∈b,T.1≤yad rs 0 j→yad rs 0 j≤T.2→(yav ks rs b v cs).2.getD j.toNat 0=0
 |[],v,cs,_,h0,_,_=>⟨h0,fun j hj=>by cases hj⟩
 |i::b,v,cs,hn,h0,nd,hi=>by
  obtain ⟨n1,n2⟩:=List.nodup_cons.mp nd
  obtain ⟨a1,a2,a3⟩:=yns (rs:=rs) (i:=i) hn (hc i)
  have fr:=yfr v (yad rs 0 i) (yad rs 1 i) ks
  have z0:T.1≤yad rs 0 i→yad rs 0 i≤T.2→ycf ks rs v i=0:=fun t1 t2=>by
   have:=fr.2.1 T hT t1 t2
   have e:ycf ks rs v i=yp9 v (yad rs 0 i) (yad rs 1 i) ks:=rfl
   omega
  have h0':yce v (yad rs 0 i) (ycf ks rs v i) T.1 T.2=0:=by
   unfold yce
   split
   ·rename_i c;rw[z0 c.1 c.2];omega
   ·exact h0
  obtain ⟨b1,b2⟩:=ys5 hc hT b _ (cs.set i.toNat (ycf ks rs v i)) a3 h0' n2 fun j hj=>by rw[List.length_set];exact hi j (.tail _ hj)
  refine⟨b1,fun j hj t1 t2=>?_⟩
  rcases List.mem_cons.mp hj with rfl|hj
  ·show (yav ks rs b _ _).2.getD j.toNat 0=0
   have jl:=hi j (.head _)
   rw[List.getD_eq_getElem?_getD,yee b _ _ fun k hk e=>n1 (by
    have:=hi k (.tail _ hk)
    rw[show j=k by omega];exact hk),List.getElem?_set_self jl.2]
   exact z0 t1 t2
  ·exact b2 j hj t1 t2
theorem ymt {rs:List (List Int)}{u:Int}{c:Int→Int}:∀(L:List Int) (v:Int→Int→Int),Modu v→Modu fun f l=>v f l-yfa (fun i=>if u≤yad rs 2 i∧onB f l (yad rs 0 i)=true then c i else 0) L
 |[],v,h=>by
  have:(fun f l=>v f l-yfa (fun i=>if u≤yad rs 2 i∧onB f l (yad rs 0 i)=true then c i else 0) [])=v:=by
   funext f l;show v f l-0=v f l;omega
  rw[this];exact h
 |i::L,v,h=>by
  have:=ymt (rs:=rs) (u:=u) (c:=c) L (yce v (yad rs 0 i) (if u≤yad rs 2 i then c i else 0)) (h.less _ _)
  have e:(fun f l=>v f l-yfa (fun i=>if u≤yad rs 2 i∧onB f l (yad rs 0 i)=true then c i else 0) (i::L))=fun f l=>yce v (yad rs 0 i) (if u≤yad rs 2 i then c i else 0) f l-yfa (fun i=>if u≤yad rs 2 i∧onB f l (yad rs 0 i)=true then c i else 0) L:=by
   funext f l
   show v f l-((if u≤yad rs 2 i∧onB f l (yad rs 0 i)=true then c i else 0)+_)=_
   unfold yce
   by_cases a:f≤yad rs 0 i∧yad rs 0 i≤l
   ·have b:onB f l (yad rs 0 i)=true:=decide_eq_true a
    rw[if_pos a,b]
    by_cases d:u≤yad rs 2 i
    ·rw[if_pos ⟨d,rfl⟩,if_pos d];omega
    ·rw[if_neg fun z=>d z.1,if_neg d];omega
   ·have b:onB f l (yad rs 0 i)=false:=decide_eq_false a
    rw[if_neg a,b,if_neg fun z=>by cases z.2];omega
  rw[e];exact this
theorem BestIs.dual {rs os:List (List Int)}{tm:Int}{cs:List Int}(h:BestIs rs os tm cs)(t0:0≤tm)(hr:∀r∈rs,0≤r.getD 1 0)(ho:∀r∈os,0≤r.getD 1 0)(u:Int){ds:List Int}(hds:yb5 (rs.filter (ybj u)) ds) :
 ∃ks,Dual rs u (fun i=>cs.getD i.toNat 0) (yan os tm) ks ds∧∀T∈ks,∃r∈rs,r.getD 0 0=T.2:=by
 have fit:=h.fits hr ho
 have hc:=yfx hr
 obtain ⟨da,ord,hda,hord,ecs⟩:=h
 have mem:∀i∈ord,0≤i∧i<(rs.length:Int):=fun i hi=>uptoN_mem.mp (hord.1.mem_iff.mp hi)
 have nd:ord.Nodup:=(hord.1.nodup_iff).mpr (yfs _)
 have hi0:∀i∈ord,0≤i∧i.toNat<(List.replicate rs.length (0:Int)).length:=fun i hi=>by
  have:=mem i hi
  rw[List.length_replicate];omega
 have sl:=yfj (rs:=rs) (os:=os) (tm:=tm) (ks:=yau da) ord (yan os tm) (List.replicate rs.length 0) (fun f l=>slack_zero.symm) nd (fun i hi=>⟨(hi0 i hi).1,(hi0 i hi).2,by
  rw[List.getD_eq_getElem?_getD,List.getElem?_replicate]
  split <;> rfl⟩) List.length_replicate
 rw[← ecs] at sl
 have nn0:nN (yau da) (yan os tm):=fun p _=>ygi ho _ _ _
 have le:∀f l,ybh rs u (fun i=>cs.getD i.toNat 0) (onB f l)≤ybp rs (fun i=>cs.getD i.toNat 0) f l:=fun f l=>by
  unfold ybh ybp
  refine yf5 fun i hi=>?_
  have:=(fit.1 i (uptoN_mem.mp hi).1 (uptoN_mem.mp hi).2).1
  by_cases a:f≤yad rs 0 i∧yad rs 0 i≤l
  ·rw[if_pos a];split <;> omega
  ·rw[if_neg a,if_neg fun z=>a (of_decide_eq_true z.2)];exact Int.le_refl _
 refine⟨yau da,⟨yuk da,ymt (ya9 rs.length) _ (yjo t0 os),fun p hp=>?_,fun f l f' l' h1 h2=>yks h1 h2 os ho,fun i hi=>(fit.1 i (uptoN_mem.mp hi).1 (uptoN_mem.mp hi).2).1,fun i hi hd=>?_,fun i hi hd=>?_,hds.1⟩,fun T hT=>(hda.2.1 _).mp (mem_str.mp (show (T.1,T.2)∈yau da from hT)).2.1⟩
 ·have a:=fit.2 da hda p hp
  have b:=le p.1 p.2
  omega
 ·obtain ⟨a,b,rfl⟩:=List.append_of_mem (hord.1.mem_iff.mpr hi)
  have nda:=List.nodup_append.mp nd
  have ndb:=List.nodup_cons.mp nda.2.1
  have la:=yet (yau da) rs a (yan os tm) (List.replicate rs.length 0)
  rw[List.length_replicate] at la
  have sn:=(yff (rs:=rs) (ks:=yau da) a (yan os tm) (List.replicate rs.length 0) (fun j hj=>⟨(mem j (List.mem_append_left _ hj)).1,hc j⟩) nn0 (fun j w e=>by
   have:=List.mem_of_getElem? e
   rw[(List.mem_replicate.mp this).2]
   exact⟨Int.le_refl _,hc _⟩)).1
  rw[yc4] at ecs
  have sl':∀f l,(yav (yau da) rs (i::b) (yav (yau da) rs a (yan os tm) (List.replicate rs.length 0)).1 (yav (yau da) rs a (yan os tm) (List.replicate rs.length 0)).2).1 f l=ycx rs os tm cs f l:=fun f l=>by
   rw[← yc4];exact sl f l
  generalize yav (yau da) rs a (yan os tm) (List.replicate rs.length 0)=s at *
  have il:=hi0 i (List.mem_append_right _ (.head _))
  rw[List.length_replicate] at il
  have ci:cs.getD i.toNat 0=ycf (yau da) rs s.1 i:=by
   rw[ecs]
   show (yav (yau da) rs b _ _).2.getD i.toNat 0=_
   rw[List.getD_eq_getElem?_getD,yee b _ _ fun k hk e=>ndb.1 (by
    have:=mem k (List.mem_append_right _ (.tail _ hk))
    rw[show i=k by omega];exact hk),List.getElem?_set_self (by omega)]
   rfl
  obtain ⟨f1,f2,f3⟩:=yfr s.1 (yad rs 0 i) (yad rs 1 i) (yau da)
  rcases f3 with z|⟨T,hT,t1,t2,z⟩
  ·exact .inl (by show cs.getD i.toNat 0=_;rw[ci];exact z)
  ·obtain ⟨_,_,a3⟩:=yns (rs:=rs) (i:=i) sn (hc i)
   have v0:yce s.1 (yad rs 0 i) (ycf (yau da) rs s.1 i) T.1 T.2=0:=by
    unfold yce
    rw[if_pos ⟨t1,t2⟩]
    have:ycf (yau da) rs s.1 i=s.1 T.1 T.2:=z
    omega
   obtain ⟨b1,b2⟩:=ys5 (rs:=rs) hc hT b _ (s.2.set i.toNat (ycf (yau da) rs s.1 i)) a3 v0 ndb.2 fun j hj=>by
    have:=mem j (List.mem_append_right _ (.tail _ hj))
    rw[List.length_set];omega
   have tight:yan os tm T.1 T.2-ybp rs (fun i=>cs.getD i.toNat 0) T.1 T.2=0:=by
    rw[← yn5,← sl' T.1 T.2];exact b1
   have eq:ybh rs u (fun i=>cs.getD i.toNat 0) (onB T.1 T.2)=ybp rs (fun i=>cs.getD i.toNat 0) T.1 T.2:=by
    unfold ybh ybp
    refine yev fun j hj=>?_
    by_cases y:T.1≤yad rs 0 j∧yad rs 0 j≤T.2
    ·rw[if_pos y]
     by_cases d:u≤yad rs 2 j
     ·rw[if_pos ⟨d,decide_eq_true y⟩]
     ·rw[if_neg fun w=>d w.1]
      have jo:=hord.1.mem_iff.mpr hj
      rcases List.mem_append.mp jo with w|w
      ·have pw:=(List.pairwise_append.mp hord.2).2.2 j w i (.head _)
       have pw':=mt lex_keyD.mpr (Bool.eq_false_iff.mp pw)
       exfalso
       generalize yad rs 2 i=x at *
       generalize yad rs 2 j=x' at *
       omega
      ·rcases List.mem_cons.mp w with e|w
       ·subst e;exact absurd hd d
       ·have:=b2 j w y.1 y.2
        show 0=cs.getD j.toNat 0
        rw[ecs]
        exact this.symm
    ·rw[if_neg y,if_neg fun w=>y (of_decide_eq_true w.2)]
   exact .inr ⟨T,hT,t1,t2,by rw[eq];exact tight⟩
 ·obtain ⟨i0,i1⟩:=uptoN_mem.mp hi
  have hl:i.toNat<rs.length:=by omega
  refine(hds.2.1 _).mpr ⟨rs[i.toNat],List.mem_filter.mpr ⟨List.getElem_mem hl,?_⟩,?_⟩
  ·show decide (u≤_)=true
   refine decide_eq_true ?_
   have e:yad rs 2 i=(rs[i.toNat]).getD 2 0:=by unfold yad;rw[List.getD_eq_getElem?_getD (l:=rs),List.getElem?_eq_getElem hl];rfl
   rw[← e];exact hd
  ·show _=yad rs 0 i
   unfold yad;rw[List.getD_eq_getElem?_getD (l:=rs),List.getElem?_eq_getElem hl];rfl
theorem yn6 {rs os:List (List Int)}{tm:Int}{cs:List Int}(h:BestIs rs os tm cs)(t0:0≤tm)(hr:∀r∈rs,0≤r.getD 1 0)(ho:∀r∈os,0≤r.getD 1 0)(hb:∀r∈rs,1≤r.getD 0 0∧r.getD 0 0≤999)(u:Int){ds:List Int}(hds:yb5 (rs.filter (ybj u)) ds) :
 ye8 rs os tm u (yc6 (rs.filter (ybj u)) (yan os tm) ds)=ydk rs cs u:=by
 have lo:=ys1 h hr ho u (yc6 (rs.filter (ybj u)) (yan os tm) ds)
 obtain ⟨ks,D,kd⟩:=h.dual t0 hr ho u hds
 have db:∀d∈ds,1≤d∧d≤999:=fun d hd=>by
  obtain ⟨r,h1,rfl⟩:=(hds.2.1 d).mp hd
  exact hb r (List.mem_filter.mp h1).1
 have up:=D.cut ds.length (Nat.le_refl _) ds.length (Nat.le_refl _) 100000 (fun d hd=>⟨fun _=>by rw[List.take_length];exact hd,fun _=>by have:=db d hd;omega⟩) fun T hT _ _=>by
  obtain ⟨r,h1,e⟩:=kd T hT
  have:=hb r h1
  omega
 rw[ys2 (rs.filter (ybj u)) (yan os tm) hds.1 db ds.length (Nat.le_refl _) ds.length (Nat.le_refl _)] at up
 have e1:ybh rs u (fun i=>cs.getD i.toNat 0) (yvn 100000)=ydk rs cs u:=by
  rw[yhg]
  unfold ybh
  refine yev fun i hi=>?_
  obtain ⟨i0,i1⟩:=uptoN_mem.mp hi
  have hl:i.toNat<rs.length:=by omega
  have e:yad rs 0 i=(rs[i.toNat]).getD 0 0:=by unfold yad;rw[List.getD_eq_getElem?_getD (l:=rs),List.getElem?_eq_getElem hl];rfl
  have hd:=hb _ (List.getElem_mem hl)
  have b:yvn 100000 (yad rs 0 i)=true:=decide_eq_true (by rw[e];omega)
  by_cases d:u≤yad rs 2 i
  ·rw[if_pos ⟨d,b⟩,if_pos d]
  ·rw[if_neg fun z=>d z.1,if_neg d]
 have e2:yk0 (rs.filter (ybj u)) (yan os tm) ds ds.length (yc6 (rs.filter (ybj u)) (yan os tm) ds)=ye8 rs os tm u (yc6 (rs.filter (ybj u)) (yan os tm) ds):=by
  unfold yk0 ye8 yc8
  have:(rs.filter (ybj u)).filter (fun r=>inK ds ds.length r && !yd9 (r.getD 0 0) (yc6 (rs.filter (ybj u)) (yan os tm) ds))=(rs.filter (ybj u)).filter (fun r=>!yd9 (r.getD 0 0) (yc6 (rs.filter (ybj u)) (yan os tm) ds)):=by
   refine List.filter_congr fun r hr'=>?_
   have:inK ds ds.length r=true:=decide_eq_true (by rw[List.take_length];exact(hds.2.1 _).mpr ⟨r,hr',rfl⟩)
   rw[this,Bool.true_and]
  rw[this];omega
 have up':yk0 (rs.filter (ybj u)) (yan os tm) ds ds.length (yc6 (rs.filter (ybj u)) (yan os tm) ds)≤ybh rs u (fun i=>cs.getD i.toNat 0) (yvn 100000):=up
 omega
end L2
namespace K16
open PySem L2
abbrev ycz:Stmt:=top 54
abbrev yg7:List Str:=["_law_lots","_law_outs","_law_term","_law_paper","_law_duty","_law_units","_law_stretches","_law_found","_law_ahead","_law_first","_law_last","_law_day","_law_count","_law_own","_law_inside"]
abbrev ye1:List Str:=["_law_lots","_law_outs","_law_term","_law_paper"]
theorem sc_paper_so:FnScope yg7 ye1 (yab ycz):=⟨rfl,rfl,rfl,by decide +kernel,rfl,by decide +kernel,by decide +kernel⟩
def yiv:Sp:=fun vs H Q _=>∃(a b pp sr:Addr) (tm u n:Int) (rs os ss:List (List Int)),vs=[.ref a,.ref b,.int tm,.ref pp]∧Rows H a rs∧(∀r∈rs,r.length=3)∧rs.length≤100∧Rows H b os∧(∀r∈os,r.length=2)∧os.length≤100∧H pp=some (.tup [.int u,.int n,.ref sr])∧Rows H sr ss∧zal ss∧ss.length≤100∧
 ∀H',Same H H'→Q (.bl (decide (ye8 rs os tm u ss=n))) H'
def yjx (e:Int)(ss:List (List Int)):Nat→Int
 |0=>e
 |i+1=>(ss.getD i []).getD 1 0
theorem ypc:∀{ss:List (List Int)}{i:Nat}{e f l:Int},ydh e ss=true→ss[i]? = some [f,l]→yjx e ss i<f∧f≤l∧l≤999
 |[],i,e,f,l,h,hk=>by cases hk
 |r::ss,0,e,f,l,h,hk=>by
  cases hk
  rw[ydh,Bool.and_eq_true] at h
  exact of_decide_eq_true h.1
 |r::ss,i+1,e,f,l,h,hk=>by
  rw[ydh,Bool.and_eq_true] at h
  have:=ypc (i:=i) h.2 hk
  cases i with
  |zero=>exact this
  |succ i=>exact this
theorem ys6 {os:List (List Int)}{tm:Int}{ss:List (List Int)}{i:Nat}{r:List Int}(e:ss[i]? = some r):yc8 os tm (ss.take (i+1))=yc8 os tm (ss.take i)+yan os tm (r.getD 0 0) (r.getD 1 0):=by
 unfold yc8
 rw[yaz e,List.map_append,List.sum_append]
 show _+(yan os tm (r.getD 0 0) (r.getD 1 0)+0)=_
 omega
def ypd (u:Int)(ss:List (List Int))(r:List Int):Bool:=ybj u r && !yd9 (r.getD 0 0) ss
theorem yw2 (rs os:List (List Int))(tm u:Int)(ss:List (List Int)):ye8 rs os tm u ss=unitsOf (rs.filter (ypd u ss))+yc8 os tm ss:=by
 unfold ye8 ypd
 rw[List.filter_filter]
 have e:(fun a:List Int=>(!yd9 (a.getD 0 0) ss)&&ybj u a)=fun r=>ybj u r && !yd9 (r.getD 0 0) ss:=by funext r;rw[Bool.and_comm]
 rw[← e]
theorem yqi {u:Int}{ss rs:List (List Int)}{i:Nat}{r:List Int}(e:rs[i]? = some r):unitsOf ((rs.take (i+1)).filter (ypd u ss))=unitsOf ((rs.take i).filter (ypd u ss))+r.getD 1 0*(if ypd u ss r=true then 1 else 0):=by
 unfold L2.unitsOf
 rw[yb7 _ e]
 by_cases z:ypd u ss r=true
 ·rw[if_pos z,if_pos z,List.map_append,List.sum_append]
  show _+(r.getD 1 0+0)=_
  omega
 ·rw[if_neg z,if_neg z,List.append_nil]
  omega
theorem ype (d:Int)(ss:List (List Int)):(ss.filter (yb2 d)).length=0↔yd9 d ss=false:=by
 unfold yd9
 rw[List.length_eq_zero_iff,List.filter_eq_nil_iff,List.any_eq_false]
section
variable {P:Program}{w:World}{K:PySem.W.Frag}{mg:Str→Option Value}{base:Heap}{f:Addr}{fd:FuncData}(B:Bn mg)
include B
theorem yn7 (F:Fun K "_law_paper_so" "_law_paper_so" ycz f fd):FnOk P w K mg base CX0 1 f fd ye1 yiv:=by
 refine F.ok sc_paper_so (fun vs H Q E h=>?_) (fun cdv A outer s H vs Q E hr h=>?_)
 ·obtain ⟨a,b,pp,sr,tm,u,n,rs,os,ss,rfl,_⟩:=h;rfl
 obtain ⟨a,b,pp,sr,tm,u,n,rs,os,ss,rfl,hR,h3,rn,hO,h2,on,hpp,hS,hG,sn,q⟩:=h
 have s2:=hG.1
 refine⟨_,(yaf (yc7 (pv 3) (ybl rfl (yah (yai (i:=4) sc_paper_so.nd rfl (Or.inl rfl)) (yah (yai (i:=5) sc_paper_so.nd rfl (Or.inl rfl)) (yah (yai (i:=6) sc_paper_so.nd rfl (Or.inl rfl)) ya4)))))
  (yaf (yat (i:=7) sc_paper_so.nd rfl (Or.inl rfl) yag)
  (yaf (yat (i:=8) sc_paper_so.nd rfl (Or.inl rfl) yag)
  (yaf (yd0 PassesOwn.never rfl (ya8 (pv 6)) (ybl rfl (yah (yai (i:=9) sc_paper_so.nd rfl (Or.inr rfl)) (yah (yai (i:=10) sc_paper_so.nd rfl (Or.inr rfl)) ya4))) (yaf (yeg (PW.pt (ypg (ye7 (ya5 yqx (pv 8) (pv 9) (yba _))) (ypg (ye7 (ya5 yeh (pv 9) (pv 10) (yba _))) (yk4 (ya5 yvs (pv 10) yag (yba _)))))) (yak (ya2 ym0)) ybr)
   (yaf (yat (i:=7) sc_paper_so.nd rfl (Or.inl rfl) (ybb yb3 (pv 7) (yao (yen rfl) rfl B.sum PyProof.Rows.boot_sum (yam (yc2 (N':=["_law_day","_law_count","_law_first","_law_last","_law_term"]) (ix:=[none,none,some 9,some 10,some 2]) (g:=(yob K 2 (ycc (ybi 0) (ycc (ybi 1) yoa)))) (ti:=(yyv (ygs (tOp (rI0 fun i j=>.bl (decide (i≤j))) (ybv 2) (ybv 0))) (ygs (tOp (rI0 fun i j=>.bl (decide (i≤j))) (ybv 0) (tOp (rI0 fun i j=>.int (i+j)) (ybv 3) (ybv 4)))))) (te:=(ybv 1)) rfl (yax (N:=yg7) (D:=yab ycz) (by decide +kernel)) (ya8 (pv 1)) (fun C s H fp=>(ybl rfl (yah (yai (i:=0) (show (["_law_day","_law_count","_law_first","_law_last","_law_term"]:List Str).Nodup by decide +kernel) rfl (Or.inl rfl)) (yah (yai (i:=1) (show (["_law_day","_law_count","_law_first","_law_last","_law_term"]:List Str).Nodup by decide +kernel) rfl (Or.inl rfl)) ya4)))) (fun C s H fp=>(yd2 (PW.pt (yk5 (ya5 yeh (pv 2) (pv 0) (yba _)) (yj1 (ya5 yeh (pv 0) (ybb yb3 (pv 3) (pv 4)) (yba _))))))) (fun C s H fp=>(pv 1))) yae))))
   (yak (yat (i:=8) sc_paper_so.nd rfl (Or.inl rfl) (pv 10))))))
  (yaf (yd0 PassesOwn.never rfl (ya8 (pv 0)) (ybl rfl (yah (yai (i:=11) sc_paper_so.nd rfl (Or.inr rfl)) (yah (yai (i:=12) sc_paper_so.nd rfl (Or.inl rfl)) (yah (yai (i:=13) sc_paper_so.nd rfl (Or.inl rfl)) ya4)))) (yaf (ygv (i:=14) sc_paper_so.nd rfl (Or.inl rfl) (N':=["_law_one","_law_day"]) (ix:=[none,some 11]) (g:=(ybi 0)) (ti:=(yyv (ygs (tOp (rI0 fun i j=>.bl (decide (i≤j))) (tOp (yq9 K) (ybv 0) (tC (.int 0))) (ybv 1))) (ygs (tOp (rI0 fun i j=>.bl (decide (i≤j))) (ybv 1) (tOp (yq9 K) (ybv 0) (tC (.int 1))))))) (te:=(ybv 0)) rfl (yax (N:=yg7) (D:=yab ycz) (by decide +kernel)) (ya8 (pv 6)) (fun C s H fp=>(yai (i:=0) (show (["_law_one","_law_day"]:List Str).Nodup by decide +kernel) rfl (Or.inl rfl))) (fun C s H fp=>(yd2 (PW.pt (yk5 (ya5 yeh (ya3 ybg (pv 0) yag (fun _ _=>rfl)) (pv 1) (yba _)) (yj1 (ya5 yeh (pv 1) (ya3 ybg (pv 0) yag (fun _ _=>rfl)) (yba _))))))) (fun C s H fp=>(pv 0)))
   (yak (yat (i:=7) sc_paper_so.nd rfl (Or.inl rfl) (ybb yb3 (pv 7) (ybb yu3 (pv 12) (ycg yqz rfl B.int PyProof.Rows.boot_int (yam (yk6 (yfc ypi (pv 13) (pv 4) (yba _)) (yqr (yfc (yxr hr.units) (pv 14) (yd5 yae) (yba _)))) yae))))))))
  (yak (ya2 (yfc ym2 (pv 7) (pv 5) (yba _))))))))),?_⟩
 obtain ⟨xs,ex,hx⟩:=hS.tups
 obtain ⟨ys,ey,hy⟩:=hO.tups
 obtain ⟨zs,ez,hz⟩:=hR.tups
 refine⟨_,rfl,pp,_,rfl,SqT.of hpp,rfl,_,_,rfl,_,_,rfl,_,_,rfl,rfl,?_⟩
 refine⟨_,rfl,sr,rfl,⟨xs,SqL.of ex⟩,?_⟩
 refine ydp (xs:=xs) (fun i σ H3=>∃o6 o7,σ=[some (.ref a),some (.ref b),some (.int tm),some (.ref pp),some (.int u),some (.int n),some (.ref sr),some (.int (yc8 os tm (ss.take i))),some (.int (yjx 0 ss i)),o6,o7,none,none,none,none]∧Same H H3) ⟨_,_,rfl,Same.refl H⟩ ?_ ?_ ?_
 ·rintro i σ H3 hi ⟨o6,o7,rfl,s3⟩
  exact SqL.of (s3 _ _ ex)
 ·rintro i x σ H3 ei ⟨o6,o7,rfl,s3⟩
  obtain ⟨p,r,rfl,er,hp⟩:=hx.at ei
  obtain ⟨fi,la,rfl⟩:=ytv (s2 r (List.mem_of_getElem? er))
  refine⟨p,_,rfl,SqT.of (s3 _ _ hp),rfl,_,_,rfl,_,_,rfl,rfl,?_⟩
  obtain ⟨r1,r2,r3⟩:=ypc hG.2 er
  refine⟨_,rfl,_,rfl,_,_,rfl,rfl,_,rfl,?_⟩
  rw[decide_eq_true r1]
  refine ycd ⟨_,rfl,_,rfl,_,_,rfl,rfl,_,rfl,?_⟩
  rw[decide_eq_true r2]
  refine ycd ⟨_,rfl,_,_,rfl,rfl,_,rfl,?_⟩
  rw[decide_eq_false (by omega)]
  refine ycd ?_
  refine⟨_,rfl,_,rfl,b,rfl,⟨ys,SqL.of (s3 _ _ ey)⟩,fun D hD=>?_⟩
  refine yf3 (fun i zs _=>zs=(((os.take i).filter (ygy tm fi la)).map fun r=>r.getD 1 0).map V.int) hD (s3 _ _ ey) (by rw[hy.1];omega) (fun i zs H1 H2 h k=>h) rfl ?_ ?_
  ·rintro j x zs H4 ej s4 rfl K1 K2 q1 q2
   obtain ⟨pr,r,rfl,er',hpr⟩:=hy.at ej
   obtain ⟨d,c,rfl⟩:=ytv (h2 r (List.mem_of_getElem? er'))
   have ft:=yb7 (rs:=os) (ygy tm fi la) er'
   have gb:ygy tm fi la [d,c]=decide (fi≤d∧d≤la+tm):=rfl
   refine⟨pr,_,rfl,SqT.of (s4 _ _ (s3 _ _ hpr)),rfl,_,_,rfl,_,_,rfl,rfl,yaw (yaw ya7 rfl) rfl,?_⟩
   have no:¬ (fi≤d∧d≤la+tm)→K2 H4:=fun z=>q2 _ (Same.refl _) (by rw[ft,if_neg (by rw[gb];intro y;exact z (of_decide_eq_true y)),List.append_nil])
   refine⟨_,rfl,_,rfl,_,_,rfl,rfl,_,rfl,?_⟩
   by_cases c1:fi≤d
   ·rw[decide_eq_true c1]
    refine yem ⟨_,rfl,_,rfl,_,rfl,_,_,rfl,rfl,_,_,rfl,rfl,_,rfl,?_⟩
    by_cases c2:d≤la+tm
    ·rw[decide_eq_true c2]
     refine yem ⟨_,rfl,q1 _ _ (Same.refl _) ?_⟩
     rw[ft,if_pos (by rw[gb];exact decide_eq_true ⟨c1,c2⟩),List.map_append,List.map_append];rfl
    ·rw[decide_eq_false c2]
     exact ycd (no fun z=>c2 z.2)
   ·rw[decide_eq_false c1]
    exact ycd (ycd (no fun z=>c1 z.1))
  ·rintro zs H4 s4 rfl hl4 hz4
   rw[hy.1,List.take_length] at hz4
   have ea:yjx 0 ss (i+1)=la:=by
    show (ss.getD i []).getD 1 0=la
    rw[List.getD_eq_getElem?_getD (l:=ss),er];rfl
   refine⟨D,_,rfl,SqL.of hz4,_,_,rfl,rfl,_,rfl,some (.int fi),some (.int la),?_,s3.trans s4⟩
   rw[ys6 er,ea]
   rfl
 ·rintro σ H3 ⟨o6,o7,rfl,s3⟩
  rw[hx.1,List.take_length]
  refine⟨_,rfl,a,rfl,⟨zs,SqL.of (s3 _ _ ez)⟩,?_⟩
  refine ydp (xs:=zs) (fun i σ H4=>∃o8 o9 o10 o11,σ=[some (.ref a),some (.ref b),some (.int tm),some (.ref pp),some (.int u),some (.int n),some (.ref sr),some (.int (unitsOf ((rs.take i).filter (ypd u ss))+yc8 os tm ss)),some (.int (yjx 0 ss ss.length)),o6,o7,o8,o9,o10,o11]∧Same H H4) ⟨none,none,none,none,?_,s3⟩ ?_ ?_ ?_
  ·rw[show unitsOf ((rs.take 0).filter (ypd u ss))+yc8 os tm ss=yc8 os tm ss from Int.zero_add _]
  ·rintro i σ H4 hi ⟨o8,o9,o10,o11,rfl,s4⟩
   exact SqL.of (s4 _ _ ez)
  ·rintro i x σ H4 ei ⟨o8,o9,o10,o11,rfl,s4⟩
   obtain ⟨p,r,rfl,er,hp⟩:=hz.at ei
   obtain ⟨d,c,v,rfl⟩:=ync (h3 r (List.mem_of_getElem? er))
   refine⟨p,_,rfl,SqT.of (s4 _ _ hp),rfl,_,_,rfl,_,_,rfl,_,_,rfl,rfl,?_⟩
   refine⟨_,rfl,sr,rfl,⟨xs,SqL.of (s4 _ _ ex)⟩,fun D hD=>?_⟩
   refine yf3 (fun i zs H'=>zs.length=((ss.take i).filter (yb2 d)).length) hD (s4 _ _ ex) (by rw[hx.1];omega) (fun i zs H1 H3 h k=>h) rfl ?_ ?_
   ·rintro j x zs H5 ej s5 hzs K1 K2 q1 q2
    obtain ⟨pr,r,rfl,er',hpr⟩:=hx.at ej
    obtain ⟨fi,la,rfl⟩:=ytv (s2 r (List.mem_of_getElem? er'))
    have ft:=yb7 (rs:=ss) (yb2 d) er'
    have gb:yb2 d [fi,la]=decide (fi≤d∧d≤la):=rfl
    have hp5:=s5 _ _ (s4 _ _ hpr)
    refine⟨yaw ya7 rfl,?_⟩
    have no:¬ (fi≤d∧d≤la)→K2 H5:=fun z=>q2 _ (Same.refl _) (by rw[ft,if_neg (by rw[gb];intro y;exact z (of_decide_eq_true y)),List.append_nil];exact hzs)
    refine⟨_,rfl,pr,_,_,.int fi,rfl,rfl,SqT.of hp5,rfl,_,rfl,_,_,rfl,rfl,_,rfl,?_⟩
    by_cases c1:fi≤d
    ·rw[decide_eq_true c1]
     refine yem ⟨_,rfl,_,rfl,pr,_,_,.int la,rfl,rfl,SqT.of hp5,rfl,_,_,rfl,rfl,_,rfl,?_⟩
     by_cases c2:d≤la
     ·rw[decide_eq_true c2]
      refine yem ⟨_,rfl,q1 _ _ (Same.refl _) ?_⟩
      rw[ft,if_pos (by rw[gb];exact decide_eq_true ⟨c1,c2⟩),List.length_append,List.length_append,hzs];rfl
     ·rw[decide_eq_false c2]
      exact ycd (no fun z=>c2 z.2)
    ·rw[decide_eq_false c1]
     exact ycd (ycd (no fun z=>c1 z.1))
   ·rintro ws H5 s5 hws hl5 hz5
    rw[hx.1,List.take_length] at hws
    have un:=yqi (u:=u) (ss:=ss) er
    have S5:=s4.trans s5
    have eo:ypd u ss [d,c,v]=(decide (u≤v) && !yd9 d ss):=rfl
    have fin:∀(k:Bool) H6,Same H5 H6→k=ypd u ss [d,c,v]→∃o8 o9 o10 o11,([some (.ref a),some (.ref b),some (.int tm),some (.ref pp),some (.int u),some (.int n),some (.ref sr),some (.int (unitsOf ((rs.take i).filter (ypd u ss))+yc8 os tm ss+c*(if k then 1 else 0))),some (.int (yjx 0 ss ss.length)),o6,o7,some (.int d),some (.int c),some (.int v),some (.ref D)]:St)=[some (.ref a),some (.ref b),some (.int tm),some (.ref pp),some (.int u),some (.int n),some (.ref sr),some (.int (unitsOf ((rs.take (i+1)).filter (ypd u ss))+yc8 os tm ss)),some (.int (yjx 0 ss ss.length)),o6,o7,o8,o9,o10,o11]∧Same H H6:=fun k H6 s6 ek=>by
     refine⟨some (.int d),some (.int c),some (.int v),some (.ref D),?_,S5.trans s6⟩
     have e1:unitsOf ((rs.take i).filter (ypd u ss))+yc8 os tm ss+c*(if k then 1 else 0)=unitsOf ((rs.take (i+1)).filter (ypd u ss))+yc8 os tm ss:=by
      rw[un,ek]
      show _+c*_=_+c*_+_
      omega
     rw[e1]
    refine⟨_,rfl,_,rfl,_,rfl,_,rfl,_,_,rfl,rfl,_,rfl,?_⟩
    by_cases c1:u≤v
    ·rw[decide_eq_true c1]
     refine yem ⟨_,rfl,by show 0≤sizeLine;decide,fun e he=>?_⟩
     have sE:=yac (H:=H5) he (.lst [])
     refine yv8 (sE _ _ hz5) yaa (.inr ⟨_,rfl,_,_,rfl,rfl,.inr ⟨by split <;> decide,by split <;> decide⟩,_,_,rfl,rfl,?_⟩)
     refine fin _ _ sE ?_
     rw[eo,decide_eq_true c1,Bool.true_and]
     cases lb:yd9 d ss with
     |false=>rw[decide_eq_true (by rw[hws];exact(ype d ss).mpr lb)];rfl
     |true=>rw[decide_eq_false (by rw[hws];intro z;rw[(ype d ss).mp z] at lb;cases lb)];rfl
    ·rw[decide_eq_false c1]
     refine ycd (.inr ⟨_,rfl,_,_,rfl,rfl,.inr ⟨by decide,by decide⟩,_,_,rfl,rfl,?_⟩)
     exact fin _ _ (Same.refl _) (by rw[eo,decide_eq_false c1];rfl)
  ·rintro σ H4 ⟨o8,o9,o10,o11,rfl,s4⟩
   rw[hz.1,List.take_length]
   rw[← yw2]
   refine⟨_,rfl,_,rfl,rfl,?_⟩
   have e:decide (V.int (ye8 rs os tm u ss)=V.int n)=decide (ye8 rs os tm u ss=n):=by
    by_cases z:ye8 rs os tm u ss=n
    ·rw[decide_eq_true z,decide_eq_true (congrArg V.int z)]
    ·rw[decide_eq_false z,decide_eq_false fun y=>z (V.int.inj y)]
   rw[e]
   exact q H4 s4
end
end K16
namespace L2
open PySem PySem.Spec PySem.W PyProof.Rows
section
variable {prog:Program}{w:World}{A:Around}{E:Value→Shared→Prop}{s:Shared}
theorem yuu {a:Addr}{ns:List Int}{x:Int}{tx:Tok}{Q:Bool→Shared→Prop}(S:SetI w a ns s.heap)(hn:ns.length+1<scanBound)
 (h:∀b h',Heap.SameBut a s.heap h'→SetI w a (if x∈ns then ns else ns++[x]) h'→Q b { s with heap:=h',toks:=s.toks+1 }):wpAny (model prog w) A (setAdd a (.int x tx)) Q E s:=by
 unfold setAdd
 refine wpAny_holding (zwb0 ((intKind prog w).pyHash (intKind_is prog w x tx) ?_))
 obtain ⟨o,es,ep,t,ho,hex,hd,hel,hpm,hb,hf,hled,hrise⟩:=S
 have hsz:es.size=ns.length:=by rw[← Array.length_toList,← hpm.length_eq,List.length_map]
 have elems:ElemsOf (intKind prog w) es.toList:=hel.elems
 have key:=intKind_is prog w x tx
 unfold setAddHashed setAddHashedIn
 refine wpAny_holding (zwb0 (wpAny_setState_of (s:={ s with toks:=s.toks+1 }) ho hd hf ?_))
 dsimp only
 rw[byScan_of (x:=.int x tx) rfl hb elems]
 simp only[↓reduceIte]
 unfold setAddByScan
 refine zwb0 (zwb0 (wpAny_rule (zwb0 (wpAny_setScan_of key ho hd hf elems ?_))))
 have mem:=(hel.has (prog:=prog) (w:=w) x)
 cases hr:List.findIdx? (fun e=>(intKind prog w).is x e.2) es.toList with
 |some j=>
  dsimp only
  obtain ⟨hj,hpj,_⟩:=List.findIdx?_eq_some_iff_getElem.mp hr
  have hx:x∈ns:=hpm.mem_iff.mp (mem.mpr ⟨_,List.getElem_mem hj,hpj⟩)
  rw[if_pos hx] at h
  exact zwp0 (zwp0 (h _ s.heap (Heap.SameBut.refl a s.heap) ⟨o,es,ep,t,ho,hex,hd,hel,hpm,hb,hf,hled,hrise⟩))
 |none=>
  dsimp only
  have hx:x ∉ ns:=fun z=>by
   obtain ⟨e,he,hp⟩:=mem.mp (hpm.mem_iff.mpr z)
   have:=List.findIdx?_eq_none_iff.mp hr e he
   rw[hp] at this
   cases this
  rw[if_neg hx] at h
  have hgw:∀(b:Bool) {s₁:Shared}{Q':Unit→Shared→Prop},Q' () s₁→wpAny (model prog w) A (match b with|true=>rule "set.scan.the-table-gave-way" | false=>pure ()) Q' E s₁:=fun b s₁ Q' hq=>by cases b <;> first|exact zwp0 hq|exact wpAny_rule hq
  have hp1:=layNew_perm t es ((intKind prog w).hash x) (.int x tx)
  have hf1:=layNew_fits t es ((intKind prog w).hash x) (.int x tx)
  obtain ⟨hr1,hl1⟩:=yic es ((intKind prog w).hash x) (.int x tx) hrise
  generalize layNew t es ((intKind prog w).hash x) (.int x tx)=L at hp1 hf1 hr1 hl1 ⊢
  obtain ⟨es1,t1,wd,gave⟩:=L
  dsimp only at hp1 hf1 hr1 hl1 ⊢
  rw[Array.toList_push] at hp1
  have el1:AllI es1.toList:=AllI.perm (l:=es.toList++[((intKind prog w).hash x,.int x tx)]) (fun e he=>by
   rcases List.mem_append.mp he with z|z
   ·exact hel e z
   ·rw[List.mem_singleton.mp z];exact⟨x,tx,rfl⟩) hp1
  have pm1:(es1.toList.map kOf).Perm (ns++[x]):=(hp1.map kOf).trans (by rw[List.map_append];exact hpm.append_right _)
  have sz1:es1.size<scanBound:=by rw[← Array.length_toList,hp1.length_eq,List.length_append,Array.length_toList,hsz];exact hn
  refine zwb0 (hgw _ ?_)
  split
  ·refine zwb0 ?_
   rw[hashByValue_scannable 8 (x:=.int x tx) rfl]
   refine zwp0 ?_
   simp only[plainKind,↓reduceIte]
   refine yho (w:=w) (ns:=ns++[x]) ?_ ho hex hd ⟨el1,pm1,sz1,hf1,by rw[hl1];exact hled,hr1⟩ ?_
   ·intro b s₁ Q' hq;cases b <;> first|exact zwp0 hq|exact wpAny_rule hq
   ·intro h' sb S';dsimp only;exact zwp0 (h _ h' sb S')
  ·refine zwb0 (zwp0 ?_)
   simp only[↓reduceIte]
   refine yho (w:=w) (ns:=ns++[x]) ?_ ho hex hd ⟨el1,pm1,sz1,hf1,by rw[hl1];exact hled,hr1⟩ ?_
   ·intro b s₁ Q' hq;cases b <;> first|exact zwp0 hq|exact wpAny_rule hq
   ·intro h' sb S';dsimp only;exact zwp0 (h _ h' sb S')
def yqn (ns:List Int)(x:Int):List Int:=if x∈ns then ns else ns++[x]
theorem yuv (ns:List Int)(x:Int):(yqn ns x).length≤ns.length+1:=by
 unfold yqn;split
 ·omega
 ·rw[List.length_append];exact Nat.le_refl _
theorem yuw {ns:List Int}{x y:Int}:y∈yqn ns x↔y∈ns∨y=x:=by
 unfold yqn;split
 ·rename_i h;exact⟨.inl,fun z=>z.elim id fun e=>e ▸ h⟩
 ·rw[List.mem_append,List.mem_singleton]
theorem yqj {ns:List Int}(x:Int)(h:ns.Nodup):(yqn ns x).Nodup:=by
 unfold yqn;split
 ·exact h
 ·rename_i n
  exact List.nodup_append.mpr ⟨h,List.nodup_cons.mpr ⟨List.not_mem_nil,List.nodup_nil⟩,fun a ha b hb e=>n (by rw[← List.mem_singleton.mp hb,← e];exact ha)⟩
def ye2 (ns:List Int):List Int:=ns.foldl yqn []
theorem yg8:∀(ns acc:List Int),(ns.foldl yqn acc).length≤acc.length+ns.length
 |[],acc=>Nat.le_refl _
 |n::ns,acc=>Nat.le_trans (yg8 ns (yqn acc n)) (by have:=yuv acc n;rw[List.length_cons];omega)
theorem yjy:∀(ns acc:List Int) (y:Int),y∈ns.foldl yqn acc↔y∈acc∨y∈ns
 |[],acc,y=>⟨.inl,fun z=>z.elim id fun e=>nomatch e⟩
 |n::ns,acc,y=>by
  rw[List.foldl_cons,yjy ns (yqn acc n) y,yuw,List.mem_cons,or_assoc]
theorem yhh:∀(ns acc:List Int),acc.Nodup→(ns.foldl yqn acc).Nodup
 |[],acc,h=>h
 |n::ns,acc,h=>yhh ns _ (yqj n h)
abbrev yn8 (w:World):Obj:={ cls:=.type "set",dict:=none,data:=.set #[] 0 (.fresh 0 0 (!byT w)) }
theorem yym {h:Heap}{a:Addr}(e:h.get? a=some (yn8 w)):SetI w a [] h:=
 ⟨_,#[],0,_,e,⟨rfl,rfl,rfl⟩,rfl,fun e he=>by simp at he,by exact List.Perm.refl _,by decide,by rfl,rfl,fun i j hi=>by simp [SetTable.fresh] at hi⟩
theorem yux (a:Value){Q₁:Value→Shared→Prop}(h:Q₁ (.ref s.heap.objs.size) { s with heap:=s.heap.push (yn8 w) }) :
 codeAny (model prog w) A (.call (.builtin "set.__new__") ⟨[.type "set",a],[]⟩) (wants Q₁ E) s:=by
 refine codeAny_of_tree (show wpAny _ A.in1 (do checkBuiltinCall "set.__new__" ⟨[.type "set",a],[]⟩;again (.builtin "set.__new__" ⟨[.type "set",a],[]⟩)) _ _ s from ?_)
 refine zwb0 (wpAny_of_eq (F.newCall_set_1 a) (zwp0 ⟨plainId_quiet F.plain_set_new _,codeAny_builtin F.entry_set_new ?_⟩));rw[Around.under_plainId F.plain_set_new _]
 unfold Builtin.«set.__new__» Builtin.Frozenset.newClass;have hsub:=PySem.sub_set_self;obtain ⟨hp,g,d,tk,os⟩:=s
 dsimp only;wp_walk;refine wpAny_askSetting (zwp0 ?_);dsimp only;simp only[newObj]
 exact zwb0 (wpAny_alloc (zwp0 (zwp0 h)))
theorem yuy {I:Addr}{fp wr:List Addr}{G:Array GenState→Array GenState→Prop}{n:Nat}{P:Nat→Value→Prop}{St:Nat→Shared→Prop}{R:Result→Shared→Prop}(W:WalksS prog w A.in1 I fp wr G n P St)(S:Addr)(hSf:S ∉ fp){ns:List Int}(hn:ns.length=n)
 (hval:∀i v,P i v→∃t,v = .int (ns.getD i 0) t) (hb:n+1<scanBound):∀(k i:Nat) (s:Shared),n-i=k→i≤n→St i s→SetI w S (ye2 (ns.take i)) s.heap→
  (∀s',Moved (S::wr) G s s'→SetI w S (ye2 ns) s'.heap→R (.ok (.ret .none)) s')→codeAny (model prog w) A (.builtin "set.update.loop" ⟨[.ref S,.ref I],[]⟩) R s:=by
 have hSw:S ∉ wr:=fun h=>hSf (W.sub _ h)
 have hsub:∀b∈wr,b∈S::wr:=fun b hb=>List.mem_cons_of_mem _ hb
 intro k
 induction k with
 |zero=>
  intro i s hk hi hst hS hR;obtain rfl:i=n:=by omega
  refine codeAny_builtin PyProof.Rows.F.entry_set_update_loop ?_;rw[Around.under_plainId PyProof.Rows.F.plain_set_update_loop _]
  refine(show wpAny _ A.in1 (pyNext (.ref I) >>= _) _ _ s from zwb0 (W.done s _ _ hst fun s' hm=>?_))
  refine(show wpAny _ A.in1 (ret Value.none) _ _ s' from zwp0 (hR s' (hm.mono hsub) ?_))
  rw[← List.take_length (l:=ns),hn];exact hS.keep fun o e=>hm.heap S _ hSw e
 |succ k ih=>
  intro i s hk hi hst hS hR;have hlt:i<n:=by omega
  refine codeAny_builtin PyProof.Rows.F.entry_set_update_loop ?_;rw[Around.under_plainId PyProof.Rows.F.plain_set_update_loop _]
  refine(show wpAny _ A.in1 (pyNext (.ref I) >>= _) _ _ s from zwb0 (W.item i s _ _ hlt hst fun v s' hP hst' hm=>?_))
  obtain ⟨t,rfl⟩:=hval i v hP
  have hS':SetI w S (ye2 (ns.take i)) s'.heap:=hS.keep fun o e=>hm.heap S _ hSw e
  refine(show wpAny _ A.in1 (holding [Value.int (ns.getD i 0) t] (setAdd S (.int (ns.getD i 0) t)) >>= _) _ _ s' from zwb0 (wpAny_holding ?_))
  have hroom:(ye2 (ns.take i)).length+1<scanBound:=by have:=yg8 (ns.take i) [];rw[List.length_take] at this;unfold ye2;simp only[List.length_nil] at this;omega
  refine yuu hS' hroom fun b h' hsb hS2=>?_
  have e1:ns.take (i+1)=ns.take i++[ns.getD i 0]:=by
   rw[List.take_succ,List.getElem?_eq_getElem (by omega),Option.toList_some,List.getD_eq_getElem?_getD,List.getElem?_eq_getElem (by omega),Option.getD_some]
  have hSi:SetI w S (ye2 (ns.take (i+1))) h':=by rw[e1];unfold ye2;rw[List.foldl_append];exact hS2
  refine zwp0 ⟨plainId_quiet PyProof.Rows.F.plain_set_update_loop _,ih (i+1) _ (by omega) hlt (W.frame _ s' _ _ hst' (Nat.le_succ _) fun b hb o e=>?_) hSi fun s'' hm'' hS''=>?_⟩
  ·rw[hsb.2 b (fun z:b=S=>hSf (by rw[← z];exact hb))];exact e
  ·refine hR s'' (Moved.trans W.gtrans ((hm.mono hsub).then_heap (Nat.le_succ _) fun b o hb e=>?_) hm'') hS''
   rw[hsb.2 b (fun z:b=S=>hb (by rw[z];exact List.mem_cons_self))];exact e
theorem yuz {l:Addr}{items:Array Value}{ns:List Int}{Q:Value→Shared→Prop}(hh:A.handled=none)(hl:s.heap.IsList l items)(hi:PyProof.Rows.IntsAre items.toList ns)(hb:items.size+1<scanBound)
 (h:∀(h':Heap) (tk:Nat),SetI w s.heap.objs.size (ye2 ns) h'→(∀b o,b<s.heap.objs.size→s.heap.get? b=some o→h'.get? b=some o)→Q (.ref s.heap.objs.size) { s with heap:=h',toks:=tk }) :
 wpAny (model prog w) A (call (.type "set") [.ref l]) Q E s:=by
 obtain ⟨c,tl,hmro⟩:=F.called_set.mro;have hmade:=F.called_set.made;have hsub:=F.called_set.sub
 refine wpAny_call (codeAny_of_tree (show wpAny _ _ (callAny (.type "set") _) _ _ _ from zwp0 ⟨Code.quiet_builtin _ (by decide +kernel),codeAny_builtin F.entry_type_call ?_⟩))
 rw[Around.under_plain (weight_type_call_type "set" [.ref l] []) rfl];have h1:=F.called_set.notType;have h2:=F.called_set.canCreate;have hct:=F.typeCall_set_1 (.ref l)
 repeat (any_goals (first|assumption|wp_step))
 refine codeAny_mono (yux (.ref l) (E:=E) (Q₁:=fun obj s₁=>obj = .ref s.heap.objs.size∧s₁ = { s with heap:=s.heap.push (yn8 w) }) ⟨rfl,rfl⟩) fun r s₁ hr=>?_
 cases r with
 |error e=>exact hr
 |ok fl=>
  cases fl with
  |ret obj=>
   obtain ⟨rfl,rfl⟩:=hr
   have hS:(s.heap.push (yn8 w)).get? s.heap.objs.size=some (yn8 w):=Heap.get?_push_size _ rfl
   have hT:Shared.TypeIs { s with heap:=s.heap.push (yn8 w) } (.ref s.heap.objs.size) "set" := ⟨_,hS,rfl⟩
   have hli:=F.called_set.init.lookup;have hbi:=F.called_set.init.bind (.ref s.heap.objs.size)
   repeat (any_goals (first|assumption|wp_step))
   refine codeAny_mono (codeAny_call_builtin (R:=wants (fun r s₂=>r = .none∧∃h' tk,s₂ = { s with heap:=h',toks:=tk }∧SetI w s.heap.objs.size (ye2 ns) h'∧(∀b o,b<s.heap.objs.size→s.heap.get? b=some o→h'.get? b=some o)) E) F.called_set.init.plain F.entry_set_init (check_set_init_1 hT ?_)) fun r₂ s₂ hr₂=>?_
   ·obtain ⟨ol,hol,hcl,nl,hdl⟩:=hl
    obtain ⟨ocls,odict,odata,oslots⟩:=ol;simp only at hcl hdl;subst hcl;subst hdl
    have hol':(s.heap.push (yn8 w)).get? l=some { cls:=.type "list",dict:=odict,data:=.seq items nl,slots:=oslots }:=Heap.get?_push_of_some _ hol
    have hsls:=F.sub_list_set;have hslf:=F.sub_list_frozenset
    have hne:(Value.type "list" == Value.type "dict")=false:=by decide +kernel
    have hl1:(s.heap.push (yn8 w)).IsList l items:=⟨_,hol',rfl,nl,rfl⟩
    unfold Builtin.«set.__init__» noKeywords Builtin.Frozenset.updateFrom;generalize hPI:pyIter=PI
    wp_walk
    subst hPI
    refine wpAny_pyIter_list hl1 (zwb0 (wpAny_runValue ?_))
    have hlS:l<s.heap.objs.size:=Heap.lt_size hol;have hh3:A.in1.in1.in1.handled=none:=by simp [hh]
    have zS:(s.heap.push (yn8 w)).objs.size=s.heap.objs.size+1:=Heap.size_push ..
    have hneI:l≠(s.heap.push (yn8 w)).objs.size:=by rw[zS];exact Nat.ne_of_lt (Nat.lt_succ_of_lt hlS)
    have hSf:s.heap.objs.size ∉ [(s.heap.push (yn8 w)).objs.size,l]:=by
     rw[zS];simp only[List.mem_cons,List.not_mem_nil,or_false,not_or];exact⟨Nat.ne_of_lt (Nat.lt_succ_self _),Nat.ne_of_gt hlS⟩
    have hln:ns.length=items.size:=by have:=PyProof.Rows.IntsAre.length hi;rw[Array.length_toList] at this;omega
    have hval:∀(i:Nat) (v:Value),items[i]? = some v→∃t,v = .int (ns.getD i 0) t:=fun i v hv=>PyProof.Rows.IntsAre.int_at hi i v (by rw[Array.getElem?_toList];exact hv)
    refine yuy ((Walks.list hh3 _ l hneI items).toS) s.heap.objs.size hSf hln hval hb (items.size-0) 0 _ (by omega) (Nat.zero_le _) ⟨⟨_,Heap.get?_push_size _ rfl,rfl,rfl⟩,(hl1.push _)⟩ (yym (Heap.get?_push_of_some _ hS)) fun s' hm hS'=>?_
    obtain ⟨h',g',d',tk',os'⟩:=s'
    obtain rfl:g'=s.gens:=hm.gens
    obtain rfl:d'=s.drawn:=hm.drawn
    obtain rfl:os'=s.os:=hm.os
    refine(show wpAny _ _ _ _ _ _ from zwp0 (show wpAny _ _ (ret Value.none) _ _ _ from zwp0 ⟨rfl,h',tk',rfl,hS',fun b o hb e=>?_⟩))
    have hb1:b≠s.heap.objs.size:=Nat.ne_of_lt hb
    have hb2:b≠(s.heap.push (yn8 w)).objs.size:=by rw[zS];exact Nat.ne_of_lt (Nat.lt_succ_of_lt hb)
    exact hm.heap b o (by simp only[List.mem_cons,List.not_mem_nil,or_false,not_or];exact⟨hb1,hb2⟩) (Heap.get?_push_of_some _ (Heap.get?_push_of_some _ e))
   ·cases r₂ with
    |error e=>exact hr₂
    |ok fl₂=>
     cases fl₂ with
     |ret r=>obtain ⟨rfl,h',tk,rfl,hS',hk'⟩:=hr₂;(repeat (any_goals (first|assumption|wp_step)));exact h _ _ hS' hk'
     |_=>exact hr₂.elim
  |_=>exact hr.elim
end
section
variable {X:Cx}
def yzk (K:PySem.W.Frag)(w:World):List V→Hp→VK→Prop:=fun xs H Q=>∃(p:Addr) (ns:List Int),xs=[.ref p]∧SqL K H p (ns.map V.int)∧ns.length≤1000∧∀d H',H d=none→Same H H'→H' d=some (HS w d (ye2 ns))→Q (.ref d) H'
theorem ys7 (hc:X.calm=true):yft X (.type "set") (yzk X.K X.w):=by
 intro pins s σ H xs us Q I r h
 obtain ⟨p,ns,rfl,hq,hn,q⟩:=h
 obtain ⟨u,rfl,ru⟩:=r.one
 cases ru
 obtain ⟨its,r',pl,hz⟩:=I.list hq
 have ia:=yf1 r'
 refine yuz (w:=X.w) (items:=its.toArray) (ns:=ns) (show X.A.handled=none from I.ok.hd hc) pl.isList (by simpa using ia) (by rw[List.size_toArray,PyProof.Rows.IntsAre.length ia];unfold scanBound;omega) fun h' tk S' k=>?_
 exact⟨.ref s.heap.objs.size,_,I.laid (t':=tk) (fun b o e=>k b o (Heap.lt_size e) e) (Nat.le_refl _) (ywi S'),rfl,q _ _ (I.hok.fresh (Nat.le_refl _)) (yac (I.hok.fresh (Nat.le_refl _)) _) yaa⟩
end
end L2
namespace K16
open PySem L2
abbrev ygp:Stmt:=top 55
abbrev yqk:List Str:=["_law_script","_law_draw","_law_lots","_law_outs","_law_term","_law_more","_law_kept","_law_most_here","_law_due","_law_duty","_law_turn","_law_found","_law_paper"]
abbrev yyn:List Str:=["_law_script"]
theorem sc_law:FnScope yqk yyn (yab ygp):=⟨rfl,rfl,rfl,by decide +kernel,rfl,by decide +kernel,by decide +kernel⟩
def yu0 (K:PySem.W.Frag)(tb:Tbs):Sp:=fun vs H Q _=>∃(a:Addr) (ns:List Int),vs=[.ref a]∧Tb tb H∧SqL K H a (ns.map V.int)∧ns.length≤63∧∀H',Tb tb H'→Q (.bl true) H'
theorem yhi:∀{xs ys:List Int},xs.Pairwise (fun x y=>y<x)→ys.Pairwise (fun x y=>y<x)→(∀u,u∈xs↔u∈ys)→xs=ys
 |[],[],_,_,_=>rfl
 |[],y::ys,_,_,h=>absurd ((h y).mpr (.head _)) List.not_mem_nil
 |x::xs,[],_,_,h=>absurd ((h x).mp (.head _)) List.not_mem_nil
 |x::xs,y::ys,h1,h2,h=>by
  rw[List.pairwise_cons] at h1 h2
  have e:x=y:=by
   rcases List.mem_cons.mp ((h x).mp (.head _)) with z|z
   ·exact z
   ·rcases List.mem_cons.mp ((h y).mpr (.head _)) with z' | z'
    ·exact z'.symm
    ·have:=h1.1 y z';have:=h2.1 x z;omega
  subst e
  rw[yhi h1.2 h2.2 fun u=>⟨fun hu=>?_,fun hu=>?_⟩]
  ·rcases List.mem_cons.mp ((h u).mp (.tail _ hu)) with z|z
   ·have:=h1.1 u hu;omega
   ·exact z
  ·rcases List.mem_cons.mp ((h u).mpr (.tail _ hu)) with z|z
   ·have:=h2.1 u hu;omega
   ·exact z
def yyo (S:Addr→Prop)(H H':Hp):Prop:=∀b o,¬ S b→H b=some o→H' b=some o
theorem Rows.keepS {S:Addr→Prop}{H H':Hp}{a:Addr}{rs:List (List Int)}(h:Rows H a rs)(k:yyo S H H')(ha:¬ S a)(hs:∀b,S b→∃zs,H b=some (.lst zs)):Rows H' a rs:=by
 obtain ⟨ps,h1,h2,h3⟩:=h
 exact⟨ps,k _ _ ha h1,h2,fun i p r e1 e2=>k _ _ (fun z=>by obtain ⟨zs,e⟩:=hs _ z;rw[h3 i p r e1 e2] at e;cases e) (h3 i p r e1 e2)⟩
section
variable {P:Program}{w:World}{K:PySem.W.Frag}{mg:Str→Option Value}{base:Heap}{f:Addr}{fd:FuncData}{cl:Nat→Addr}{tb:Tbs} (B:Bn mg) (N_set:mg "set" = none)
 (G_begin:Cal P w K mg base CX0 1 "_law_begin" yhx (ym7 K)) (G_pick:Cal P w K mg base CX0 1 "_law_pick" yje yol) (G_case:Cal P w K mg base CX0 3 "_law_case" ylo yrq) (G_same:Cal P w K mg base CX0 3 "_law_same" yhf (yip 3))
 (G_bestL:Cal P w K mg base CX0 4 "_law_best" yiq (ynw tb)) (G_paper_so:Cal P w K mg base CX0 1 "_law_paper_so" ye1 yiv) (G_papers:Cal P w K mg base (CXE P w) 5 "papers" ygo (yky cl))
include B N_set G_begin G_pick G_case G_same G_bestL G_paper_so G_papers
theorem yyp (F:Fun K "law" "law" ygp f fd):FnOk P w K mg base CX0 6 f fd yyn (yu0 K tb):=by
 refine F.ok sc_law (fun vs H Q E h=>?_) (fun cdv A outer s H vs Q E hr h=>?_)
 ·obtain ⟨a,ns,rfl,_⟩:=h;rfl
 obtain ⟨a0,ns,rfl,hTb,hS,hlen,q⟩:=h
 refine⟨_,(yaf (yat (i:=1) sc_law.nd rfl (Or.inl rfl) (yar G_begin hr rfl ybe (yam (pv 0) yae)))
  (yaf (yc7 (yar G_case hr rfl ybe (yam (pv 1) (yam yag yae))) (ybl rfl (yah (yai (i:=2) sc_law.nd rfl (Or.inr rfl)) (yah (yai (i:=3) sc_law.nd rfl (Or.inl rfl)) (yah (yai (i:=4) sc_law.nd rfl (Or.inl rfl)) ya4)))))
  (yaf (yeg (ya5 ym2 (yar G_pick hr rfl ybe (yam (pv 1) (yam yag yae))) yag (yba _)) (yaf (yat (i:=5) sc_law.nd rfl (Or.inl rfl) (yar G_case hr rfl ybe (yam (pv 1) (yam yag yae))))
   (yaf (yat (i:=2) sc_law.nd rfl (Or.inr rfl) (yc2 (N':=["_law_day","_law_count","_law_duty"]) (ix:=[none,none,none]) (g:=(yob K 3 (ycc (ybi 0) (ycc (ybi 1) (ycc (ybi 2) yoa))))) (ti:=ylj) (te:=(yw3 (ycp (ybv 0) (ycp (ybv 1) (ycp (tOp (rI0 fun i j=>.int (i+j)) (tC (.int 1)) (tOp (rI (fun _ j=>0<j) fun i j=>.int (i % j)) (ybv 2) (tC (.int 3)))) ypk))))) rfl (yax (N:=yqk) (D:=yab ygp) (by decide +kernel)) (ya8 (ye3 ygt (ybb yi9 (pv 2) (ya3 ybg (pv 5) yag (fun _ _=>rfl))) yfz (yf0 yag))) (fun C s H fp=>(ybl rfl (yah (yai (i:=0) (show (["_law_day","_law_count","_law_duty"]:List Str).Nodup by decide +kernel) rfl (Or.inl rfl)) (yah (yai (i:=1) (show (["_law_day","_law_count","_law_duty"]:List Str).Nodup by decide +kernel) rfl (Or.inl rfl)) (yah (yai (i:=2) (show (["_law_day","_law_count","_law_duty"]:List Str).Nodup by decide +kernel) rfl (Or.inl rfl)) ya4))))) (fun C s H fp=>ycn) (fun C s H fp=>(ybf (yam (pv 0) (yam (pv 1) (yam (ybb yb3 yag (ybb yk7 (pv 2) yag)) yae)))))))
   (yak (yat (i:=3) sc_law.nd rfl (Or.inl rfl) (ye3 ygt (ybb yi9 (pv 3) (ya3 ybg (pv 5) yag (fun _ _=>rfl))) yfz (yf0 yag)))))) ybr)
  (yaf (yat (i:=6) sc_law.nd rfl (Or.inl rfl) (ybf (yam (ycg yei rfl B.list PyProof.Rows.boot_list (yam (pv 2) yae)) (yam (ycg yei rfl B.list PyProof.Rows.boot_list (yam (pv 3) yae)) yae))))
  (yaf (yat (i:=7) sc_law.nd rfl (Or.inr rfl) (yar G_bestL hr rfl ybe (yam (pv 2) (yam (pv 3) (yam (pv 4) yae)))))
  (yaf (yat (i:=8) sc_law.nd rfl (Or.inl rfl) (yd5 yae))
  (yaf (yd0 PassesOwn.never rfl (ya8 (yvg (yao (yg0 rfl) rfl B.sorted PyProof.Rows.boot_sorted (yam (ycg (ys7 rfl) rfl N_set PyProof.Rows.boot_set (yam (yc2 (N':=["_law_lot"]) (ix:=[none]) (g:=(ybi 0)) (ti:=ylj) (te:=(tOp (yq9 K) (ybv 0) (tC (.int 2)))) rfl (yax (N:=yqk) (D:=yab ygp) (by decide +kernel)) (ya8 (pv 2)) (fun C s H fp=>(yai (i:=0) (show (["_law_lot"]:List Str).Nodup by decide +kernel) rfl (Or.inl rfl))) (fun C s H fp=>ycn) (fun C s H fp=>(ya3 ybg (pv 0) yag (fun _ _=>rfl)))) yae)) yae)) yx1)) (yai (i:=9) sc_law.nd rfl (Or.inr rfl)) (yak (yb6 (ym3 PySem.F.plainAttrs_list PySem.F.slot_list_append PySem.F.type_list_append yc0 (pv 8) (yam (ybf (yam (pv 9) (yam (yao (yen rfl) rfl B.sum PyProof.Rows.boot_sum (yam (yc2 (N':=["_law_at","_law_duty","_law_lots","_law_most_here"]) (ix:=[none,some 9,some 2,some 7]) (g:=(ybi 0)) (ti:=(ygs (tOp (rI0 fun i j=>.bl (decide (j≤i))) (tOp (yq9 K) (tOp (yw4 K) (ybv 2) (ybv 0)) (tC (.int 2))) (ybv 1)))) (te:=(tOp (yw4 K) (ybv 3) (ybv 0))) rfl (yax (N:=yqk) (D:=yab ygp) (by decide +kernel)) (yf6 rfl B.range (yam (yao ybm rfl B.len PySem.boot_len (yam (pv 2) yae)) yae)) (fun C s H fp=>(yai (i:=0) (show (["_law_at","_law_duty","_law_lots","_law_most_here"]:List Str).Nodup by decide +kernel) rfl (Or.inl rfl))) (fun C s H fp=>(yd2 (ya5 ypi (ya3 ybg (ya3 ya0 (pv 2) (pv 0) (fun _ _=>rfl)) yag (fun _ _=>rfl)) (pv 1) (yba _)))) (fun C s H fp=>(ya3 ya0 (pv 3) (pv 0) (fun _ _=>rfl)))) yae)) yae))) yae)))))
  (yaf (yd0 PassesOwn.never rfl (yf6 rfl B.range (yam yag yae)) (yai (i:=10) sc_law.nd rfl (Or.inl rfl)) (yaf (yat (i:=11) sc_law.nd rfl (Or.inl rfl) (yar G_papers hr rfl yzb (yam (pv 2) (yam (pv 3) (yam (pv 4) yae)))))
   (yaf (yeg (PW.pt (ypg (ye7 (ydq (yao yb4 rfl B.isi PyProof.Rows.boot_isinstance (yam (pv 11) (yam (yb1 rfl B.list PyProof.Rows.boot_list (v:=.ty "list") rfl) yae))) (fun _=>rfl))) (yk4 (ye7 (ydq (yar G_same hr rfl ybe (yam (yc2 (N':=["_law_paper"]) (ix:=[none]) (g:=(ybi 0)) (ti:=ylj) (te:=(tSl (yzp K) (ybv 0) yq6 (yxh (tC (.int 2))))) rfl (yax (N:=yqk) (D:=yab ygp) (by decide +kernel)) (ya8 (pv 11)) (fun C s H fp=>(yai (i:=0) (show (["_law_paper"]:List Str).Nodup by decide +kernel) rfl (Or.inl rfl))) (fun C s H fp=>ycn) (fun C s H fp=>(ye3 yxi (pv 0) yfz (yf0 yag)))) (yam (pv 8) yae))) (fun _=>rfl)))))) (yak (ya2 ym0)) ybr)
   (yaf (yd0 PassesOwn.never rfl (ya8 (pv 11)) (yai (i:=12) sc_law.nd rfl (Or.inl rfl)) (yaf (yeg (PW.pt (ypg (ye7 (ydq (yao yb4 rfl B.isi PyProof.Rows.boot_isinstance (yam (pv 12) (yam (yb1 rfl B.tuple PyProof.Rows.boot_tuple (v:=.ty "tuple") rfl) yae))) (fun _=>rfl))) (yk4 (ye7 (ydq (yao yb4 rfl B.isi PyProof.Rows.boot_isinstance (yam (ya3 ybg (pv 12) yag (fun _ _=>rfl)) (yam (yb1 rfl B.list PyProof.Rows.boot_list (v:=.ty "list") rfl) yae))) (fun _=>rfl)))))) (yak (ya2 ym0)) ybr)
    (yaf (yeg (ye7 (ydq (yao (yll rfl) rfl B.all PyProof.Rows.boot_all (yam (yc2 (N':=["_law_one"]) (ix:=[none]) (g:=(ybi 0)) (ti:=ylj) (te:=(tCB (yzr K) (ycp (ybv 0) (ycp (tC (.ty "tuple")) ypk)))) rfl (yax (N:=yqk) (D:=yab ygp) (by decide +kernel)) (ya8 (ya3 ybg (pv 12) yag (fun _ _=>rfl))) (fun C s H fp=>(yai (i:=0) (show (["_law_one"]:List Str).Nodup by decide +kernel) rfl (Or.inl rfl))) (fun C s H fp=>ycn) (fun C s H fp=>(yao yb4 rfl B.isi PyProof.Rows.boot_isinstance (yam (pv 0) (yam (yb1 rfl B.tuple PyProof.Rows.boot_tuple (v:=.ty "tuple") rfl) yae))))) yae)) (fun _=>rfl))) (yak (ya2 ym0)) ybr)
    (yaf (yeg (ye7 (ydq (yar G_paper_so hr rfl ybe (yam (pv 2) (yam (pv 3) (yam (pv 4) (yam (pv 12) yae))))) (fun _=>rfl))) (yak (ya2 ym0)) ybr)
    (yak (yb6 (yu7 PySem.F.plainAttrs_list PySem.F.slot_list_clear PySem.F.type_list_clear yog (ya3 ybg (pv 12) yag (fun _ _=>rfl)))))))))
   (yak (yb6 (yu7 PySem.F.plainAttrs_list PySem.F.slot_list_clear PySem.F.type_list_clear yog (pv 11))))))))
  (yak (ya2 (yfc (yxs hr.units) (ybf (yam (pv 2) (yam (pv 3) yae))) (pv 6) (yba _)))))))))))),?_⟩
 refine⟨_,rfl,a0,ns,rfl,hS,hlen,fun a c H1 ha hc s1 d1=>?_⟩
 have T1:=hTb.same s1
 clear hTb s1 hS
 refine⟨_,rfl,a,c,10,rfl,d1,by decide,by decide,fun t l o tm lo n sc ls os H2 hl ho nlo t0 t4 lo1 n6 h1000 sc0 sc1 hls hos lsn osn d2 kb2 R2l R2o ht=>?_⟩
 have T2:=T1.keep d1 kb2
 have g0:GoodC ls os tm:=⟨fun r hr=>(hls r hr).good lo1 h1000 sc1,fun r hr=>(hos r hr).good lo1 h1000 sc1,by omega,by omega,t0,t4⟩
 have nla:l≠a:=d1.ne hl
 have noa:o≠a:=d1.ne ho
 refine⟨t,_,rfl,SqT.of ht,rfl,_,_,rfl,_,_,rfl,_,_,rfl,rfl,?_⟩
 dsimp only
 refine ygw (fun σ H'=>∃l o o5 ls os,σ=[some (.ref a0),some (.ref a),some (.ref l),some (.ref o),some (.int tm),o5,none,none,none,none,none,none,none]∧Tb tb H'∧Rows H' l ls∧Rows H' o os∧GoodC ls os tm) (fun D' nx _=>?_) ?_
 ·refine⟨_,rfl,a,c,6,rfl,d2,by decide,by decide,fun y H3 y0 y1 d3 kb3=>⟨rfl,_,rfl,?_⟩⟩
  have T3:=T2.keep d2 kb3
  have L3:=R2l.keep nla d2 kb3
  have O3:=R2o.keep noa d2 kb3
  refine yxm (fun _=>?_) (fun _=>nx _ _ ⟨_,_,_,_,_,rfl,T3,L3,O3,g0⟩)
  refine⟨_,rfl,a,c,30,rfl,d3,by decide,by decide,fun qm lm om tmm lo' n' sc' lsm osm H4 hlm hom nlo' t0' t4' lo1' n6' h1000' sc0' sc1' hls' hos' lsn' osn' d4 kb4 R4 O4 e4=>?_⟩
  have T4:=T3.keep d3 kb4
  have L4:=L3.keep nla d3 kb4
  have O4':=O3.keep noa d3 kb4
  obtain ⟨x1,ex1,hx1⟩:=L4.tups
  obtain ⟨y1',ey1,hy1⟩:=O4'.tups
  obtain ⟨xm,exm,hxm⟩:=R4.tups
  obtain ⟨ym,eym,hym⟩:=O4.tups
  have gx1:=hx1.1
  have gy1:=hy1.1
  have gxm:=hxm.1
  have gym:=hym.1
  refine⟨_,rfl,_,rfl,qm,_,_,.ref lm,rfl,rfl,SqT.of e4,rfl,l,lm,_,_,rfl,rfl,ex1,exm,Nat.le_of_lt (yaq (by omega)),fun p1 hp1=>?_⟩
  have v1:=yac (H:=H4) hp1 (.lst (x1++xm))
  refine⟨_,rfl,p1,_,rfl,SqL.of yaa,fun p2 hp2=>?_⟩
  rw[ywx _ (show (0:Int)≤30 by decide)]
  have v2:=v1.trans (yac hp2 (.lst ((x1++xm).take (30:Int).toNat)))
  have E2:=yaa (H:=L2.upd H4 p1 (.lst (x1++xm))) (a:=p2) (o:=.lst ((x1++xm).take (30:Int).toNat))
  generalize L2.upd (L2.upd H4 p1 (.lst (x1++xm))) p2 (.lst ((x1++xm).take (30:Int).toNat))=H5 at *
  have X:=(((hx1.cat hxm).same v2).take (30:Int).toNat)
  have Xg:∀r∈(ls++lsm).take (30:Int).toNat,LotG r:=fun r hr=>by
   rcases List.mem_append.mp (List.mem_of_mem_take hr) with z|z
   ·exact g0.lg r z
   ·exact(hls' r z).good lo1' h1000' sc1'
  have Xl:((ls++lsm).take (30:Int).toNat).length≤30:=by rw[List.length_take];exact Nat.min_le_left _ _
  generalize (ls++lsm).take (30:Int).toNat=ls2 at *
  refine⟨p2,rfl,⟨_,SqL.of E2⟩,fun D hD=>?_⟩
  refine ysf (ywp fun u=>1+u % 3) hD E2 X (by omega) (fun i p r H6 er s6 hp K1 K2 k1=>?_) fun H6 s6 R6=>?_
  ·obtain ⟨dd,cc,uu,rfl,_⟩:=Xg r (List.mem_of_getElem? er)
   refine⟨p,_,rfl,SqT.of hp,rfl,_,_,rfl,_,_,rfl,_,_,rfl,rfl,yaw (yaw (yaw ya7 rfl) rfl) rfl,?_⟩
   refine⟨_,rfl,_,rfl,_,rfl,_,_,rfl,rfl,(by show (0:Int)<3;decide),_,_,rfl,rfl,by show 3≤sizeLine;decide,fun tt htt=>k1 tt htt⟩
  have S6:=v2.trans s6
  refine⟨_,rfl,_,rfl,qm,_,_,.ref om,rfl,rfl,SqT.of (S6 _ _ e4),rfl,o,om,_,_,rfl,rfl,S6 _ _ ey1,S6 _ _ eym,Nat.le_of_lt (yaq (by omega)),fun p3 hp3=>?_⟩
  have v3:=yac (H:=H6) hp3 (.lst (y1' ++ ym))
  refine⟨_,rfl,p3,_,rfl,SqL.of yaa,fun p4 hp4=>?_⟩
  rw[ywx _ (show (0:Int)≤30 by decide)]
  have v4:=v3.trans (yac hp4 (.lst ((y1' ++ ym).take (30:Int).toNat)))
  have Y:=(((hy1.cat hym).same (S6.trans v4)).take (30:Int).toNat)
  refine nx _ _ ⟨_,_,_,_,_,rfl,T4.same (S6.trans v4),R6.same v4,Y.rows yaa,⟨fun r hr=>?_,fun r hr=>?_,by rw[List.length_map];exact Xl,by rw[List.length_take];exact Nat.min_le_left _ _,t0,t4⟩⟩
  ·obtain ⟨r',hr',rfl⟩:=List.mem_map.mp hr
   obtain ⟨dd,cc,uu,rfl,w1,w2,w3,w4,w5,w6⟩:=Xg r' hr'
   exact⟨dd,cc,1+uu % 3,rfl,w1,w2,w3,w4,by omega,by omega⟩
  ·rcases List.mem_append.mp (List.mem_of_mem_take hr) with z|z
   ·exact g0.og r z
   ·exact(hos' r z).good lo1' h1000' sc1'
 clear T1 T2 d1 d2 kb2 R2l R2o ht g0 nla noa hl ho nlo hls hos lsn osn
 rintro σ H5 ⟨l,o,o5,ls,os,rfl,T5,L5,O5,g⟩
 obtain ⟨xs,ex,hx⟩:=L5.tups
 obtain ⟨ys,ey,hy⟩:=O5.tups
 have gn:=g.ln
 have go:=g.on
 have bn:=g.both
 have lx:=hx.1
 refine⟨_,rfl,l,_,rfl,.inl (SqL.of ex),fun cl' hcl=>?_⟩
 have s6:=yac (H:=H5) hcl (.lst xs)
 refine⟨_,rfl,o,_,rfl,.inl (SqL.of (s6 _ _ ey)),fun co hco=>⟨by show 2≤sizeLine;decide,fun kt hkt=>?_⟩⟩
 have s7:=s6.trans (yac hco (.lst ys))
 have s8:=s7.trans (yac hkt (.tup [.ref cl',.ref co]))
 have A8:=yac hkt (.tup [.ref cl',.ref co]) _ _ (yac hco (.lst ys) _ _ (yaa (H:=H5) (a:=cl') (o:=.lst xs)))
 have B8:=yac hkt (.tup [.ref cl',.ref co]) _ _ (yaa (H:=L2.upd H5 cl' (.lst xs)) (a:=co) (o:=.lst ys))
 have K8:=yaa (H:=L2.upd (L2.upd H5 cl' (.lst xs)) co (.lst ys)) (a:=kt) (o:=.tup [.ref cl',.ref co])
 have n1:l≠cl':=yaj ex hcl
 have n2:o≠co:=yaj (s6 _ _ ey) hco
 have ex8:=s8 _ _ ex
 have ey8:=s8 _ _ ey
 have hx8:=hx.same s8
 have hy8:=hy.same s8
 have T8:=T5.same s8
 generalize L2.upd (L2.upd (L2.upd H5 cl' (.lst xs)) co (.lst ys)) kt (.tup [.ref cl',.ref co])=H8 at *
 clear s6 s7 s8 hcl hco hkt ex ey hx hy T5 L5 O5
 refine⟨_,rfl,_,rfl,_,rfl,l,o,tm,ls,os,rfl,T8,hx8.rows ex8,hy8.rows ey8,g.ok,fun mt cs H9 hmt hb s9 I9=>?_⟩
 have lc:=hb.len
 have T9:=T8.same s9
 have ex9:=s9 _ _ ex8
 have hx9:=hx8.same s9
 refine⟨by show 0≤sizeLine;decide,fun du hdu=>?_⟩
 have s10:=yac (H:=H9) hdu (.lst [])
 have D10:=yaa (H:=H9) (a:=du) (o:=.lst [])
 have ex10:=s10 _ _ ex9
 have hx10:=hx9.same s10
 have I10:ybd (L2.upd H9 du (.lst [])) mt cs:=s10 _ _ I9
 have hdu8:H8 du=none:=s9.free hdu
 have S10:=s9.trans s10
 generalize L2.upd H9 du (.lst [])=H10 at *
 refine⟨_,rfl,l,rfl,⟨_,SqL.of ex10⟩,fun D hD=>?_⟩
 refine yf3 (fun i zs _=>zs=((ls.take i).map fun r=>r.getD 2 0).map V.int) hD ex10 (by omega) (fun i zs H H' h _=>h) rfl (fun i x zs H6 ei s6 hp K1 K2 k1 k2=>?_) fun zs H11 s11 hp lz hD11=>?_
 ·obtain ⟨p,r,rfl,er,hp'⟩:=hx10.at ei
  obtain ⟨dd,cc,uu,rfl⟩:=ync (g.h3 r (List.mem_of_getElem? er))
  refine⟨yaw ya7 rfl,?_⟩
  refine⟨_,rfl,p,_,_,.int uu,rfl,rfl,SqT.of (s6 _ _ hp'),rfl,k1 _ _ (Same.refl _) ?_⟩
  rw[hp,yaz er,List.map_append,List.map_append];rfl
 rw[show ls.take xs.length=ls by rw[lx,List.take_length]] at hp
 subst hp
 refine⟨D,_,rfl,SqL.of hD11,by rw[List.length_map];omega,fun st H11' hst sst est=>?_⟩
 have ll:=yg8 (ls.map fun r=>r.getD 2 0) []
 rw[List.length_map] at ll
 refine⟨st,_,rfl,est,by unfold ye2;simp only[List.length_nil] at ll;omega,fun sl ms hsl hpm hs=>?_⟩
 have v1:=s11.trans (sst.trans (yac hsl (.lst (ms.map V.int))))
 refine⟨sl,_,rfl,SqL.of yaa,fun rl hrl=>?_⟩
 rw[← List.map_reverse]
 have v2:=v1.trans (yac hrl (.lst (ms.reverse.map V.int)))
 have nrd:rl≠du:=(yaj (v1 _ _ D10) hrl).symm
 have hdt:ykx ls ms.reverse:=by
  refine⟨?_,fun u=>?_,?_⟩
  ·rw[List.pairwise_reverse]
   exact(hs.and (hpm.nodup_iff.mpr (yhh _ _ List.nodup_nil))).imp fun ⟨z1,z2⟩=>by omega
  ·rw[List.mem_reverse,hpm.mem_iff]
   unfold ye2
   rw[yjy,List.mem_map]
   exact⟨fun z=>z.elim (fun y=>nomatch y) id,.inr⟩
  ·rw[List.length_reverse,hpm.length_eq];unfold ye2;simp only[List.length_nil] at ll;omega
 have E11:=yaa (H:=L2.upd H11' sl (.lst (ms.map V.int))) (a:=rl) (o:=.lst (ms.reverse.map V.int))
 generalize L2.upd (L2.upd H11' sl (.lst (ms.map V.int))) rl (.lst (ms.reverse.map V.int))=H12 at *
 generalize ms.reverse=us at *
 clear hs hpm hsl hst hrl hD hD11 lz ll v1 s11 est sst
 have us30:us.length≤30:=by have:=hdt.2.2;omega
 have D12:=v2 _ _ D10
 have nud:H10 du=some (.lst []):=D10
 refine⟨rl,rfl,⟨_,SqL.of E11⟩,?_⟩
 have S12:=S10.trans v2
 have keep:∀{H':Hp},(∀b o,b≠du→H12 b=some o→H' b=some o)→Same H8 H':=fun k b o e=>k b o (fun z=>by rw[z,hdu8] at e;cases e) (S12 b o e)
 have ex12:=v2 _ _ ex10
 have hx12:=hx10.same v2
 have I12:ybd H12 mt cs:=v2 _ _ I10
 have nmd:mt≠du:=yaj I9 hdu
 have nld:l≠du:=yaj ex8 hdu8
 refine ydp (xs:=us.map V.int) (fun i σ H'=>∃o9 zs,σ=[some (.ref a0),some (.ref a),some (.ref l),some (.ref o),some (.int tm),o5,some (.ref kt),some (.ref mt),some (.ref du),o9,none,none,none]∧(∀b o,b≠du→H12 b=some o→H' b=some o)∧H' du=some (.lst zs)∧Tups H' zs ((us.take i).map fun u=>[u,ydk ls cs u])) ⟨_,[],rfl,fun b o _ e=>e,D12,Tups.nil⟩ ?_ ?_ ?_
 ·rintro j σ H' _ ⟨o9,zs,rfl,k,_,_⟩
  exact SqL.of (k _ _ nrd E11)
 ·rintro j x σ H13 ej ⟨o9,zs,rfl,k13,ez,hz⟩
  obtain ⟨u,rfl,eu⟩:=ydz ej
  have jl:=(List.getElem?_eq_some_iff.mp eu).1
  have zl:zs.length=j:=by rw[hz.1,List.length_map,List.length_take];omega
  have ex13:=k13 _ _ nld ex12
  have I13:=k13 _ _ nmd I12
  have hx13:=hx12.but (H':=H13) D12 k13
  refine⟨_,rfl,.inl ⟨rfl,_,SqL.of ez⟩,_,rfl,_,rfl,l,_,rfl,.inl (SqL.of ex13),_,rfl,by omega,by omega,fun D hD=>?_⟩
  refine ysz (n:=(xs.length:Int).toNat) (fun i zs=>zs=(((List.range i).filter fun i=>ybj u (ls.getD i [])).map fun i=>cs.getD i 0).map V.int) hD (by omega) rfl (fun i zs H6 hi s6 hz K1 K2 k1 k2=>?_) fun zs' H14 s14 hz' hD14=>?_
  ·subst hz
   have hi':i<xs.length:=by omega
   obtain ⟨pr,r,epr,er,hpr⟩:=(hx13.same s6).at (List.getElem?_eq_getElem hi')
   obtain ⟨dd,cc,uu,rfl⟩:=ync (g.h3 r (List.mem_of_getElem? er))
   have ev:cs[i]? = some (cs[i]'(by omega)):=List.getElem?_eq_getElem _
   have ft:=ymn (u:=u) er ev
   generalize cs[i]'(by omega)=v at *
   have eat:atI xs (0+(i:Int))=some (.ref pr):=yj6 (by omega) (by rw[show (0+(i:Int)).toNat=i by omega,List.getElem?_eq_getElem hi',epr])
   have eav:atI (cs.map V.int) (0+(i:Int))=some (.int v):=yj6 (by omega) (by rw[show (0+(i:Int)).toNat=i by omega,List.getElem?_map,ev];rfl)
   have eb:ybj u [dd,cc,uu]=decide (u≤uu):=rfl
   refine⟨yaw ya7 rfl,?_⟩
   refine⟨_,rfl,_,rfl,l,_,_,_,rfl,rfl,SqL.of (s6 _ _ ex13),eat,pr,_,_,.int uu,rfl,rfl,SqT.of hpr,rfl,_,rfl,_,_,rfl,rfl,_,rfl,?_⟩
   by_cases c1:u≤uu
   ·rw[decide_eq_true c1]
    refine yem ⟨_,rfl,_,rfl,mt,_,_,_,rfl,rfl,SqL.of (s6 _ _ I13),eav,k1 _ _ (Same.refl _) ?_⟩
    rw[ft,if_pos (by rw[eb,decide_eq_true c1]),List.map_append];rfl
   ·rw[decide_eq_false c1]
    exact ycd (k2 _ (Same.refl _) (by rw[ft,if_neg (by rw[eb,decide_eq_false c1];decide),List.append_nil]))
  subst hz'
  rw[show (xs.length:Int).toNat=ls.length by omega] at hD14
  refine⟨D,_,rfl,SqL.of hD14,by show 2≤sizeLine;decide,fun tq htq=>?_⟩
  have s15:=s14.trans (yac htq (.tup [.int u,.int (ydk ls cs u)]))
  have tq15:=yaa (H:=H14) (a:=tq) (o:=.tup [.int u,.int (ydk ls cs u)])
  refine⟨du,_,_,rfl,rfl,s15 _ _ ez,yaq (by omega),?_⟩
  refine⟨_,zs++[.ref tq],rfl,fun b o hb e=>by rw[yal hb];exact s15 _ _ (k13 _ _ hb e),yaa,?_⟩
  rw[yaz eu,List.map_append]
  exact((hz.same s15).cat (Tups.one (r:=[u,ydk ls cs u]) tq15)).but (s15 _ _ ez) fun b o hb e=>by rw[yal hb];exact e
 rintro σ H13 ⟨o9,zs,rfl,k13,ez,hz⟩
 rw[List.length_map,List.take_length] at hz
 have S13:=keep k13
 have DU:=hz.rows ez
 clear k13 ez hz zs keep E11 v2 D12 nrd S12 ex12 hx12 I12 s10 D10 ex10 hx10 I10 nud S10 ex9 hx9 s9 I9 nmd hdu hmt
 refine⟨2,rfl,by decide,by decide,yht (n:=2) (fun _ σ H'=>∃o10 o11 o12,σ=[some (.ref a0),some (.ref a),some (.ref l),some (.ref o),some (.int tm),o5,some (.ref kt),some (.ref mt),some (.ref du),o9,o10,o11,o12]∧Same H13 H') ⟨_,_,_,rfl,Same.refl _⟩ ?_ ?_⟩
 ·rintro ii σ H14 hii ⟨o10,o11,o12,rfl,s14⟩
  have S14:=S13.trans s14
  refine⟨_,rfl,_,rfl,_,rfl,l,o,tm,ls,os,rfl,(hx8.rows ex8).same S14,g.h3,(hy8.rows ey8).same S14,g.h2,fun n e=>(by rw[bn] at e;cases e),fun _ pl ps us' cs' H15 hpl hb' hu s15 ep hpx hpL=>?_⟩
  have ecs:=hb.same hb'
  subst ecs
  obtain rfl:us'=us:=yhi hu.1 hdt.1 fun u=>(hu.2.1 u).trans (hdt.2.1 u).symm
  have S15:=S14.trans s15
  dsimp only
  have pn:=hpx.1
  refine ygw (fun σ H'=>σ=[some (.ref a0),some (.ref a),some (.ref l),some (.ref o),some (.int tm),o5,some (.ref kt),some (.ref mt),some (.ref du),o9,some (.int (0+(ii:Int))),some (.ref pl),o12]∧Same H15 H') (fun D' nx _=>?_) ?_
  ·refine⟨_,rfl,_,_,_,_,true,rfl,rfl,TyOf.lst ep,by kernel_rfl,_,rfl,ycd ?_⟩
   refine⟨_,rfl,pl,rfl,⟨_,SqL.of ep⟩,fun D hD=>?_⟩
   refine yo8 (fun i zs H'=>Tups H' zs ((us'.take i).map fun u=>[u,ydk ls cs' u])) hD ep (by omega) (fun i zs H H' h nl hk=>h.keep fun p z e=>hk _ _ (fun y=>by subst y;rcases nl with n|⟨_,n⟩ <;> rw[n] at e <;> cases e) e) Tups.nil (fun i x zs H6 ei hz6 s6 hp K1 k1=>?_) fun zs H16 s16 hp lz hD16=>?_
   ·have il:i<us'.length:=by have:=(List.getElem?_eq_some_iff.mp ei).1;omega
    have eu:=List.getElem?_eq_getElem il
    obtain ⟨tt,tl,ds,rfl,htt,_⟩:=hpx.2 i x _ ei eu
    refine⟨yaw ya7 rfl,?_⟩
    refine⟨_,rfl,_,rfl,tt,_,rfl,SqT.of (s6 _ _ htt),(by show ¬ (HT.sIx 3 0 none=0∧HT.sIx 3 3 (some 2)=3);decide),fun p hp'=>k1 _ _ (yac hp' _) ?_⟩
    rw[yaz eu,List.map_append]
    exact(hp.same (yac hp' _)).cat (Tups.one (r:=[us'[i],ydk ls cs' us'[i]]) yaa)
   ·rw[pn,List.take_length] at hp
    refine⟨_,rfl,_,_,rfl,(EqD.rows (hp.rows hD16) (DU.same (s14.trans (s15.trans s16))) (by rw[List.length_map];omega) fun r hr=>?_).mono (by decide),fun H17 s17=>⟨_,rfl,ycd ?_⟩⟩
    ·obtain ⟨u,_,rfl⟩:=List.mem_map.mp hr
     show 2≤1000;decide
    exact nx _ _ ⟨rfl,s16.trans s17⟩
  ·rintro σ H16 ⟨rfl,s16⟩
   obtain ⟨Ls,Lnd,Ln,hL⟩:=hpL
   have lst:∀(j:Nat) b,Ls[j]? = some b→(∃zs,H16 b=some (.lst zs))∧H14 b=none∧b≠pl:=fun j b ej=>by
    have jl:j<ps.length:=by have:=(List.getElem?_eq_some_iff.mp ej).1;omega
    obtain ⟨tt,u,m,e1,e2,e3,_⟩:=hL j _ b (List.getElem?_eq_getElem jl) ej
    obtain ⟨tt',tl,ds,e1',htt,_,hR,hn,_⟩:=hpx.2 j _ _ (List.getElem?_eq_getElem jl) (List.getElem?_eq_getElem (by omega))
    rw[e1] at e1'
    cases e1'
    rw[e2] at htt
    cases htt
    obtain ⟨zs,ez,_⟩:=hR.tups
    exact⟨⟨zs,s16 _ _ ez⟩,hn,e3⟩
   have inL:∀(i:Nat) b,b∈Ls.take i→(∃zs,H16 b=some (.lst zs))∧H14 b=none∧b≠pl:=fun i b hb=>by
    obtain ⟨j,hj,rfl⟩:=List.getElem_of_mem (List.mem_of_mem_take hb)
    exact lst j _ (List.getElem?_eq_getElem hj)
   have ep16:=s16 _ _ ep
   have s1416:=s15.trans s16
   refine⟨_,rfl,pl,rfl,⟨_,SqL.of ep16⟩,?_⟩
   refine ydp (xs:=ps) (fun i σ H'=>∃o12,σ=[some (.ref a0),some (.ref a),some (.ref l),some (.ref o),some (.int tm),o5,some (.ref kt),some (.ref mt),some (.ref du),o9,some (.int (0+(ii:Int))),some (.ref pl),o12]∧yyo (·∈Ls.take i) H16 H') ⟨_,rfl,fun b o _ e=>e⟩ ?_ ?_ ?_
   ·rintro j σ H' _ ⟨o12,rfl,k⟩
    exact SqL.of (k _ _ (fun z=>(inL j _ z).2.2 rfl) ep16)
   ·rintro j x σ H17 ej ⟨o12,rfl,k17⟩
    have jl:j<ps.length:=(List.getElem?_eq_some_iff.mp ej).1
    have eu:=List.getElem?_eq_getElem (show j<us'.length by omega)
    obtain ⟨tt,tl,ds,rfl,htt,hds,hR,hn,_⟩:=hpx.2 j x _ ej eu
    generalize us'[j]'(by omega)=u at *
    have eL:=List.getElem?_eq_getElem (show j<Ls.length by omega)
    obtain ⟨tt',_,_,e1,e2,e3,_⟩:=hL j _ _ ej eL
    cases e1
    rw[htt] at e2
    obtain rfl:tl=Ls[j]'(by omega):=by injection e2 with e2;injection e2 with e2;injection e2 with _ e2;injection e2 with _ e2;injection e2 with e2 _;injection e2
    have nt:Ls[j]'(by omega) ∉ Ls.take j:=fun z=>by
     obtain ⟨k,hk,e⟩:=List.getElem_of_mem z
     have hk':k<j:=by rw[List.length_take] at hk;omega
     rw[List.getElem_take] at e
     exact List.pairwise_iff_getElem.mp Lnd k j (by omega) (by omega) hk' e
    have kT:∀{b:Addr}{z:List V},H16 b=some (.tup z)→H17 b=some (.tup z):=fun hb=>k17 _ _ (fun z=>by obtain ⟨⟨zs,e⟩,_⟩:=inL j _ z;rw[hb] at e;cases e) hb
    have S17:Same H14 H17:=fun b o e=>k17 b o (fun z=>by rw[(inL j _ z).2.1] at e;cases e) (s1416 b o e)
    have tt17:=kT (s16 _ _ htt)
    have R17:=Rows.keepS (hR.same s16) k17 nt fun b hb=>(inL j b hb).1
    obtain ⟨tr1,tr2,tr3⟩:=yqf (yan os tm) hds (fun r hr=>by
     obtain ⟨d,c,u,rfl,w1,w2,_⟩:=g.lg r (List.mem_filter.mp hr).1
     exact⟨w1,w2⟩)
    have tl:=yn6 hb t0 (fun r hr=>by obtain ⟨d,c,u,rfl,_,_,w3,_⟩:=g.lg r hr;show 0≤c;omega) (fun r hr=>by obtain ⟨d,c,rfl,_,_,w3,_⟩:=g.og r hr;show 0≤c;omega) (fun r hr=>by obtain ⟨d,c,u,rfl,w1,w2,_⟩:=g.lg r hr;exact⟨w1,w2⟩) u hds
    have dl:ds.length≤30:=Nat.le_trans hds.2.2 (Nat.le_trans (List.length_filter_le _ _) gn)
    generalize yc6 (ls.filter (ybj u)) (yan os tm) ds=ss at *
    obtain ⟨zs,ez,hz⟩:=R17.tups
    have zn:=hz.1
    dsimp only
    refine ygw (fun σ H'=>σ=[some (.ref a0),some (.ref a),some (.ref l),some (.ref o),some (.int tm),o5,some (.ref kt),some (.ref mt),some (.ref du),o9,some (.int (0+(ii:Int))),some (.ref pl),some (.ref tt)]∧Same H17 H') (fun D' nx _=>?_) ?_
    ·refine⟨_,rfl,_,_,_,_,true,rfl,rfl,TyOf.tup tt17,by kernel_rfl,_,rfl,ycd ?_⟩
     refine⟨_,rfl,tt,_,_,.ref (Ls[j]'(by omega)),rfl,rfl,SqT.of tt17,rfl,_,_,_,_,true,rfl,rfl,TyOf.lst ez,by kernel_rfl,_,rfl,ycd ?_⟩
     exact nx _ _ ⟨rfl,Same.refl _⟩
    rintro σ H18 ⟨rfl,s18⟩
    have tt18:=s18 _ _ tt17
    have ez18:=s18 _ _ ez
    refine ygw (fun σ H'=>σ=[some (.ref a0),some (.ref a),some (.ref l),some (.ref o),some (.int tm),o5,some (.ref kt),some (.ref mt),some (.ref du),o9,some (.int (0+(ii:Int))),some (.ref pl),some (.ref tt)]∧Same H18 H') (fun D' nx _=>?_) ?_
    ·refine⟨_,rfl,tt,_,_,.ref (Ls[j]'(by omega)),rfl,rfl,SqT.of tt18,rfl,Ls[j]'(by omega),rfl,⟨_,SqL.of ez18⟩,fun D hD=>?_⟩
     refine yf3 (fun i zs _=>zs=(List.replicate i true).map V.bl) hD ez18 (by omega) (fun i zs H H' h _=>h) rfl (fun i x zs H6 ex s6 hp K1 K2 k1 k2=>?_) fun zs' H19 s19 hp ln hz'=>?_
     ·obtain ⟨p,r,rfl,er,hpr⟩:=(hz.same (s18.trans s6)).at ex
      refine⟨yaw ya7 rfl,?_⟩
      refine⟨_,rfl,_,_,_,_,true,rfl,rfl,TyOf.tup hpr,by kernel_rfl,k1 _ _ (fun _ _ h=>h) ?_⟩
      rw[hp,List.replicate_succ',List.map_append];rfl
     subst hp
     refine⟨D,_,rfl,SqL.of hz',_,rfl,?_⟩
     have:(List.replicate zs.length true).all id=true:=by rw[List.all_eq_true];intro x hx;rw[List.eq_of_mem_replicate hx];rfl
     rw[this]
     exact ycd (nx _ _ ⟨rfl,s19⟩)
    rintro σ H19 ⟨rfl,s19⟩
    have S19:=S14.trans (S17.trans (s18.trans s19))
    have R19:=R17.same (s18.trans s19)
    refine ygw (fun σ H'=>σ=[some (.ref a0),some (.ref a),some (.ref l),some (.ref o),some (.int tm),o5,some (.ref kt),some (.ref mt),some (.ref du),o9,some (.int (0+(ii:Int))),some (.ref pl),some (.ref tt)]∧Same H19 H') (fun D' nx _=>?_) ?_
    ·refine⟨_,rfl,_,rfl,_,rfl,_,rfl,l,o,tt,Ls[j]'(by omega),tm,u,_,ls,os,ss,rfl,(hx8.rows ex8).same S19,g.h3,by omega,(hy8.rows ey8).same S19,g.h2,by omega,s19 _ _ tt18,R19,⟨tr1,tr2⟩,by omega,fun H20 s20=>⟨_,rfl,?_⟩⟩
     rw[tl,decide_eq_true rfl]
     exact ycd (nx _ _ ⟨rfl,s20⟩)
    rintro σ H20 ⟨rfl,s20⟩
    have s1720:=s18.trans (s19.trans s20)
    refine⟨_,rfl,tt,_,_,.ref (Ls[j]'(by omega)),rfl,rfl,SqT.of (s1720 _ _ tt17),rfl,.inl ⟨rfl,_,SqL.of (s1720 _ _ ez)⟩,_,_,rfl,rfl,s1720 _ _ ez,?_⟩
    refine⟨_,rfl,fun b o hb e=>?_⟩
    rw[yaz eL] at hb
    rw[yal (fun z=>hb (List.mem_append_right _ (by rw[z];exact List.mem_singleton.mpr rfl)))]
    exact s1720 _ _ (k17 b o (fun z=>hb (List.mem_append_left _ z)) e)
   ·rintro σ H17 ⟨o12,rfl,k17⟩
    have ep17:=k17 _ _ (fun z=>(inL _ _ z).2.2 rfl) ep16
    have S17:Same H14 H17:=fun b o e=>k17 b o (fun z=>by rw[(inL _ _ z).2.1] at e;cases e) (s1416 b o e)
    refine⟨_,rfl,.inl ⟨rfl,_,SqL.of ep17⟩,_,_,rfl,rfl,ep17,?_⟩
    exact⟨_,_,_,rfl,s14.trans (S17.young hpl)⟩
 ·rintro σ H14 ⟨o10,o11,o12,rfl,s14⟩
  have S14:=S13.trans s14
  refine⟨_,rfl,_,rfl,by show 2≤sizeLine;decide,fun tq htq=>?_⟩
  have S15:=S14.trans (yac (H:=H14) htq (.tup [.ref l,.ref o]))
  refine⟨_,rfl,tq,kt,_,_,rfl,rfl,SqT.of yaa,SqT.of (S15 _ _ K8),1,fun _=>true,by decide,fun j x y e1 e2=>?_,?_⟩
  ·match j,e1,e2 with
   |0,e1,e2=>cases e1;cases e2;exact(hx8.same S15).eqB (S15 _ _ ex8) (S15 _ _ A8) n1
   |1,e1,e2=>cases e1;cases e2;exact(hy8.same S15).eqB (S15 _ _ ey8) (S15 _ _ B8) n2
   |j+2,e1,e2=>cases e1
  exact q _ (T8.same S15)
end
end K16
namespace L2
open PySem PySem.Spec PySem.W PyProof.Rows
theorem ys8 {P:Program}{w:World}{K:PySem.W.Frag}{mg mb:Str→Option Value}{CX:CXT}{k:Nat}{fa a:Addr}{fd:FuncData}{x:Str}{sp:Sp}{s₁:Shared}{vs:List Value}{ns:List Int}{tb:Tbs}
 (KX:K.In s₁.heap) (hns:s₁.heap.Ns mainGlobals mg) (hb:s₁.heap.Ns builtinsNs mb) (hbb:∀x:Str,x ≠ "__name__" → mb x=bootBuiltins x) (hlim:s₁.heap.NoLimit) (hbm:yi4 mg s₁.heap) (hg:s₁.gens = #[])
 (ha:s₁.heap.get? a=some { cls:=.type "list",data:=.seq vs.toArray }) (hi:IntsAre vs ns) (hl:ns.length≤sizeLine) (hr:Room k callerA)
 (hnd:(tb.map (·.1)).Nodup) (htab:∀t∈tb,s₁.heap.get? t.1=some (tabObj #[])∧K.lookup t.1=none∧∃c,codeHdIn K c t.1=true)
 (F:∀base:Heap,K.In base→base.Ns mainGlobals mg→yi4 mg base→FnOk P w K mg base CX k fa fd [x] sp) (hbind:∀(s:Shared) (u:Value),BindsTo s fd ⟨[u],[]⟩ [(x,u)])
 (hsp:∀H:Hp,Tb tb H→SqL K H a (ns.map V.int)→sp [.ref a] H (fun v H'=>v = .bl true∧Tb tb H') fun _ _ _=>False)
 (hCX:∀H e s',CX [] H s₁ (fun _ _ _=>False) e s'→False) :
 codeAny (model P w) callerA (.call (.ref fa) ⟨[.ref a],[]⟩) (fun r s'=>r = .ok (.ret (.bool true))∧OldK s₁.heap s'.heap∧s'.os=s₁.os∧AllBare s'.gens) s₁:=by
 have rv:=ylg hi
 have lenV:=hi.length
 have core:∀H:Hp,(∀b u,H b=some u→(b=a∧∃o xs,u = .frz o (.lst xs))∨∃t∈tb,b=t.1∧u = .cod t.2.1 t.2.2)→Tb tb H→SqL K H a (ns.map V.int)→HOk P w H s₁.heap→(H a≠none→K.lookup a=none)→
  codeAny (model P w) callerA (.call (.ref fa) ⟨[.ref a],[]⟩) (fun r s'=>r = .ok (.ret (.bool true))∧OldK s₁.heap s'.heap∧s'.os=s₁.os∧AllBare s'.gens) s₁:=by
  intro H hO hT hS hok hK
  have base_of:∀{b:Addr}{o:Obj},s₁.heap.get? b=some o→H b=none→(ys9 s₁.heap H).get? b=some o:=fun e n=>yta e n
  have noA:∀{b:Addr}{o:Obj},s₁.heap.get? b=some o→o≠{ cls:=.type "list",data:=.seq vs.toArray }→o≠tabObj #[]→H b=none:=fun {b o} e d1 d2=>by
   cases q:H b with
   |none=>rfl
   |some u=>
    rcases hO b u q with ⟨e',_⟩ | ⟨t,ht,e',_⟩
    ·rw[e',ha] at e;exact absurd (Option.some.inj e).symm d1
    ·rw[e',(htab t ht).1] at e;exact absurd (Option.some.inj e).symm d2
  have nsK:∀{b:Addr}{m:Str→Option Value},s₁.heap.Ns b m→(ys9 s₁.heap H).Ns b m:=fun {b m} ⟨o,es,ep,e,d,r⟩=>⟨o,es,ep,base_of e (noA e (fun z=>by rw[z] at d;cases d) fun z=>by rw[z] at d;cases d),d,r⟩
  have hKb:K.In (ys9 s₁.heap H):=fun b o e=>base_of (KX b o e) (by
   cases q:H b with
   |none=>rfl
   |some u=>
    rcases hO b u q with ⟨e',_⟩ | ⟨t,ht,e',_⟩
    ·subst e'
     rw[hK (by rw[q];simp)] at e;cases e
    ·rw[e',(htab t ht).2.1] at e;cases e)
  have hM:Mod K mg (ys9 s₁.heap H):=⟨hKb,nsK hns,⟨mb,nsK hb,hbb⟩,let ⟨mc,h1,h2⟩:=hlim;⟨mc,nsK h1,h2⟩⟩
  have hBM:yi4 mg (ys9 s₁.heap H):=by
   obtain ⟨bm,ob,b1,b2,b3,b4,b5,b6⟩:=hbm
   exact⟨bm,ob,b1,b2,base_of b3 (noA b3 (fun z=>by rw[z] at b6;cases b6) fun z=>by rw[z] at b6;cases b6),b4,b5,b6⟩
  have e0:Env0 P w K mg (ys9 s₁.heap H) callerA [] s₁ H:=⟨rfl,hM,fun b o e=>yvo e,Nat.le_of_eq (yqq _ _),trivial,fun b hb=>absurd (show b∈([]:List Addr) from hb) (by simp),hok,.of_eq hg⟩
  refine codeAny_mono ((F _ hKb (nsK hns) hBM).run callerA [] s₁ H ⟨[.ref a],[]⟩ [.ref a] [.ref a] _ _ hr e0 (hbind s₁ (.ref a)) (.cons rfl .nil) (hsp H hT hS)) fun r s' h=>?_
  cases r with
  |error e=>exact(hCX H e s' h).elim
  |ok fl=>
   cases fl with
   |next=>exact False.elim h
   |brk=>exact False.elim h
   |cont=>exact False.elim h
   |ret u=>
    obtain ⟨v,H',os,bare,un,hok',r',q⟩:=h
    have q':v = .bl true∧Tb tb H':=q
    obtain ⟨rfl,hT'⟩:=q'
    obtain rfl:u=Value.bool true:=r'
    have old:∀b o,s₁.heap.get? b=some o→s'.heap.get? b=some o∨∃t∈tb,b=t.1:=fun b o e=>by
     cases q:H b with
     |none=>exact .inl (un.keep b o e q (by intro z;exact absurd (show b∈([]:List Addr) from z) (by simp)) (by simp))
     |some u=>
      rcases hO b u q with ⟨e',ob,xs,z⟩ | ⟨t,ht,e',_⟩
      ·subst z
       have z2:=un.frzs b ob _ q
       obtain ⟨e1,_⟩:=hok b _ q
       obtain ⟨e2,_⟩:=hok' b _ z2
       rw[e] at e1;cases e1
       exact .inl e2
      ·exact .inr ⟨t,ht,e'⟩
    refine⟨rfl,⟨fun b o e=>?_,fun b o e=>?_⟩,os,bare⟩
    ·rcases old b o e with z|⟨t,ht,rfl⟩
     ·exact .inl z
     ·obtain ⟨h1,_,c,hc⟩:=htab t ht
      rw[h1] at e;cases e
      have tt:s₁.heap.TableAt c t.1 #[]:=(codeHd_of_K KX hc).tab h1
      rcases (show ObjOk P w H' s'.heap t.1 (.cod t.2.1 t.2.2) from hok' _ _ (hT' t ht)) with z|⟨c',z,_⟩
      ·exact .inl z
      ·exact .inr (.inl ⟨tt.isCodeTable,rfl,#[],_,rfl,by rw[z];simp;rfl⟩)
    ·rcases old b o e with z|⟨t,ht,rfl⟩
     ·exact⟨o,z⟩
     ·rcases (show ObjOk P w H' s'.heap t.1 (.cod t.2.1 t.2.2) from hok' _ _ (hT' t ht)) with z|⟨c',z,_⟩
      ·exact⟨_,z⟩
      ·exact⟨_,z⟩
 have look:∀(l:Tbs) (b:Addr),(∃t∈l,t.1=b∧(l.find? fun t=>t.1 == b)=some t)∨((∀t∈l,t.1≠b)∧(l.find? fun t=>t.1 == b)=none):=fun l b=>by
  cases e:l.find? fun t=>t.1 == b with
  |none=>exact .inr ⟨fun t ht z=>by have:=List.find?_eq_none.mp e t ht;simp [z] at this,rfl⟩
  |some t=>exact .inl ⟨t,List.mem_of_find?_eq_some e,by simpa using List.find?_some e,rfl⟩
 have uniq:∀t∈tb,(tb.find? fun s=>s.1 == t.1)=some t:=fun t ht=>by
  rcases look tb t.1 with ⟨s,hs,e,f⟩ | ⟨n,_⟩
  ·rw[f]
   have:s=t:=by
    obtain ⟨i,hi,ei⟩:=List.getElem_of_mem hs
    obtain ⟨j,hj,ej⟩:=List.getElem_of_mem ht
    have h1:(tb.map (·.1))[i]'(by simpa using hi)=(tb.map (·.1))[j]'(by simpa using hj):=by simp [ei,ej,e]
    have:=(List.getElem_inj hnd).mp h1
    subst this
    rw[← ei,← ej]
   rw[this]
  ·exact absurd rfl (n t ht)
 have nat:∀t∈tb,t.1≠a:=fun t ht z=>by
  have:=(htab t ht).1
  rw[z,ha] at this;cases this
 cases hk:K.lookup a with
 |some o=>
  have e:=KX a o hk
  rw[ha] at e
  cases e
  refine core (fun b=>(tb.find? fun t=>t.1 == b).map fun t=>.cod t.2.1 t.2.2) (fun b u h=>?_) (fun t ht=>by show (tb.find? fun s=>s.1 == t.1).map _=_;rw[uniq t ht];rfl) (.inr ⟨_,vs.toArray,_,hk,rfl,rfl,rfl,by rw[List.size_toArray,lenV];exact hl,by simpa using rv⟩) (fun b u h=>?_) fun z=>?_
  ·rcases look tb b with ⟨t,ht,e,f⟩ | ⟨_,f⟩
   ·have h':(tb.find? fun t=>t.1 == b).map (fun t=>HO.cod t.2.1 t.2.2)=some u:=h
    rw[f] at h';cases h'
    exact .inr ⟨t,ht,e.symm,rfl⟩
   ·have h':(tb.find? fun t=>t.1 == b).map (fun t=>HO.cod t.2.1 t.2.2)=some u:=h
    rw[f] at h';cases h'
  ·rcases look tb b with ⟨t,ht,e,f⟩ | ⟨_,f⟩
   ·have h':(tb.find? fun t=>t.1 == b).map (fun t=>HO.cod t.2.1 t.2.2)=some u:=h
    rw[f] at h';cases h'
    exact .inl (by rw[← e];exact(htab t ht).1)
   ·have h':(tb.find? fun t=>t.1 == b).map (fun t=>HO.cod t.2.1 t.2.2)=some u:=h
    rw[f] at h';cases h'
  ·rcases look tb a with ⟨t,ht,e,_⟩ | ⟨_,f⟩
   ·exact absurd e (nat t ht)
   ·exact absurd (show (tb.find? fun t=>t.1 == a).map (fun t=>HO.cod t.2.1 t.2.2)=none by rw[f];rfl) z
 |none=>
  refine core (fun b=>if b=a then some (.frz { cls:=.type "list",data:=.seq vs.toArray } (.lst (ns.map V.int))) else (tb.find? fun t=>t.1 == b).map fun t=>.cod t.2.1 t.2.2) (fun b u h=>?_) (fun t ht=>?_) (.inl (.inr ⟨{ cls:=.type "list",data:=.seq vs.toArray },if_pos rfl⟩)) (fun b u h=>?_) fun _=>hk
  ·by_cases hb:b=a
   ·have h':=(if_pos hb).symm.trans h
    cases h'
    exact .inl ⟨hb,_,_,rfl⟩
   ·have h':(tb.find? fun t=>t.1 == b).map (fun t=>HO.cod t.2.1 t.2.2)=some u:=(if_neg hb).symm.trans h
    rcases look tb b with ⟨t,ht,e,f⟩ | ⟨_,f⟩
    ·rw[f] at h';cases h'
     exact .inr ⟨t,ht,e.symm,rfl⟩
    ·rw[f] at h';cases h'
  ·show (if t.1=a then _ else (tb.find? fun s=>s.1 == t.1).map _)=_
   rw[if_neg (nat t ht),uniq t ht];rfl
  ·by_cases hb:b=a
   ·have h':=(if_pos hb).symm.trans h
    cases h'
    subst hb
    exact⟨ha,by rw[List.length_map];exact hl,vs,_,rv,ha⟩
   ·have h':(tb.find? fun t=>t.1 == b).map (fun t=>HO.cod t.2.1 t.2.2)=some u:=(if_neg hb).symm.trans h
    rcases look tb b with ⟨t,ht,e,f⟩ | ⟨_,f⟩
    ·rw[f] at h';cases h'
     exact .inl (by rw[← e];exact(htab t ht).1)
    ·rw[f] at h';cases h'
theorem walk_tab {l:PySem.W.OpenLaw}{n k:Nat}{q:Program}{loose:List Str}{XP:(Str→Option Value)→Heap→Prop}{YP:World→Heap→Prop}{d:DefRec}{K:Params→PySem.W.Frag}{ts:List Addr}{x:Str}{sp:PySem.W.Frag→Tbs→Sp}
 (hn:l.most=some n) (hn2:n≤sizeLine) (hdf:d.params.defaults=[]) (hr:Room k callerA)
 (hY:∀(w:World) (h:Heap),YP w h→(K w.params).In h∧∀P∈ts,h.get? P=some (tabObj #[]))
 (F:∀(w:World) (mg:Str→Option Value) (fa:Addr) (h:Heap),(K w.params).In h→h.Ns mainGlobals mg→mg d.name=some (.ref fa)→
  ∃(fd:FuncData) (tb:Tbs),((tb.map (·.1)).Nodup∧∀t∈tb,t.1∈ts∧(K w.params).lookup t.1=none∧∃c,codeHdIn (K w.params) c t.1=true)∧(∀(s:Shared) (u:Value),BindsTo s fd ⟨[u],[]⟩ [(x,u)])∧
   ∀base:Heap,(K w.params).In base→base.Ns mainGlobals mg→yi4 mg base→FnOk l.prog w (K w.params) mg base CX0 k fa fd [x] (sp (K w.params) tb))
 (hsp:∀(K:PySem.W.Frag) (tb:Tbs) (H:Hp) (a:Addr) (ns:List Int),ns.length≤n→Tb tb H→SqL K H a (ns.map V.int)→sp K tb [.ref a] H (fun v H'=>v = .bl true∧Tb tb H') fun _ _ _=>False) :
 PySem.W.WalkO q loose XP YP l.row.toRowW d [] (fun f vs=>PySem.call f vs):=by
 refine Att.attach_call hn hdf fun w s₀ s₁ mg mb fa o pm cd doc a vs ns G Y ho hd hcd hmg hobj hints hlen hg=>?_
 obtain ⟨KX,TX⟩:=hY w _ Y
 obtain ⟨fd,tb,⟨hnd,htb⟩,hb,hF⟩:=F w mg fa _ KX G.T.g hmg
 exact ys8 KX G.T.g G.T.b G.T.builtins G.T.nolimit G.T.bmain hg hobj hints (Nat.le_trans hlen hn2) hr hnd (fun t ht=>⟨TX _ (htb t ht).1,(htb t ht).2⟩) hF hb (fun H hT hS=>hsp (K w.params) tb H a ns hlen hT hS) fun H e s' h=>h
end L2
namespace K16
open PySem L2
def clF (c_0 c_1 c_2 c_3 c_4 c_5:Addr):Nat→Addr
 |0=>c_0
 |1=>c_1
 |2=>c_2
 |3=>c_3
 |4=>c_4
 |5=>c_5
 |_=>c_0
theorem all_mk {l:W.OpenLaw}{w:World}{K:W.Frag}{h:Heap}{mg:Str→Option Value}{fa f0 f1 f2 f3 f4 f5 f6 f7 f8 f9 f10 f11 f12 f13 f14 f15 f16 f17 f18 f19 f20 f21 f22 f23 f24 f25 f26 f27 f28 f29 f30 f31 f32 f33 f34 f35 f36 c_0 c_1 c_2 c_3 c_4 c_5 cc29 PP29 cc30 PP30:Addr}{u_FIRST_DAY u_LAST_DAY u_MOST_TERM u_MOST_ROWS u_MOST_COUNT u_MOST_DUTY:Tok} (X:K.In h) (G:h.Ns mainGlobals mg) (hfa:mg "law" = some (.ref fa)) {ts:List Addr}
 {d0 e0 d1 e1 d2 e2 d3 e3 d4 e4 d5 e5 d6 e6 d7 e7 d8 e8 d9 e9 d10 e10 d11 e11 d12 e12 d13 e13 d14 e14 d15 e15 d16 e16 d17 e17 d18 e18 d19 e19 d20 e20 d21 e21 d22 e22 d23 e23 d24 e24 d25 e25 d26 e26 d27 e27 d28 e28 d29 e29 d30 e30 d31 e31 d32 e32 d33 e33 d34 e34 d35 e35 d36 e36 to29 to30:Option Addr}{g0 g1 g2 g3 g4 g5 g6 g7 g8 g9 g10 g11 g12 g13 g14 g15 g16 g17 g18 g19 g20 g21 g22 g23 g24 g25 g26 g27 g28 g29 g30 g31 g32 g33 g34 g35 g36 ts29 ts30:Array (Option Value)}{tv29 tv30:Array Value}{tc29 tc30:Value}{i0 j0 n0 p0 r0 s0 i1 j1 n1 p1 r1 s1 i2 j2 n2 p2 r2 s2 i3 j3 n3 p3 r3 s3 i4 j4 n4 p4 r4 s4 i5 j5 n5 p5 r5 s5 i6 j6 n6 p6 r6 s6 i7 j7 n7 p7 r7 s7 i8 j8 n8 p8 r8 s8 i9 j9 n9 p9 r9 s9 i10 j10 n10 p10 r10 s10 i11 j11 n11 p11 r11 s11 i12 j12 n12 p12 r12 s12 i13 j13 n13 p13 r13 s13 i14 j14 n14 p14 r14 s14 i15 j15 n15 p15 r15 s15 i16 j16 n16 p16 r16 s16 i17 j17 n17 p17 r17 s17 i18 j18 n18 p18 r18 s18 i19 j19 n19 p19 r19 s19 i20 j20 n20 p20 r20 s20 i21 j21 n21 p21 r21 s21 i22 j22 n22 p22 r22 s22 i23 j23 n23 p23 r23 s23 i24 j24 n24 p24 r24 s24 i25 j25 n25 p25 r25 s25 i26 j26 n26 p26 r26 s26 i27 j27 n27 p27 r27 s27 i28 j28 n28 p28 r28 s28 i29 j29 n29 p29 s29 i30 j30 n30 p30 s30 i31 j31 n31 p31 r31 s31 i32 j32 n32 p32 r32 s32 i33 j33 n33 p33 r33 s33 i34 j34 n34 p34 r34 s34 i35 j35 n35 p35 r35 s35 i36 j36 n36 p36 r36 s36:Value}
 (a0:W.nsIn K mainGlobals "is_day" = some (some (.ref f0)))
 (l0:K.lookup f0=some ⟨i0,d0,.func (W.fnOf "is_day" "is_day" (yas yfp) (yap yfp) (yab yfp) .none j0 n0 p0 e0 r0 s0),g0⟩)
 (c0:W.codeIn K r0 "is_day" = true)
 (k0:W.keepIn K (.ref f0)=true)
 (a1:W.nsIn K mainGlobals "check_day" = some (some (.ref f1)))
 (l1:K.lookup f1=some ⟨i1,d1,.func (W.fnOf "check_day" "check_day" (yas ydf) (yap ydf) (yab ydf) .none j1 n1 p1 e1 r1 s1),g1⟩)
 (c1:W.codeIn K r1 "check_day" = true)
 (k1:W.keepIn K (.ref f1)=true)
 (a2:W.nsIn K mainGlobals "check_term" = some (some (.ref f2)))
 (l2:K.lookup f2=some ⟨i2,d2,.func (W.fnOf "check_term" "check_term" (yas yct) (yap yct) (yab yct) .none j2 n2 p2 e2 r2 s2),g2⟩)
 (c2:W.codeIn K r2 "check_term" = true)
 (k2:W.keepIn K (.ref f2)=true)
 (a3:W.nsIn K mainGlobals "check_many" = some (some (.ref f3)))
 (l3:K.lookup f3=some ⟨i3,d3,.func (W.fnOf "check_many" "check_many" (yas ycu) (yap ycu) (yab ycu) .none j3 n3 p3 e3 r3 s3),g3⟩)
 (c3:W.codeIn K r3 "check_many" = true)
 (k3:W.keepIn K (.ref f3)=true)
 (a4:W.nsIn K mainGlobals "check_count" = some (some (.ref f4)))
 (l4:K.lookup f4=some ⟨i4,d4,.func (W.fnOf "check_count" "check_count" (yas yb8) (yap yb8) (yab yb8) .none j4 n4 p4 e4 r4 s4),g4⟩)
 (c4:W.codeIn K r4 "check_count" = true)
 (k4:W.keepIn K (.ref f4)=true)
 (a5:W.nsIn K mainGlobals "check_duty" = some (some (.ref f5)))
 (l5:K.lookup f5=some ⟨i5,d5,.func (W.fnOf "check_duty" "check_duty" (yas ycw) (yap ycw) (yab ycw) .none j5 n5 p5 e5 r5 s5),g5⟩)
 (c5:W.codeIn K r5 "check_duty" = true)
 (k5:W.keepIn K (.ref f5)=true)
 (a6:W.nsIn K mainGlobals "checked_lots" = some (some (.ref f6)))
 (l6:K.lookup f6=some ⟨i6,d6,.func (W.fnOf "checked_lots" "checked_lots" (yas ybw) (yap ybw) (yab ybw) .none j6 n6 p6 e6 r6 s6),g6⟩)
 (c6:W.codeIn K r6 "checked_lots" = true)
 (k6:W.keepIn K (.ref f6)=true)
 (a7:W.nsIn K mainGlobals "checked_outs" = some (some (.ref f7)))
 (l7:K.lookup f7=some ⟨i7,d7,.func (W.fnOf "checked_outs" "checked_outs" (yas ybx) (yap ybx) (yab ybx) .none j7 n7 p7 e7 r7 s7),g7⟩)
 (c7:W.codeIn K r7 "checked_outs" = true)
 (k7:W.keepIn K (.ref f7)=true)
 (a8:W.nsIn K mainGlobals "checked_both" = some (some (.ref f8)))
 (l8:K.lookup f8=some ⟨i8,d8,.func (W.fnOf "checked_both" "checked_both" (yas yby) (yap yby) (yab yby) .none j8 n8 p8 e8 r8 s8),g8⟩)
 (c8:W.codeIn K r8 "checked_both" = true)
 (k8:W.keepIn K (.ref f8)=true)
 (a9:W.nsIn K mainGlobals "dearest" = some (some (.ref f9)))
 (l9:K.lookup f9=some ⟨i9,d9,.func (W.fnOf "dearest" "dearest" (yas ydw) (yap ydw) (yab ydw) .none j9 n9 p9 e9 r9 s9),g9⟩)
 (c9:W.codeIn K r9 "dearest" = true)
 (k9:W.keepIn K (.ref f9)=true)
 (a10:W.nsIn K mainGlobals "going" = some (some (.ref f10)))
 (l10:K.lookup f10=some ⟨i10,d10,.func (W.fnOf "going" "going" (yas yf2) (yap yf2) (yab yf2) .none j10 n10 p10 e10 r10 s10),g10⟩)
 (c10:W.codeIn K r10 "going" = true)
 (k10:W.keepIn K (.ref f10)=true)
 (a11:W.nsIn K mainGlobals "days_of" = some (some (.ref f11)))
 (l11:K.lookup f11=some ⟨i11,d11,.func (W.fnOf "days_of" "days_of" (yas yeb) (yap yeb) (yab yeb) .none j11 n11 p11 e11 r11 s11),g11⟩)
 (c11:W.codeIn K r11 "days_of" = true)
 (k11:W.keepIn K (.ref f11)=true)
 (a12:W.nsIn K mainGlobals "stretches_of" = some (some (.ref f12)))
 (l12:K.lookup f12=some ⟨i12,d12,.func (W.fnOf "stretches_of" "stretches_of" (yas ybn) (yap ybn) (yab ybn) .none j12 n12 p12 e12 r12 s12),g12⟩)
 (c12:W.codeIn K r12 "stretches_of" = true)
 (k12:W.keepIn K (.ref f12)=true)
 (a13:W.nsIn K mainGlobals "against_each" = some (some (.ref f13)))
 (l13:K.lookup f13=some ⟨i13,d13,.func (W.fnOf "against_each" "against_each" (yas ybo) (yap ybo) (yab ybo) .none j13 n13 p13 e13 r13 s13),g13⟩)
 (c13:W.codeIn K r13 "against_each" = true)
 (k13:W.keepIn K (.ref f13)=true)
 (a14:W.nsIn K mainGlobals "lessened" = some (some (.ref f14)))
 (l14:K.lookup f14=some ⟨i14,d14,.func (W.fnOf "lessened" "lessened" (yas yd4) (yap yd4) (yab yd4) .none j14 n14 p14 e14 r14 s14),g14⟩)
 (c14:W.codeIn K r14 "lessened" = true)
 (k14:W.keepIn K (.ref f14)=true)
 (a15:W.nsIn K mainGlobals "free_at" = some (some (.ref f15)))
 (l15:K.lookup f15=some ⟨i15,d15,.func (W.fnOf "free_at" "free_at" (yas yec) (yap yec) (yab yec) .none j15 n15 p15 e15 r15 s15),g15⟩)
 (c15:W.codeIn K r15 "free_at" = true)
 (k15:W.keepIn K (.ref f15)=true)
 (a16:W.nsIn K mainGlobals "best_of" = some (some (.ref f16)))
 (l16:K.lookup f16=some ⟨i16,d16,.func (W.fnOf "best_of" "best_of" (yas yeu) (yap yeu) (yab yeu) .none j16 n16 p16 e16 r16 s16),g16⟩)
 (c16:W.codeIn K r16 "best_of" = true)
 (k16:W.keepIn K (.ref f16)=true)
 (a17:W.nsIn K mainGlobals "dear_ones" = some (some (.ref f17)))
 (l17:K.lookup f17=some ⟨i17,d17,.func (W.fnOf "dear_ones" "dear_ones" (yas ycq) (yap ycq) (yab ycq) .none j17 n17 p17 e17 r17 s17),g17⟩)
 (c17:W.codeIn K r17 "dear_ones" = true)
 (k17:W.keepIn K (.ref f17)=true)
 (a18:W.nsIn K mainGlobals "units_of" = some (some (.ref f18)))
 (l18:K.lookup f18=some ⟨i18,d18,.func (W.fnOf "units_of" "units_of" (yas ydi) (yap ydi) (yab ydi) .none j18 n18 p18 e18 r18 s18),g18⟩)
 (c18:W.codeIn K r18 "units_of" = true)
 (k18:W.keepIn K (.ref f18)=true)
 (a19:W.nsIn K mainGlobals "tightest" = some (some (.ref f19)))
 (l19:K.lookup f19=some ⟨i19,d19,.func (W.fnOf "tightest" "tightest" (yas ydl) (yap ydl) (yab ydl) .none j19 n19 p19 e19 r19 s19),g19⟩)
 (c19:W.codeIn K r19 "tightest" = true)
 (k19:W.keepIn K (.ref f19)=true)
 (a20:W.nsIn K mainGlobals "paper_of" = some (some (.ref f20)))
 (l20:K.lookup f20=some ⟨i20,d20,.func (W.fnOf "paper_of" "paper_of" (yas ydm) (yap ydm) (yab ydm) .none j20 n20 p20 e20 r20 s20),g20⟩)
 (c20:W.codeIn K r20 "paper_of" = true)
 (k20:W.keepIn K (.ref f20)=true)
 (a21:W.nsIn K mainGlobals "papers" = some (some (.ref f21)))
 (l21:K.lookup f21=some ⟨i21,d21,.func (W.fnOf "papers" "papers" (yas yek) (yap yek) (yab yek) .none j21 n21 p21 e21 r21 s21),g21⟩)
 (c21:W.codeIn K r21 "papers" = true)
 (k21:W.keepIn K (.ref f21)=true)
 (a22:W.nsIn K mainGlobals "_law_begin" = some (some (.ref f22)))
 (l22:K.lookup f22=some ⟨i22,d22,.func (W.fnOf "_law_begin" "_law_begin" (yas ygx) (yap ygx) (yab ygx) .none j22 n22 p22 e22 r22 s22),g22⟩)
 (c22:W.codeIn K r22 "_law_begin" = true)
 (k22:W.keepIn K (.ref f22)=true)
 (a23:W.nsIn K mainGlobals "_law_pick" = some (some (.ref f23)))
 (l23:K.lookup f23=some ⟨i23,d23,.func (W.fnOf "_law_pick" "_law_pick" (yas yjd) (yap yjd) (yab yjd) .none j23 n23 p23 e23 r23 s23),g23⟩)
 (c23:W.codeIn K r23 "_law_pick" = true)
 (k23:W.keepIn K (.ref f23)=true)
 (a24:W.nsIn K mainGlobals "_law_span" = some (some (.ref f24)))
 (l24:K.lookup f24=some ⟨i24,d24,.func (W.fnOf "_law_span" "_law_span" (yas yjf) (yap yjf) (yab yjf) .none j24 n24 p24 e24 r24 s24),g24⟩)
 (c24:W.codeIn K r24 "_law_span" = true)
 (k24:W.keepIn K (.ref f24)=true)
 (a25:W.nsIn K mainGlobals "_law_some_term" = some (some (.ref f25)))
 (l25:K.lookup f25=some ⟨i25,d25,.func (W.fnOf "_law_some_term" "_law_some_term" (yas ydb) (yap ydb) (yab ydb) .none j25 n25 p25 e25 r25 s25),g25⟩)
 (c25:W.codeIn K r25 "_law_some_term" = true)
 (k25:W.keepIn K (.ref f25)=true)
 (a26:W.nsIn K mainGlobals "_law_some_lots" = some (some (.ref f26)))
 (l26:K.lookup f26=some ⟨i26,d26,.func (W.fnOf "_law_some_lots" "_law_some_lots" (yas ydc) (yap ydc) (yab ydc) .none j26 n26 p26 e26 r26 s26),g26⟩)
 (c26:W.codeIn K r26 "_law_some_lots" = true)
 (k26:W.keepIn K (.ref f26)=true)
 (a27:W.nsIn K mainGlobals "_law_some_outs" = some (some (.ref f27)))
 (l27:K.lookup f27=some ⟨i27,d27,.func (W.fnOf "_law_some_outs" "_law_some_outs" (yas ydd) (yap ydd) (yab ydd) .none j27 n27 p27 e27 r27 s27),g27⟩)
 (c27:W.codeIn K r27 "_law_some_outs" = true)
 (k27:W.keepIn K (.ref f27)=true)
 (a28:W.nsIn K mainGlobals "_law_case" = some (some (.ref f28)))
 (l28:K.lookup f28=some ⟨i28,d28,.func (W.fnOf "_law_case" "_law_case" (yas yjg) (yap yjg) (yab yjg) .none j28 n28 p28 e28 r28 s28),g28⟩)
 (c28:W.codeIn K r28 "_law_case" = true)
 (k28:W.keepIn K (.ref f28)=true)
 (a29:W.nsIn K mainGlobals "_law_dearest" = some (some (.ref f29)))
 (l29:K.lookup f29=some ⟨i29,d29,.func (W.fnOf "_law_dearest" "_law_dearest" (yas ycy) (yap ycy) (yab ycy) .none j29 n29 p29 e29 (.ref cc29) s29),g29⟩)
 (tl29:K.lookup cc29=some ⟨tc29,to29,.fields tv29,ts29⟩)
 (tp29:tv29[11]? = some (.ref PP29))
 (hd29:W.codeHdIn K cc29 PP29=true)
 (nk29:K.lookup PP29=none)
 (mt29:PP29∈ts)
 (c29:W.codeIn K (.ref cc29) "_law_dearest" = true)
 (k29:W.keepIn K (.ref f29)=true)
 (a30:W.nsIn K mainGlobals "_law_eldest" = some (some (.ref f30)))
 (l30:K.lookup f30=some ⟨i30,d30,.func (W.fnOf "_law_eldest" "_law_eldest" (yas ydx) (yap ydx) (yab ydx) .none j30 n30 p30 e30 (.ref cc30) s30),g30⟩)
 (tl30:K.lookup cc30=some ⟨tc30,to30,.fields tv30,ts30⟩)
 (tp30:tv30[11]? = some (.ref PP30))
 (hd30:W.codeHdIn K cc30 PP30=true)
 (nk30:K.lookup PP30=none)
 (mt30:PP30∈ts)
 (c30:W.codeIn K (.ref cc30) "_law_eldest" = true)
 (k30:W.keepIn K (.ref f30)=true)
 (a31:W.nsIn K mainGlobals "_law_deal" = some (some (.ref f31)))
 (l31:K.lookup f31=some ⟨i31,d31,.func (W.fnOf "_law_deal" "_law_deal" (yas yjv) (yap yjv) (yab yjv) .none j31 n31 p31 e31 r31 s31),g31⟩)
 (c31:W.codeIn K r31 "_law_deal" = true)
 (k31:W.keepIn K (.ref f31)=true)
 (a32:W.nsIn K mainGlobals "_law_most" = some (some (.ref f32)))
 (l32:K.lookup f32=some ⟨i32,d32,.func (W.fnOf "_law_most" "_law_most" (yas yjw) (yap yjw) (yab yjw) .none j32 n32 p32 e32 r32 s32),g32⟩)
 (c32:W.codeIn K r32 "_law_most" = true)
 (k32:W.keepIn K (.ref f32)=true)
 (a33:W.nsIn K mainGlobals "_law_best" = some (some (.ref f33)))
 (l33:K.lookup f33=some ⟨i33,d33,.func (W.fnOf "_law_best" "_law_best" (yas yg5) (yap yg5) (yab yg5) .none j33 n33 p33 e33 r33 s33),g33⟩)
 (c33:W.codeIn K r33 "_law_best" = true)
 (k33:W.keepIn K (.ref f33)=true)
 (a34:W.nsIn K mainGlobals "_law_same" = some (some (.ref f34)))
 (l34:K.lookup f34=some ⟨i34,d34,.func (W.fnOf "_law_same" "_law_same" (yas yhe) (yap yhe) (yab yhe) .none j34 n34 p34 e34 r34 s34),g34⟩)
 (c34:W.codeIn K r34 "_law_same" = true)
 (k34:W.keepIn K (.ref f34)=true)
 (a35:W.nsIn K mainGlobals "_law_paper_so" = some (some (.ref f35)))
 (l35:K.lookup f35=some ⟨i35,d35,.func (W.fnOf "_law_paper_so" "_law_paper_so" (yas ycz) (yap ycz) (yab ycz) .none j35 n35 p35 e35 r35 s35),g35⟩)
 (c35:W.codeIn K r35 "_law_paper_so" = true)
 (k35:W.keepIn K (.ref f35)=true)
 (a36:W.nsIn K mainGlobals "law" = some (some (.ref f36)))
 (l36:K.lookup f36=some ⟨i36,d36,.func (W.fnOf "law" "law" (yas ygp) (yap ygp) (yab ygp) .none j36 n36 p36 e36 r36 s36),g36⟩)
 (c36:W.codeIn K r36 "law" = true)
 (k36:W.keepIn K (.ref f36)=true)
 (z_len:W.nsIn K mainGlobals "len" = some none)
 (z_list:W.nsIn K mainGlobals "list" = some none)
 (z_isi:W.nsIn K mainGlobals "isinstance" = some none)
 (z_bool:W.nsIn K mainGlobals "bool" = some none)
 (z_int:W.nsIn K mainGlobals "int" = some none)
 (z_str:W.nsIn K mainGlobals "str" = some none)
 (z_tuple:W.nsIn K mainGlobals "tuple" = some none)
 (z_all:W.nsIn K mainGlobals "all" = some none)
 (z_any:W.nsIn K mainGlobals "any" = some none)
 (z_zip:W.nsIn K mainGlobals "zip" = some none)
 (z_range:W.nsIn K mainGlobals "range" = some none)
 (z_max:W.nsIn K mainGlobals "max" = some none)
 (z_min:W.nsIn K mainGlobals "min" = some none)
 (z_enumerate:W.nsIn K mainGlobals "enumerate" = some none)
 (z_sum:W.nsIn K mainGlobals "sum" = some none)
 (z_sorted:W.nsIn K mainGlobals "sorted" = some none)
 (z_verr:W.nsIn K mainGlobals "ValueError" = some none)
 (z_set:W.nsIn K mainGlobals "set" = some none)
 (g_FIRST_DAY:W.nsIn K mainGlobals "FIRST_DAY" = some (some (.int 1 u_FIRST_DAY)))
 (g_LAST_DAY:W.nsIn K mainGlobals "LAST_DAY" = some (some (.int 999 u_LAST_DAY)))
 (g_MOST_TERM:W.nsIn K mainGlobals "MOST_TERM" = some (some (.int 400 u_MOST_TERM)))
 (g_MOST_ROWS:W.nsIn K mainGlobals "MOST_ROWS" = some (some (.int 30 u_MOST_ROWS)))
 (g_MOST_COUNT:W.nsIn K mainGlobals "MOST_COUNT" = some (some (.int 10000000000 u_MOST_COUNT)))
 (g_MOST_DUTY:W.nsIn K mainGlobals "MOST_DUTY" = some (some (.int 1000000 u_MOST_DUTY)))
 (g_0:W.nsIn K mainGlobals "CustomsError" = some (some (.ref c_0)))
 (g_1:W.nsIn K mainGlobals "BadDay" = some (some (.ref c_1)))
 (g_2:W.nsIn K mainGlobals "BadTerm" = some (some (.ref c_2)))
 (g_3:W.nsIn K mainGlobals "BadCount" = some (some (.ref c_3)))
 (g_4:W.nsIn K mainGlobals "BadDuty" = some (some (.ref c_4)))
 (g_5:W.nsIn K mainGlobals "BadRows" = some (some (.ref c_5)))
 (x_1:W.excIn K c_1 vbm "ValueError.__new__" = true)
 (x_2:W.excIn K c_2 vbm "ValueError.__new__" = true)
 (x_3:W.excIn K c_3 vbm "ValueError.__new__" = true)
 (x_4:W.excIn K c_4 vbm "ValueError.__new__" = true)
 (x_5:W.excIn K c_5 vbm "ValueError.__new__" = true)
 (nn_L:PP29≠PP30)
 : ∃(fd:FuncData) (tb:Tbs),((tb.map (·.1)).Nodup∧∀t∈tb,t.1∈ts∧K.lookup t.1=none∧∃c,W.codeHdIn K c t.1=true)∧(∀(s:Shared) (v:Value),BindsTo s fd ⟨[v],[]⟩ [("_law_script",v)])∧∀base:Heap,K.In base→base.Ns mainGlobals mg→yi4 mg base→FnOk l.prog w K mg base CX0 6 fa fd ["_law_script"] (yu0 K tb):=by
 have e:=hfa.symm.trans (W.mg_of X G a36)
 cases e
 have F0:=ya6 (st:=yfp) l0 c0 k0
 have F1:=ya6 (st:=ydf) l1 c1 k1
 have F2:=ya6 (st:=yct) l2 c2 k2
 have F3:=ya6 (st:=ycu) l3 c3 k3
 have F4:=ya6 (st:=yb8) l4 c4 k4
 have F5:=ya6 (st:=ycw) l5 c5 k5
 have F6:=ya6 (st:=ybw) l6 c6 k6
 have F7:=ya6 (st:=ybx) l7 c7 k7
 have F8:=ya6 (st:=yby) l8 c8 k8
 have F9:=ya6 (st:=ydw) l9 c9 k9
 have F10:=ya6 (st:=yf2) l10 c10 k10
 have F11:=ya6 (st:=yeb) l11 c11 k11
 have F12:=ya6 (st:=ybn) l12 c12 k12
 have F13:=ya6 (st:=ybo) l13 c13 k13
 have F14:=ya6 (st:=yd4) l14 c14 k14
 have F15:=ya6 (st:=yec) l15 c15 k15
 have F16:=ya6 (st:=yeu) l16 c16 k16
 have F17:=ya6 (st:=ycq) l17 c17 k17
 have F18:=ya6 (st:=ydi) l18 c18 k18
 have F19:=ya6 (st:=ydl) l19 c19 k19
 have F20:=ya6 (st:=ydm) l20 c20 k20
 have F21:=ya6 (st:=yek) l21 c21 k21
 have F22:=ya6 (st:=ygx) l22 c22 k22
 have F23:=ya6 (st:=yjd) l23 c23 k23
 have F24:=ya6 (st:=yjf) l24 c24 k24
 have F25:=ya6 (st:=ydb) l25 c25 k25
 have F26:=ya6 (st:=ydc) l26 c26 k26
 have F27:=ya6 (st:=ydd) l27 c27 k27
 have F28:=ya6 (st:=yjg) l28 c28 k28
 have F29:=ya6 (st:=ycy) l29 c29 k29
 have F30:=ya6 (st:=ydx) l30 c30 k30
 have F31:=ya6 (st:=yjv) l31 c31 k31
 have F32:=ya6 (st:=yjw) l32 c32 k32
 have F33:=ya6 (st:=yg5) l33 c33 k33
 have F34:=ya6 (st:=yhe) l34 c34 k34
 have F35:=ya6 (st:=ycz) l35 c35 k35
 have F36:=ya6 (st:=ygp) l36 c36 k36
 have b0:=F0.binds (ps:=ygf) fun _ _ _ _ _ _ us hl=>match us,hl with | [_],_=>rfl
 have m0:=W.mg_of X G a0
 have b1:=F1.binds (ps:=ydg) fun _ _ _ _ _ _ us hl=>match us,hl with | [_],_=>rfl
 have m1:=W.mg_of X G a1
 have b2:=F2.binds (ps:=ydt) fun _ _ _ _ _ _ us hl=>match us,hl with | [_],_=>rfl
 have m2:=W.mg_of X G a2
 have b3:=F3.binds (ps:=ycv) fun _ _ _ _ _ _ us hl=>match us,hl with | [_],_=>rfl
 have m3:=W.mg_of X G a3
 have b4:=F4.binds (ps:=yb9) fun _ _ _ _ _ _ us hl=>match us,hl with | [_],_=>rfl
 have m4:=W.mg_of X G a4
 have b5:=F5.binds (ps:=ydu) fun _ _ _ _ _ _ us hl=>match us,hl with | [_],_=>rfl
 have m5:=W.mg_of X G a5
 have b6:=F6.binds (ps:=ych) fun _ _ _ _ _ _ us hl=>match us,hl with | [_],_=>rfl
 have m6:=W.mg_of X G a6
 have b7:=F7.binds (ps:=yci) fun _ _ _ _ _ _ us hl=>match us,hl with | [_],_=>rfl
 have m7:=W.mg_of X G a7
 have b8:=F8.binds (ps:=ycj) fun _ _ _ _ _ _ us hl=>match us,hl with | [_,_,_],_=>rfl
 have m8:=W.mg_of X G a8
 have b9:=F9.binds (ps:=yfg) fun _ _ _ _ _ _ us hl=>match us,hl with | [_],_=>rfl
 have m9:=W.mg_of X G a9
 have b10:=F10.binds (ps:=yh2) fun _ _ _ _ _ _ us hl=>match us,hl with | [_,_,_],_=>rfl
 have m10:=W.mg_of X G a10
 have b11:=F11.binds (ps:=yeq) fun _ _ _ _ _ _ us hl=>match us,hl with | [_],_=>rfl
 have m11:=W.mg_of X G a11
 have b12:=F12.binds (ps:=yck) fun _ _ _ _ _ _ us hl=>match us,hl with | [_],_=>rfl
 have m12:=W.mg_of X G a12
 have b13:=F13.binds (ps:=ybz) fun _ _ _ _ _ _ us hl=>match us,hl with | [_,_,_],_=>rfl
 have m13:=W.mg_of X G a13
 have b14:=F14.binds (ps:=yer) fun _ _ _ _ _ _ us hl=>match us,hl with | [_,_,_],_=>rfl
 have m14:=W.mg_of X G a14
 have b15:=F15.binds (ps:=yfe) fun _ _ _ _ _ _ us hl=>match us,hl with | [_,_,_],_=>rfl
 have m15:=W.mg_of X G a15
 have b16:=F16.binds (ps:=yfh) fun _ _ _ _ _ _ us hl=>match us,hl with | [_,_,_],_=>rfl
 have m16:=W.mg_of X G a16
 have b17:=F17.binds (ps:=yea) fun _ _ _ _ _ _ us hl=>match us,hl with | [_,_],_=>rfl
 have m17:=W.mg_of X G a17
 have b18:=F18.binds (ps:=yep) fun _ _ _ _ _ _ us hl=>match us,hl with | [_],_=>rfl
 have m18:=W.mg_of X G a18
 have b19:=F19.binds (ps:=yey) fun _ _ _ _ _ _ us hl=>match us,hl with | [_,_],_=>rfl
 have m19:=W.mg_of X G a19
 have b20:=F20.binds (ps:=yez) fun _ _ _ _ _ _ us hl=>match us,hl with | [_,_,_,_],_=>rfl
 have m20:=W.mg_of X G a20
 have b21:=F21.binds (ps:=ygo) fun _ _ _ _ _ _ us hl=>match us,hl with | [_,_,_],_=>rfl
 have m21:=W.mg_of X G a21
 have b22:=F22.binds (ps:=yhx) fun _ _ _ _ _ _ us hl=>match us,hl with | [_],_=>rfl
 have m22:=W.mg_of X G a22
 have b23:=F23.binds (ps:=yje) fun _ _ _ _ _ _ us hl=>match us,hl with | [_,_],_=>rfl
 have m23:=W.mg_of X G a23
 have b24:=F24.binds (ps:=ylm) fun _ _ _ _ _ _ us hl=>match us,hl with | [_],_=>rfl
 have m24:=W.mg_of X G a24
 have b25:=F25.binds (ps:=yd6) fun _ _ _ _ _ _ us hl=>match us,hl with | [_],_=>rfl
 have m25:=W.mg_of X G a25
 have b26:=F26.binds (ps:=yd7) fun _ _ _ _ _ _ us hl=>match us,hl with | [_,_,_,_],_=>rfl
 have m26:=W.mg_of X G a26
 have b27:=F27.binds (ps:=yd8) fun _ _ _ _ _ _ us hl=>match us,hl with | [_,_,_,_],_=>rfl
 have m27:=W.mg_of X G a27
 have b28:=F28.binds (ps:=ylo) fun _ _ _ _ _ _ us hl=>match us,hl with | [_,_],_=>rfl
 have m28:=W.mg_of X G a28
 have b29:=F29.binds (ps:=ye0) fun _ _ _ _ _ _ us hl=>match us,hl with | [_],_=>rfl
 have m29:=W.mg_of X G a29
 have b30:=F30.binds (ps:=yfk) fun _ _ _ _ _ _ us hl=>match us,hl with | [_],_=>rfl
 have m30:=W.mg_of X G a30
 have b31:=F31.binds (ps:=ymq) fun _ _ _ _ _ _ us hl=>match us,hl with | [_,_,_,_],_=>rfl
 have m31:=W.mg_of X G a31
 have b32:=F32.binds (ps:=ymr) fun _ _ _ _ _ _ us hl=>match us,hl with | [_,_,_,_,_],_=>rfl
 have m32:=W.mg_of X G a32
 have b33:=F33.binds (ps:=yiq) fun _ _ _ _ _ _ us hl=>match us,hl with | [_,_,_],_=>rfl
 have m33:=W.mg_of X G a33
 have b34:=F34.binds (ps:=ysx) fun _ _ _ _ _ _ us hl=>match us,hl with | [_,_],_=>rfl
 have m34:=W.mg_of X G a34
 have b35:=F35.binds (ps:=ye1) fun _ _ _ _ _ _ us hl=>match us,hl with | [_,_,_,_],_=>rfl
 have m35:=W.mg_of X G a35
 have B:Bn mg:=⟨W.mg_none_of X G z_len,W.mg_none_of X G z_list,W.mg_none_of X G z_isi,W.mg_none_of X G z_bool,W.mg_none_of X G z_int,W.mg_none_of X G z_str,W.mg_none_of X G z_tuple,W.mg_none_of X G z_all,W.mg_none_of X G z_any,W.mg_none_of X G z_zip,W.mg_none_of X G z_range,W.mg_none_of X G z_max,W.mg_none_of X G z_min,W.mg_none_of X G z_enumerate,W.mg_none_of X G z_sum,W.mg_none_of X G z_sorted,W.mg_none_of X G z_verr⟩
 have N_set:mg "set" = none:=W.mg_none_of X G z_set
 have TY:∃cl,Txt K mg cl:=by
  refine⟨(clF c_0 c_1 c_2 c_3 c_4 c_5),⟨⟨_,W.mg_of X G g_FIRST_DAY⟩,⟨_,W.mg_of X G g_LAST_DAY⟩,⟨_,W.mg_of X G g_MOST_TERM⟩,⟨_,W.mg_of X G g_MOST_ROWS⟩,⟨_,W.mg_of X G g_MOST_COUNT⟩,⟨_,W.mg_of X G g_MOST_DUTY⟩,W.mg_of X G g_0,W.mg_of X G g_1,W.mg_of X G g_2,W.mg_of X G g_3,W.mg_of X G g_4,W.mg_of X G g_5,x_1,x_2,x_3,x_4,x_5⟩⟩
 obtain ⟨cl,T⟩:=TY
 refine⟨W.fnOf "law" "law" (yas ygp) (yap ygp) (yab ygp) .none j36 n36 p36 e36 r36 s36,[(PP29,ycr,ycs),(PP30,ydn,ydo)],⟨by simp [nn_L],(zfm0 ⟨⟨mt29,nk29,_,hd29⟩,(zfm0 ⟨⟨mt30,nk30,_,hd30⟩,(fun _ h=>nomatch h)⟩)⟩)⟩,fun s v=>.of_eq rfl,fun base _ _ BM=>?_⟩
 have G0:Cal l.prog w K mg base CX0 1 "is_day" ygf ynb:=⟨⟨_,_,yr3 T B F0,b0,k0,m0⟩⟩
 have G1:Cal l.prog w K mg base (CXE l.prog w) 2 "check_day" ydg (yrv (cl 1) 999):=⟨⟨_,_,ylz T B G0 F1,b1,k1,m1⟩⟩
 have G2:Cal l.prog w K mg base (CXE l.prog w) 2 "check_term" ydt (yr0 (cl 2)):=⟨⟨_,_,ykh T B F2,b2,k2,m2⟩⟩
 have G3:Cal l.prog w K mg base (CXE l.prog w) 2 "check_many" ycv (yoo (cl 5)):=⟨⟨_,_,yki T B F3,b3,k3,m3⟩⟩
 have G4:Cal l.prog w K mg base (CXE l.prog w) 2 "check_count" yb9 (yrv (cl 3) 10000000000):=⟨⟨_,_,yi0 T B F4,b4,k4,m4⟩⟩
 have G5:Cal l.prog w K mg base (CXE l.prog w) 2 "check_duty" ydu (yrv (cl 4) 1000000):=⟨⟨_,_,ykj T B F5,b5,k5,m5⟩⟩
 have G6:Cal l.prog w K mg base (CXE l.prog w) 3 "checked_lots" ych (ypr (cl 5) (ykb cl) 3):=⟨⟨_,_,yh3 T B G3 G1 G4 G5 F6,b6,k6,m6⟩⟩
 have G7:Cal l.prog w K mg base (CXE l.prog w) 3 "checked_outs" yci (ypr (cl 5) (ykb cl) 2):=⟨⟨_,_,yh4 T B G3 G1 G4 F7,b7,k7,m7⟩⟩
 have G8:Cal l.prog w K mg base (CXE l.prog w) 4 "checked_both" ycj (yr4 cl):=⟨⟨_,_,yia T B G6 G7 G2 F8,b8,k8,m8⟩⟩
 have G9:Cal l.prog w K mg base CX0 1 "dearest" yfg (yv6 keyD okD):=⟨⟨_,_,yqa T B F9,b9,k9,m9⟩⟩
 have G10:Cal l.prog w K mg base CX0 1 "going" yh2 ykc:=⟨⟨_,_,yt1 T B F10,b10,k10,m10⟩⟩
 have G11:Cal l.prog w K mg base CX0 1 "days_of" yeq yhp:=⟨⟨_,_,yp7 T B F11,b11,k11,m11⟩⟩
 have G12:Cal l.prog w K mg base CX0 2 "stretches_of" yck ye6:=⟨⟨_,_,yig T B G11 F12,b12,k12,m12⟩⟩
 have G13:Cal l.prog w K mg base CX0 3 "against_each" ybz yd3:=⟨⟨_,_,yih T B G12 G10 F13,b13,k13,m13⟩⟩
 have G14:Cal l.prog w K mg base CX0 1 "lessened" yer yg1:=⟨⟨_,_,ynr T B F14,b14,k14,m14⟩⟩
 have G15:Cal l.prog w K mg base CX0 1 "free_at" yfe ykp:=⟨⟨_,_,yp8 T B F15,b15,k15,m15⟩⟩
 have G16:Cal l.prog w K mg base CX0 4 "best_of" yfh ykq:=⟨⟨_,_,yqb T B G13 G9 G15 G14 F16,b16,k16,m16⟩⟩
 have G17:Cal l.prog w K mg base CX0 1 "dear_ones" yea yr5:=⟨⟨_,_,yl1 T B F17,b17,k17,m17⟩⟩
 have G18:Cal l.prog w K mg base CX0 1 "units_of" yep yne:=⟨⟨_,_,yng T B F18,b18,k18,m18⟩⟩
 have G19:Cal l.prog w K mg base CX0 2 "tightest" yey yny:=⟨⟨_,_,ynz T B G11 G18 F19,b19,k19,m19⟩⟩
 have G20:Cal l.prog w K mg base CX0 3 "paper_of" yez ygn:=⟨⟨_,_,yn0 T B G17 G19 F20,b20,k20,m20⟩⟩
 have G21:Cal l.prog w K mg base (CXE l.prog w) 5 "papers" ygo (yky cl):=⟨⟨_,_,ysw T B G8 G16 G13 G20 F21,b21,k21,m21⟩⟩
 have G22:Cal l.prog w K mg base CX0 1 "_law_begin" yhx (ym7 K):=⟨⟨_,_,yts F22 B,b22,k22,m22⟩⟩
 have G23:Cal l.prog w K mg base CX0 1 "_law_pick" yje yol:=⟨⟨_,_,yv1 F23 B,b23,k23,m23⟩⟩
 have G24:Cal l.prog w K mg base CX0 2 "_law_span" ylm yrn:=⟨⟨_,_,yv2 B G23 F24,b24,k24,m24⟩⟩
 have G25:Cal l.prog w K mg base CX0 2 "_law_some_term" yd6 yrm:=⟨⟨_,_,ylp B G23 F25,b25,k25,m25⟩⟩
 have G26:Cal l.prog w K mg base CX0 2 "_law_some_lots" yd7 yro:=⟨⟨_,_,ylq B G23 F26,b26,k26,m26⟩⟩
 have G27:Cal l.prog w K mg base CX0 2 "_law_some_outs" yd8 yrp:=⟨⟨_,_,ylr B G23 F27,b27,k27,m27⟩⟩
 have G28:Cal l.prog w K mg base CX0 3 "_law_case" ylo yrq:=⟨⟨_,_,yv3 B G23 G24 G25 G26 G27 F28,b28,k28,m28⟩⟩
 have G29:Cal l.prog w K mg base CX0 1 "_law_dearest" ye0 (yjl [(PP29,ycr,ycs),(PP30,ydn,ydo)] keyD okD):=⟨⟨_,_,yn2 B BM rfl hd29 (.head _) F29,b29,k29,m29⟩⟩
 have G30:Cal l.prog w K mg base CX0 1 "_law_eldest" yfk (yjl [(PP29,ycr,ycs),(PP30,ydn,ydo)] ypu okE):=⟨⟨_,_,yqh B BM rfl hd30 (.tail _ (.head _)) F30,b30,k30,m30⟩⟩
 have G31:Cal l.prog w K mg base CX0 2 "_law_deal" ymq (ynu [(PP29,ycr,ycs),(PP30,ydn,ydo)]):=⟨⟨_,_,yw0 B G30 F31,b31,k31,m31⟩⟩
 have G32:Cal l.prog w K mg base CX0 3 "_law_most" ymr (ynv [(PP29,ycr,ycs),(PP30,ydn,ydo)]):=⟨⟨_,_,yw1 B G31 F32,b32,k32,m32⟩⟩
 have G33:Cal l.prog w K mg base CX0 4 "_law_best" yiq (ynw [(PP29,ycr,ycs),(PP30,ydn,ydo)]):=⟨⟨_,_,yur B G29 G32 F33,b33,k33,m33⟩⟩
 have G34:Cal l.prog w K mg base CX0 3 "_law_same" ysx (yip 3):=⟨⟨_,_,ysy F34 B b34 k34 m34 3,b34,k34,m34⟩⟩
 have G35:Cal l.prog w K mg base CX0 1 "_law_paper_so" ye1 yiv:=⟨⟨_,_,yn7 B F35,b35,k35,m35⟩⟩
 exact yyp B N_set G22 G23 G28 G34 G33 G35 G21 F36
theorem walk {l:W.OpenLaw}{q:Program}{loose:List Str}{XP:(Str→Option Value)→Heap→Prop}{YP:World→Heap→Prop}{d:DefRec}{K:Params→W.Frag}{ts:List Addr}(hn:l.most=some 63)(hdf:d.params.defaults=[])
 (hY:∀(w:World) (h:Heap),YP w h→(K w.params).In h∧∀P∈ts,h.get? P=some (W.tabObj #[]))
 (F:∀(w:World) (mg:Str→Option Value) (fa:Addr) (h:Heap),(K w.params).In h→h.Ns mainGlobals mg→mg d.name=some (.ref fa)→
  ∃(fd:FuncData) (tb:Tbs),((tb.map (·.1)).Nodup∧∀t∈tb,t.1∈ts∧(K w.params).lookup t.1=none∧∃c,W.codeHdIn (K w.params) c t.1=true)∧(∀(s:Shared) (u:Value),BindsTo s fd ⟨[u],[]⟩ [("_law_script",u)])∧∀base:Heap,(K w.params).In base→base.Ns mainGlobals mg→yi4 mg base→FnOk l.prog w (K w.params) mg base CX0 6 fa fd ["_law_script"] (yu0 (K w.params) tb)) :
 W.WalkO q loose XP YP l.row.toRowW d [] (fun f vs=>PySem.call f vs):=
 L2.walk_tab (n:=63) (k:=6) (x := "_law_script") (sp:=yu0) hn (by decide) hdf ⟨rfl,by decide,by decide⟩ hY F fun _ _ _ a ns hl hT hS=>⟨a,ns,rfl,hT,hS,hl,fun _ T'=>⟨rfl,T'⟩⟩
end K16
namespace PySem.W.Fast
def tw10762089089152640079:Nat:=0
def tw15275570446959579394:Nat:=0
def tw11989383933268937256:Nat:=0
def tw10255118732350402780:Nat:=0
def tw4756720190465663199:Nat:=0
def tw5922445223980357665:Nat:=0
def tw13794946424380081250:Nat:=0
def tw12978113803626453163:Nat:=0
def tw14707178777052820365:Nat:=0
def tw15195747918784188821:Nat:=0
def tw14322397051824638417:Nat:=0
def tw11409820998590026081:Nat:=0
def tw16235908571358980740:Nat:=0
def tw9369267987271165289:Nat:=0
def tw16690999102204635648:Nat:=0
def tw263961210672669431:Nat:=0
def tw11434015415061423434:Nat:=0
def tw6669760404404951643:Nat:=0
def tw17114146413924581935:Nat:=0
def tw10414364915243639475:Nat:=0
def tw17184373291745144204:Nat:=0
def tw15529204730960950645:Nat:=0
def tw59358602807940565:Nat:=0
def tw6382070745752924987:Nat:=0
def tw5727434988700636819:Nat:=0
def tw10483618222288964792:Nat:=0
def tw15296448647551050056:Nat:=0
def tw14707480695276461949:Nat:=0
def tw1755642160051709863:Nat:=0
def tw6313706578110649896:Nat:=0
def tw5674518607013869137:Nat:=0
def tw15833694874311532388:Nat:=0
def tw3149341664110267932:Nat:=0
def tw4269855324392724533:Nat:=0
def tw11900128385814684485:Nat:=0
def tw3796329406421749090:Nat:=0
def tw3292409161785309627:Nat:=0
def tw14621604399922147490:Nat:=0
def tw8413458486264046316:Nat:=0
def tw4884676878292871631:Nat:=0
def tw15077259102454204309:Nat:=0
def tw6284561798078842966:Nat:=0
def tw18438938729522596642:Nat:=0
def tw7813006472175092565:Nat:=0
def tw6758394628891259240:Nat:=0
def tw14097650210349282220:Nat:=0
def tw9393729432113400813:Nat:=0
def tw10596512829600634996:Nat:=0
def tw10164067458757991260:Nat:=0
def tw5134155639435831275:Nat:=0
def tw3986740525293631809:Nat:=0
def tw142070839709252124:Nat:=0
def tw654615815773328412:Nat:=0
def tw5714861446093192633:Nat:=0
def tw9518354225548275290:Nat:=0
def tw6141446783020978095:Nat:=0
def tw12111302083606986222:Nat:=0
def tw9767169622444596225:Nat:=0
def tw1505700388840686902:Nat:=0
def tw13866717840455611139:Nat:=0
def tw9967379523507743177:Nat:=0
def tw12620365306260703491:Nat:=0
def tw7173115839742436918:Nat:=0
def tw10124540105296491066:Nat:=0
def tw10377288893871468598:Nat:=0
def tw12893477662336835786:Nat:=0
def tw6022293068756043438:Nat:=0
def tw16181350784327641212:Nat:=0
def tw4499412538421203293:Nat:=0
def tw9163037681141041084:Nat:=0
def tw17431367898591679810:Nat:=0
def tw10104149590342404018:Nat:=0
def tw17316827214845334613:Nat:=0
def tw14644762400366774342:Nat:=0
def tw6476542191713280324:Nat:=0
def tw4866208296398721917:Nat:=0
def tw11387317696133663730:Nat:=0
def tw13808141834838556196:Nat:=0
def tw11239691755355373250:Nat:=0
def tw14383292495191431333:Nat:=0
def tw10463794408832442431:Nat:=0
def tw11562794632410913297:Nat:=0
def tw9211809367969024734:Nat:=0
def tw12880319112149857781:Nat:=0
def tw10498325411935787533:Nat:=0
def tw6963146193072193695:Nat:=0
def tw2103869719138764225:Nat:=0
def tw4012412789700643727:Nat:=0
def tw1164219383159432726:Nat:=0
def tw10667741447121725521:Nat:=0
def tw6815532296705978706:Nat:=0
def tw5604100467348941437:Nat:=0
def tw8581670517545389334:Nat:=0
def tw17743343691571671836:Nat:=0
def tw3595661557102325575:Nat:=0
def tw7238540802792775760:Nat:=0
def tw15023958081412357732:Nat:=0
def tw12150185682058026291:Nat:=0
def tw2442306266138672938:Nat:=0
def tw14732681687468968337:Nat:=0
def tw15293283856558821922:Nat:=0
def tw9153339413478414608:Nat:=0
def tw16192494119612642210:Nat:=0
def tw2211448868669901072:Nat:=0
def tw18138198123425470417:Nat:=0
def tw2545643890251804729:Nat:=0
def tw12207610840711200197:Nat:=0
def tw4856373908412598464:Nat:=0
def tw4079075504057994070:Nat:=0
def tw17200853957835806599:Nat:=0
def tw16299245978898607813:Nat:=0
def tw7679740965756429575:Nat:=0
def tw98125082568392852:Nat:=0
def tw16006536704521462221:Nat:=0
def tw9493815779273601506:Nat:=0
def tw11718774294060513708:Nat:=0
def tw7555471399310934817:Nat:=0
def tw17451992975117613151:Nat:=0
def tw10473415040826296393:Nat:=0
def tw7258000496280539291:Nat:=0
def tw10060037161751121438:Nat:=0
def tw16778738377930536899:Nat:=0
def tw6328513683066278471:Nat:=0
def tw8847096301744797507:Nat:=0
def tw6009083287554188223:Nat:=0
def tw15441321955724720648:Nat:=0
def tw18258582614665175662:Nat:=0
def tw18352850190134339745:Nat:=0
def tw1585690147782839870:Nat:=0
def tw5131552625848943524:Nat:=0
def tw17277473020794134160:Nat:=0
def tw11816864446949451433:Nat:=0
def tw2489308909817817148:Nat:=0
def tw13281940898101122004:Nat:=0
def tw8199242076324432878:Nat:=0
def tw12588573048876562665:Nat:=0
def tw4474963534323823166:Nat:=0
def tw15349676823812613241:Nat:=0
def tw14921656185500823888:Nat:=0
def tw6287887130955594088:Nat:=0
def tw4698701446815311168:Nat:=0
def tw10528510444437727305:Nat:=0
def tw4571846048453933283:Nat:=0
def tw1332281612611544068:Nat:=0
def tw11781961650969995179:Nat:=0
def tw4822945372218238292:Nat:=0
def tw7255559035989423077:Nat:=0
def tw13929180982379295016:Nat:=0
def tw15959798044005935548:Nat:=0
def tw16406315869391217644:Nat:=0
def tw14440616156266829228:Nat:=0
def tw391155076711525223:Nat:=0
def tw17698007362145833471:Nat:=0
def tw16964066769697878513:Nat:=0
def tw13645703663415869136:Nat:=0
def tw1903524336784790646:Nat:=0
def tw15967825621248068967:Nat:=0
def tw10508277654469097617:Nat:=0
def tw7287424278576664810:Nat:=0
def tw6987558151166966302:Nat:=0
def tw2513112283358899752:Nat:=0
def tw14389360337229192973:Nat:=0
def tw5157235641928458702:Nat:=0
def tw12039474788142085108:Nat:=0
def tw16131354279648328762:Nat:=0
def tw5190912939776439355:Nat:=0
def tw8542020922671454117:Nat:=0
def tw13242682522084125070:Nat:=0
def tw14905985692108630967:Nat:=0
def tw8612456397972756292:Nat:=0
def tw13644681505353454108:Nat:=0
def tw15555838911585398720:Nat:=0
def tw18323943643696055621:Nat:=0
def tw712551359907000317:Nat:=0
def tw14837189542177201414:Nat:=0
def tw691937597125203173:Nat:=0
def tw4344417674016472082:Nat:=0
def tw9460718250311950754:Nat:=0
def tw214087065053613065:Nat:=0
def tw738471812491778763:Nat:=0
def tw13740615694847704573:Nat:=0
def tw9209764051605687051:Nat:=0
def tw2360097586465241258:Nat:=0
def tw7634495978786531525:Nat:=0
def tw5995429736030905739:Nat:=0
def tw13074000255509121116:Nat:=0
def tw17593629834428933340:Nat:=0
def tw4902557363314644557:Nat:=0
def tw17550231245654786135:Nat:=0
def tw13608665649271199105:Nat:=0
def tw12441925024612993710:Nat:=0
def tw4743074423720897935:Nat:=0
def tw5849505884685553765:Nat:=0
def tw13130934864648010802:Nat:=0
def tw17890021026064108125:Nat:=0
def tw13029281083261402288:Nat:=0
def tw13206761441668945649:Nat:=0
def tw4717384782296425319:Nat:=0
def tw12232434507268776149:Nat:=0
def tw1927412095022621814:Nat:=0
def tw1518859700240888907:Nat:=0
def tw12667094995845690221:Nat:=0
def tw9793134329558811964:Nat:=0
def tw1203563287888792666:Nat:=0
def tw5988349884804375826:Nat:=0
def tw9209920275012797046:Nat:=0
def tw11221252673111350422:Nat:=0
def tw5136652063380503937:Nat:=0
def tw988478282599746441:Nat:=0
def tw9496104513571742246:Nat:=0
def tw16166856159324183423:Nat:=0
def tw10932090587279138165:Nat:=0
def tw8124327607930391802:Nat:=0
def tw5288755336799181343:Nat:=0
def tw6081954339007441099:Nat:=0
def tw1242942392011381213:Nat:=0
def tw2412640205030193192:Nat:=0
def tw18219262765127198732:Nat:=0
def tw8245017537204577382:Nat:=0
def tw517667724089272910:Nat:=0
def tw18334402597722374332:Nat:=0
def tw10440731859529409659:Nat:=0
end PySem.W.Fast
open PySem PySem.W PyProof.Rows
set_option maxRecDepth 100000 in
set_option maxHeartbeats 0 in
theorem PySem.Challenge.cw_drawback_k16_papers_that_are_told_holds : PySem.Challenge.rw_drawback_k16_papers_that_are_told.Holds := by
 w_on;o_law;k_head;(case hw=>w_witness2)
 k_fill
 refine K16.walk (l:=PySem.Challenge.rw_drawback_k16_papers_that_are_told) rfl rfl (fun w h Y=>⟨PySem.W.km_in_of Y,PySem.W.km_tabs_of Y⟩) ?F
 case F=>
  intro w mg fa h KX G hmg
  refine' K16.all_mk KX G hmg ?a0 ?l0 ?c0 ?k0 ?a1 ?l1 ?c1 ?k1 ?a2 ?l2 ?c2 ?k2 ?a3 ?l3 ?c3 ?k3 ?a4 ?l4 ?c4 ?k4 ?a5 ?l5 ?c5 ?k5 ?a6 ?l6 ?c6 ?k6 ?a7 ?l7 ?c7 ?k7 ?a8 ?l8 ?c8 ?k8 ?a9 ?l9 ?c9 ?k9 ?a10 ?l10 ?c10 ?k10 ?a11 ?l11 ?c11 ?k11 ?a12 ?l12 ?c12 ?k12 ?a13 ?l13 ?c13 ?k13 ?a14 ?l14 ?c14 ?k14 ?a15 ?l15 ?c15 ?k15 ?a16 ?l16 ?c16 ?k16 ?a17 ?l17 ?c17 ?k17 ?a18 ?l18 ?c18 ?k18 ?a19 ?l19 ?c19 ?k19 ?a20 ?l20 ?c20 ?k20 ?a21 ?l21 ?c21 ?k21 ?a22 ?l22 ?c22 ?k22 ?a23 ?l23 ?c23 ?k23 ?a24 ?l24 ?c24 ?k24 ?a25 ?l25 ?c25 ?k25 ?a26 ?l26 ?c26 ?k26 ?a27 ?l27 ?c27 ?k27 ?a28 ?l28 ?c28 ?k28 ?a29 ?l29 ?tl29 ?tp29 ?hd29 ?nk29 ?mt29 ?c29 ?k29 ?a30 ?l30 ?tl30 ?tp30 ?hd30 ?nk30 ?mt30 ?c30 ?k30 ?a31 ?l31 ?c31 ?k31 ?a32 ?l32 ?c32 ?k32 ?a33 ?l33 ?c33 ?k33 ?a34 ?l34 ?c34 ?k34 ?a35 ?l35 ?c35 ?k35 ?a36 ?l36 ?c36 ?k36 ?z_len ?z_list ?z_isi ?z_bool ?z_int ?z_str ?z_tuple ?z_all ?z_any ?z_zip ?z_range ?z_max ?z_min ?z_enumerate ?z_sum ?z_sorted ?z_verr ?z_set ?g_FIRST_DAY ?g_LAST_DAY ?g_MOST_TERM ?g_MOST_ROWS ?g_MOST_COUNT ?g_MOST_DUTY ?g_0 ?g_1 ?g_2 ?g_3 ?g_4 ?g_5 ?x_1 ?x_2 ?x_3 ?x_4 ?x_5 ?nn_L
  (case a0=>k_is)
  (case l0=>k_is)
  (case c0=>k_is)
  (case k0=>k_is)
  (case a1=>k_is)
  (case l1=>k_is)
  (case c1=>k_is)
  (case k1=>k_is)
  (case a2=>k_is)
  (case l2=>k_is)
  (case c2=>k_is)
  (case k2=>k_is)
  (case a3=>k_is)
  (case l3=>k_is)
  (case c3=>k_is)
  (case k3=>k_is)
  (case a4=>k_is)
  (case l4=>k_is)
  (case c4=>k_is)
  (case k4=>k_is)
  (case a5=>k_is)
  (case l5=>k_is)
  (case c5=>k_is)
  (case k5=>k_is)
  (case a6=>k_is)
  (case l6=>k_is)
  (case c6=>k_is)
  (case k6=>k_is)
  (case a7=>k_is)
  (case l7=>k_is)
  (case c7=>k_is)
  (case k7=>k_is)
  (case a8=>k_is)
  (case l8=>k_is)
  (case c8=>k_is)
  (case k8=>k_is)
  (case a9=>k_is)
  (case l9=>k_is)
  (case c9=>k_is)
  (case k9=>k_is)
  (case a10=>k_is)
  (case l10=>k_is)
  (case c10=>k_is)
  (case k10=>k_is)
  (case a11=>k_is)
  (case l11=>k_is)
  (case c11=>k_is)
  (case k11=>k_is)
  (case a12=>k_is)
  (case l12=>k_is)
  (case c12=>k_is)
  (case k12=>k_is)
  (case a13=>k_is)
  (case l13=>k_is)
  (case c13=>k_is)
  (case k13=>k_is)
  (case a14=>k_is)
  (case l14=>k_is)
  (case c14=>k_is)
  (case k14=>k_is)
  (case a15=>k_is)
  (case l15=>k_is)
  (case c15=>k_is)
  (case k15=>k_is)
  (case a16=>k_is)
  (case l16=>k_is)
  (case c16=>k_is)
  (case k16=>k_is)
  (case a17=>k_is)
  (case l17=>k_is)
  (case c17=>k_is)
  (case k17=>k_is)
  (case a18=>k_is)
  (case l18=>k_is)
  (case c18=>k_is)
  (case k18=>k_is)
  (case a19=>k_is)
  (case l19=>k_is)
  (case c19=>k_is)
  (case k19=>k_is)
  (case a20=>k_is)
  (case l20=>k_is)
  (case c20=>k_is)
  (case k20=>k_is)
  (case a21=>k_is)
  (case l21=>k_is)
  (case c21=>k_is)
  (case k21=>k_is)
  (case a22=>k_is)
  (case l22=>k_is)
  (case c22=>k_is)
  (case k22=>k_is)
  (case a23=>k_is)
  (case l23=>k_is)
  (case c23=>k_is)
  (case k23=>k_is)
  (case a24=>k_is)
  (case l24=>k_is)
  (case c24=>k_is)
  (case k24=>k_is)
  (case a25=>k_is)
  (case l25=>k_is)
  (case c25=>k_is)
  (case k25=>k_is)
  (case a26=>k_is)
  (case l26=>k_is)
  (case c26=>k_is)
  (case k26=>k_is)
  (case a27=>k_is)
  (case l27=>k_is)
  (case c27=>k_is)
  (case k27=>k_is)
  (case a28=>k_is)
  (case l28=>k_is)
  (case c28=>k_is)
  (case k28=>k_is)
  (case a29=>k_is)
  (case l29=>k_is)
  (case tl29=>k_is)
  (case tp29=>exact rfl)
  (case hd29=>kernel_rfl)
  (case nk29=>kernel_rfl)
  (case mt29=>first|k_mem|decide)
  (case c29=>k_is)
  (case k29=>k_is)
  (case a30=>k_is)
  (case l30=>k_is)
  (case tl30=>k_is)
  (case tp30=>exact rfl)
  (case hd30=>kernel_rfl)
  (case nk30=>kernel_rfl)
  (case mt30=>first|k_mem|decide)
  (case c30=>k_is)
  (case k30=>k_is)
  (case a31=>k_is)
  (case l31=>k_is)
  (case c31=>k_is)
  (case k31=>k_is)
  (case a32=>k_is)
  (case l32=>k_is)
  (case c32=>k_is)
  (case k32=>k_is)
  (case a33=>k_is)
  (case l33=>k_is)
  (case c33=>k_is)
  (case k33=>k_is)
  (case a34=>k_is)
  (case l34=>k_is)
  (case c34=>k_is)
  (case k34=>k_is)
  (case a35=>k_is)
  (case l35=>k_is)
  (case c35=>k_is)
  (case k35=>k_is)
  (case a36=>k_is)
  (case l36=>k_is)
  (case c36=>k_is)
  (case k36=>k_is)
  (case z_len=>k_is)
  (case z_list=>k_is)
  (case z_isi=>k_is)
  (case z_bool=>k_is)
  (case z_int=>k_is)
  (case z_str=>k_is)
  (case z_tuple=>k_is)
  (case z_all=>k_is)
  (case z_any=>k_is)
  (case z_zip=>k_is)
  (case z_range=>k_is)
  (case z_max=>k_is)
  (case z_min=>k_is)
  (case z_enumerate=>k_is)
  (case z_sum=>k_is)
  (case z_sorted=>k_is)
  (case z_verr=>k_is)
  (case z_set=>k_is)
  (case g_FIRST_DAY=>k_is)
  (case g_LAST_DAY=>k_is)
  (case g_MOST_TERM=>k_is)
  (case g_MOST_ROWS=>k_is)
  (case g_MOST_COUNT=>k_is)
  (case g_MOST_DUTY=>k_is)
  (case g_0=>k_is)
  (case g_1=>k_is)
  (case g_2=>k_is)
  (case g_3=>k_is)
  (case g_4=>k_is)
  (case g_5=>k_is)
  (case x_1=>first|k_is|k_exc)
  (case x_2=>first|k_is|k_exc)
  (case x_3=>first|k_is|k_exc)
  (case x_4=>first|k_is|k_exc)
  (case x_5=>first|k_is|k_exc)
  (case nn_L=>decide)
