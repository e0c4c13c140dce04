import PyProof.Rows.All
import Wide.All
import OpenK.AllK
import Wide.FinOn
import Lean
import PyProof.EqAt
import PyProof.EqKinds
import PyProof.TupleCall
import PySem.Challenge.RW_drawback_k28_dealings_and_papers_refused
set_option Elab.async false
set_option linter.all false
set_option maxRecDepth 100000
open PySem PySem.Spec PyProof.Rows in
abbrev zwb0:=@wpAny_bind
open PySem PySem.Spec PyProof.Rows in
abbrev zwp0:=@wpAny_pure
namespace L2
open PySem PySem.Spec PyProof.Rows
theorem zfm0 {α:Type}{p:α→Prop}{a:α}{l:List α}:(p a∧∀x∈l,p x)→∀x∈a::l,p x:=List.forall_mem_cons.mpr
abbrev Key:=Sum Int Str
def yre:Key→Value→Bool
 |.inl k,v=>Value.isInt k v
 |.inr x,v=>Value.isStrOf x v
def zcw (w:World):Key→Int
 |.inl k=>hashInt k
 |.inr x=>hashStr w x
theorem yb9:∀{k:Key}{v:Value},yre k v=true→(∃i t,k=Sum.inl i∧v=Value.int i t)∨(∃x t,k=Sum.inr x∧v=Value.str x t)
 |.inl i,v,h=>by
  obtain ⟨t,e⟩:=Value.isInt_shape (k:=i) (v:=v) h
  exact .inl ⟨i,t,rfl,e⟩
 |.inr x,v,h=>by
  obtain ⟨t,e⟩:=Value.isStrOf_shape (x:=x) (v:=v) h
  exact .inr ⟨x,t,rfl,e⟩
theorem ysn (i:Int)(t:Tok):yre (.inl i) (.int i t)=true:=by simp [yre,Value.isInt]
theorem yso (x:Str)(t:Tok):yre (.inr x) (.str x t)=true:=by simp [yre,Value.isStrOf]
theorem yzq (a b:Int):decide ((Sum.inl a:Key)=Sum.inl b)=(a == b):=by
 by_cases e:a=b
 ·subst e;simp
 ·have h:¬ (Sum.inl a:Key)=Sum.inl b:=fun q=>e (Sum.inl.inj q)
  rw[decide_eq_false h]
  exact(beq_eq_false_iff_ne.mpr e).symm
theorem yzr (a b:Str):decide ((Sum.inr a:Key)=Sum.inr b)=decide (a=b):=by
 by_cases e:a=b
 ·subst e;simp
 ·have h:¬ (Sum.inr a:Key)=Sum.inr b:=fun q=>e (Sum.inr.inj q)
  rw[decide_eq_false h,decide_eq_false e]
theorem yzs (a:Int)(b:Str):decide ((Sum.inl a:Key)=Sum.inr b)=false:=decide_eq_false (fun q=>nomatch q)
theorem yzt (a:Str)(b:Int):decide ((Sum.inr a:Key)=Sum.inl b)=false:=decide_eq_false (fun q=>nomatch q)
def yb4 (prog:Program)(w:World):PySem.KeyKind prog w Key where
 is:=yre
 hash:=zcw w
 inj:=fun v a b ha hb=>by
  rcases yb9 ha with ⟨i,t,rfl,rfl⟩ | ⟨x,t,rfl,rfl⟩
  ·rcases yb9 hb with ⟨j,u,rfl,e⟩ | ⟨y,u,rfl,e⟩
   ·injection e with e1 _;rw[e1]
   ·exact nomatch e
  ·rcases yb9 hb with ⟨j,u,rfl,e⟩ | ⟨y,u,rfl,e⟩
   ·exact nomatch e
   ·injection e with e1 _;rw[e1]
 byValue:=fun k v h=>by
  rcases yb9 h with ⟨i,t,rfl,rfl⟩ | ⟨x,t,rfl,rfl⟩ <;> rfl
 pyHash:=fun hv h=>by
  rcases yb9 hv with ⟨i,t,rfl,rfl⟩ | ⟨x,t,rfl,rfl⟩
  ·exact wpAny_pyHash_int h
  ·exact wpAny_pyHash_str h
 eqBool:=fun hu hv h=>by
  rcases yb9 hu with ⟨i,t,rfl,rfl⟩ | ⟨x,t,rfl,rfl⟩
  ·rcases yb9 hv with ⟨j,u,rfl,rfl⟩ | ⟨y,u,rfl,rfl⟩
   ·rw[yzq] at h;exact wpAny_eqBool_int h
   ·rw[yzs] at h;exact SeqAt.EqAt.int_str i t y u _ _ _ _ h
  ·rcases yb9 hv with ⟨j,u,rfl,rfl⟩ | ⟨y,u,rfl,rfl⟩
   ·rw[yzt] at h;exact SeqAt.EqAt.str_int x t j u _ _ _ _ h
   ·rw[yzr] at h;exact wpAny_eqBool_str h
 «strs»:=fun k x t v h=>by
  rcases yb9 h with ⟨i,u,rfl,e⟩ | ⟨y,u,rfl,e⟩
  ·exact nomatch e
  ·injection e with e1 _
   subst e1
   cases v <;> rfl
theorem yoy (prog:Program)(w:World)(i:Int)(t:Tok):(yb4 prog w).is (.inl i) (.int i t)=true:=ysn i t
theorem yoz (prog:Program)(w:World)(x:Str)(t:Tok):(yb4 prog w).is (.inr x) (.str x t)=true:=yso x t
inductive V where
 |non|bl (b:Bool)|int (i:Int)|str (x:Str)|byt (b:Array UInt8)|flt (b:UInt64)|ref (a:Addr)|ty (n:String)
 deriving DecidableEq
def RelV:V→Value→Prop
 |.non,u=>u=Value.none
 |.bl b,u=>u=Value.bool b
 |.int i,u=>∃t,u=Value.int i t
 |.str x,u=>∃t,u=Value.str x t
 |.byt b,u=>∃t,u=Value.bytes b t
 |.flt b,u=>∃t,u=Value.float b t
 |.ref a,u=>u=Value.ref a
 |.ty n,u=>u=Value.type n
abbrev Vals:List V→List Value→Prop:=Paired RelV
theorem Vals.length {xs:List V}{us:List Value}(r:Vals xs us):xs.length=us.length:=Paired.length r
theorem Vals.get:∀{xs:List V}{us:List Value}{i:Nat}{x:V},Vals xs us→xs[i]? = some x→∃u,us[i]? = some u∧RelV x u
 |_,_,_,_,.nil,e=>by simp at e
 |_,_,0,_,.cons r _,e=>by simp at e;subst e;exact⟨_,rfl,r⟩
 |_,_,i+1,x,.cons _ t,e=>by
  obtain ⟨u,h1,h2⟩:=Vals.get (i:=i) (x:=x) t (by simpa using e)
  exact⟨u,by simpa using h1,h2⟩
theorem Vals.set {x:V}{u:Value}(r:RelV x u):∀{xs:List V}{us:List Value} (i:Nat),Vals xs us→Vals (xs.set i x) (us.set i u)
 |_,_,_,.nil=>.nil
 |_,_,0,.cons _ t=>.cons r t
 |_,_,i+1,.cons q t=>.cons q (Vals.set r i t)
theorem Vals.append:∀{xs ys:List V}{us ws:List Value},Vals xs us→Vals ys ws→Vals (xs++ys) (us++ws)
 |_,_,_,_,.nil,s=>s
 |_,_,_,_,.cons r t,s=>.cons r (Vals.append t s)
theorem Vals.take:∀{xs:List V}{us:List Value} (n:Nat),Vals xs us→Vals (xs.take n) (us.take n)
 |_,_,0,_=>.nil
 |_,_,_+1,.nil=>.nil
 |_,_,n+1,.cons r t=>.cons r (Vals.take n t)
theorem Vals.drop:∀{xs:List V}{us:List Value} (n:Nat),Vals xs us→Vals (xs.drop n) (us.drop n)
 |_,_,0,r=>r
 |_,_,_+1,.nil=>.nil
 |_,_,n+1,.cons _ t=>Vals.drop n t
def RelO:Option V→Option Value→Prop
 |some v,some u=>RelV v u
 |none,none=>True
 |_,_=>False
def KV {κ:Type}:List (κ×V)→List (κ×Value)→Prop:=Paired fun (p:κ×V) (q:κ×Value)=>p.1=q.1∧RelV p.2 q.2
def kV:Key→V
 |.inl i=>.int i
 |.inr x=>.str x
inductive HO where
 |lst (xs:List V)
 |tup (xs:List V)
 |dK (kvs:List (Key×V))|dT (kvs:List (List Key×V))
 |set (S:Int→Bool) (n:Nat)
 |ins (C dx:Addr) (fs:List (Str×V))
 |own (x:Addr)
 |xd (fs:List (Str×V))
 |met (f x:Addr)
 |rng (lo hi:Int)
 |frz (o:Obj) (u:HO)
 |tbl (ps:Array Value)
 |ext (φ:Heap→Prop)
 |cod (q:Str) (pos:Pos)
abbrev Hp:=Addr→Option HO
def upd (H:Hp)(a:Addr)(o:HO):Hp:=fun b=>if b=a then some o else H b
theorem yaa {H:Hp}{a:Addr}{o:HO}:upd H a o a=some o:=by unfold upd;rw[if_pos rfl]
theorem yal {H:Hp}{a b:Addr}{o:HO}(h:b≠a):upd H a o b=H b:=by unfold upd;rw[if_neg h]
theorem ylm {H:Hp}{a:Addr}{o u:HO}:upd (upd H a o) a u=upd H a u:=by
 funext b;unfold upd;split <;> rfl
theorem yo0 {H:Hp}{a b:Addr}{o u:HO}(h:H a=some o)(h':H b=some u)(d:o≠u):a≠b:=by
 intro e;subst e;rw[h] at h';exact d (Option.some.inj h')
theorem yak {H:Hp}{a b:Addr}{o:HO}(h:H a=some o)(h':H b=none):a≠b:=by
 intro e;subst e;rw[h] at h';cases h'
section
variable (P:Program)(w:World)
def ObjOk (H:Hp)(h:Heap)(a:Addr):HO→Prop
 |.lst xs=>xs.length≤sizeLine∧∃(its:List Value) (n:Nat),Vals xs its∧h.get? a=some { cls:=.type "list",data:=.seq its.toArray n }
 |.tup xs=>xs.length≤sizeLine∧∃its:List Value,Vals xs its∧IsTup h a its.toArray
 |.dK kvs=>kvs.length≤sizeLine∧(a == sysModules)=false∧∃vs,KV kvs vs∧h.DictOf (yb4 P w) a vs
 |.dT kvs=>kvs.length≤sizeLine∧(a == sysModules)=false∧∃xs:List (List Key×Addr×Value),
  Paired (fun (p:List Key×V) (q:List Key×Addr×Value)=>p.1=q.1∧H q.2.1=some (.tup (p.1.map kV))∧RelV p.2 q.2.2) kvs xs∧
  ∃o es ep,h.get? a=some o∧o.ExactDict∧o.data = .dict es ep∧es.toList=xs.map (entryOfKey (tupleKind (yb4 P w)))∧(xs.map (·.1)).Nodup
 |.set S n=>h.SetOf (intKind P w) a S n
 |.ins C dx fs=>H dx=some (.own a)∧fs.length≤1000∧dx≠a∧h.get? a=some (PySem.W.instObj C dx)∧
  ∃mA,h.Ns1 dx mA∧(∀f,RelO (fs.lookup f) (mA f))∧PySem.Within mA (fs.map (·.1))
 |.own _=>∃o,h.get? a=some o
 |.xd fs=>∃mA,h.Ns1 a mA∧∀f,RelO (fs.lookup f) (mA f)
 |.rng lo hi=>∃t u v,h.get? a=some { cls:=.type "range",data:=.fields #[.int lo t,.int hi u,.int 1 v] }
 |.frz o u=>h.get? a=some o∧ObjOk H h a u
 |.tbl ps=>h.get? a=some { cls:=.none,data:=.fields ps }
 |.met f x=>h.get? a=some (PySem.W.methodObj (.ref f) (.ref x))
 |.ext φ=>φ h∧(∃o,h.get? a=some o)∧∀h1 h2:Heap,φ h1→(∀o,h1.get? a=some o→h2.get? a=some o)→φ h2
 |.cod q pos=>h.get? a=some { cls:=.none,data:=.fields #[] }∨∃c,h.get? a=some { cls:=.none,data:=.fields #[rawInt pos.line,rawInt pos.col,.ref c] }∧H c=some (.own a)∧h.CodeRec (.ref c) q
def HOk (H:Hp)(h:Heap):Prop:=∀a o,H a=some o→ObjOk P w H h a o
end
section
variable {P:Program}{w:World}{H H':Hp}{h h':Heap}{a:Addr}{o:HO}
theorem ObjOk.lt (x:ObjOk P w H h a o):a<h.objs.size:=by
 cases o with
 |lst xs=>obtain ⟨_,_,_,_,e⟩:=x;exact Heap.lt_size e
 |tup xs=>obtain ⟨_,_,_,p⟩:=x;exact p.lt
 |dK kvs=>obtain ⟨_,_,_,_,o,_,_,e,_⟩:=x;exact Heap.lt_size e
 |dT kvs=>obtain ⟨_,_,_,_,o,_,_,e,_⟩:=x;exact Heap.lt_size e
 |set S n=>obtain ⟨o,_,_,_,e,_⟩:=x;exact Heap.lt_size e
 |ins C dx fs=>obtain ⟨_,_,_,e,_⟩:=x;exact Heap.lt_size e
 |own y=>obtain ⟨_,e⟩:=x;exact Heap.lt_size e
 |xd fs=>obtain ⟨_,⟨_,_,_,e,_⟩,_⟩:=x;exact Heap.lt_size e
 |rng lo hi=>obtain ⟨_,_,_,e⟩:=x;exact Heap.lt_size e
 |frz ob u=>obtain ⟨e,_⟩:=x;exact Heap.lt_size e
 |tbl ps=>exact Heap.lt_size (show h.get? a=some _ from x)
 |met f y=>exact Heap.lt_size (show h.get? a=some _ from x)
 |ext φ=>obtain ⟨_,⟨_,e⟩,_⟩:=x;exact Heap.lt_size e
 |cod q pos=>rcases x with e|⟨_,e,_⟩ <;> exact Heap.lt_size e
theorem Paired.mapP {α β:Type}{F G:α→β→Prop}:∀{l₁:List α}{l₂:List β},Paired F l₁ l₂→(∀a b,F a b→G a b)→Paired G l₁ l₂
 |_,_,.nil,_=>.nil
 |_,_,.cons r t,f=>.cons (f _ _ r) (Paired.mapP t f)
theorem ObjOk.stay (x:ObjOk P w H h a o)(k:∀b u,(b=a∨H b=some (.own a))→h.get? b=some u→h'.get? b=some u)
 (ho:∀b,H b=some (.own a)→H' b=some (.own a)) (ht:∀b xs,H b=some (.tup xs)→H' b=some (.tup xs)):ObjOk P w H' h' a o:=by
 induction o with
 |lst xs=>obtain ⟨z,its,n,r,e⟩:=x;exact⟨z,its,n,r,k _ _ (.inl rfl) e⟩
 |tup xs=>obtain ⟨z,its,r,ob,e,c⟩:=x;exact⟨z,its,r,ob,k _ _ (.inl rfl) e,c⟩
 |dK kvs=>obtain ⟨z,y,vs,r,ob,es,ep,e,c⟩:=x;exact⟨z,y,vs,r,ob,es,ep,k _ _ (.inl rfl) e,c⟩
 |dT kvs=>
  obtain ⟨z,y,xs,r,ob,es,ep,e,c⟩:=x
  exact⟨z,y,xs,Paired.mapP r fun p q z=>⟨z.1,ht _ _ z.2.1,z.2.2⟩,ob,es,ep,k _ _ (.inl rfl) e,c⟩
 |set S n=>obtain ⟨ob,es,ep,t,e,c⟩:=x;exact⟨ob,es,ep,t,k _ _ (.inl rfl) e,c⟩
 |ins C dx fs=>
  obtain ⟨d,z,ne,e,mA,⟨od,es,ep,e2,c⟩,r⟩:=x
  exact⟨ho _ d,z,ne,k _ _ (.inl rfl) e,mA,⟨od,es,ep,k _ _ (.inr d) e2,c⟩,r⟩
 |own y=>obtain ⟨ob,e⟩:=x;exact⟨ob,k _ _ (.inl rfl) e⟩
 |xd fs=>obtain ⟨mA,⟨od,es,ep,e,c⟩,r⟩:=x;exact⟨mA,⟨od,es,ep,k _ _ (.inl rfl) e,c⟩,r⟩
 |rng lo hi=>obtain ⟨t,u,v,e⟩:=x;exact⟨t,u,v,k _ _ (.inl rfl) e⟩
 |frz ob u ih=>obtain ⟨e,q⟩:=x;exact⟨k _ _ (.inl rfl) e,ih q⟩
 |tbl ps=>
  have e:h.get? a=some { cls:=.none,data:=.fields ps }:=x
  show h'.get? a=some { cls:=.none,data:=.fields ps }
  exact k a _ (.inl rfl) e
 |met f y=>
  have e:h.get? a=some (PySem.W.methodObj (.ref f) (.ref y)):=x
  show h'.get? a=some (PySem.W.methodObj (.ref f) (.ref y))
  exact k a _ (.inl rfl) e
 |ext φ=>obtain ⟨p,⟨o,e⟩,st⟩:=x;exact⟨st _ _ p fun o q=>k _ _ (.inl rfl) q,⟨o,k _ _ (.inl rfl) e⟩,st⟩
 |cod q pos=>
  rcases x with e|⟨c,e,hw,c2,oc,vs,t,e1,e2,r⟩
  ·exact .inl (k _ _ (.inl rfl) e)
  ·cases e1
   exact .inr ⟨c,k _ _ (.inl rfl) e,ho _ hw,c,oc,vs,t,rfl,k _ _ (.inr hw) e2,r⟩
theorem HOk.lt (x:HOk P w H h)(e:H a=some o):a<h.objs.size:=(x a o e).lt
theorem HOk.fresh (x:HOk P w H h)(e:h.objs.size≤a):H a=none:=by
 cases q:H a with
 |none=>rfl
 |some u=>exact absurd (Nat.lt_of_lt_of_le (x.lt q) e) (Nat.lt_irrefl _)
theorem HOk.kept (x:HOk P w H h)(k:∀b u,h.get? b=some u→h'.get? b=some u):HOk P w H h':=fun a o e=>
 (x a o e).stay (fun b u _ q=>k b u q) (fun _ q=>q) fun _ _ q=>q
theorem HOk.laid (x:HOk P w H h)(k:∀b u,h.get? b=some u→h'.get? b=some u)(hp:h.objs.size≤a)(new:ObjOk P w (upd H a o) h' a o):HOk P w (upd H a o) h':=fun b u e=>by
 have hn:=x.fresh hp
 by_cases hb:b=a
 ·subst hb;rw[yaa] at e;cases e;exact new
 ·rw[yal hb] at e
  exact(x b u e).stay (fun c v _ q=>k c v q) (fun c q=>by rw[yal (yak q hn)];exact q) fun c xs q=>by rw[yal (yak q hn)];exact q
end
def Rd (H:Hp)(a:Addr)(u:HO):Prop:=H a=some u∨∃o,H a=some (.frz o u)
theorem Rd.ok {P:Program}{w:World}{H:Hp}{h:Heap}{a:Addr}{u:HO}(r:Rd H a u)(x:HOk P w H h):ObjOk P w H h a u:=by
 rcases r with r|⟨o,r⟩
 ·exact x a u r
 ·obtain ⟨_,q⟩:=x a _ r
  exact q
def Mut:Option HO→Prop
 |some (.lst _)=>True
 |some (.dK _)=>True
 |some (.dT _)=>True
 |some (.set _ _)=>True
 |some (.ins _ _ _)=>True
 |some (.ext _)=>True
 |_=>False
section
variable {P:Program}{w:World}{H:Hp}{h h':Heap}{x e:Addr}{o':HO}
theorem HOk.write (ok:HOk P w H h)(mu:Mut (H x))(he:e=x∨H e=some (.own x))(k:∀b u,b≠e→h.get? b=some u→h'.get? b=some u)(heo:∃u,h'.get? e=some u)
 (new:ObjOk P w (upd H x o') h' x o'):HOk P w (upd H x o') h':=fun b u q=>by
 have nown:∀c y,H c=some (.own y)→c≠x:=fun c y r z=>by subst z;rw[r] at mu;exact mu
 have ntup:∀c xs,H c=some (.tup xs)→c≠x:=fun c xs r z=>by subst z;rw[r] at mu;exact mu
 by_cases hb:b=x
 ·subst hb;rw[yaa] at q;cases q;exact new
 ·rw[yal hb] at q
  by_cases hbe:b=e
  ·have q':H b=some (.own x):=by
    rcases he with z|z
    ·exact absurd (hbe.trans z) hb
    ·rw[hbe];exact z
   rw[q] at q';cases q'
   obtain ⟨v,hv⟩:=heo
   exact⟨v,by rw[hbe];exact hv⟩
  ·refine(ok b u q).stay (fun c v hc r=>k c v ?_ r) (fun c r=>by rw[yal (nown c b r)];exact r) fun c xs r=>by rw[yal (ntup c xs r)];exact r
   rcases hc with rfl|hc
   ·exact hbe
   ·rintro rfl
    rcases he with z|z
    ·exact nown c b hc z
    ·rw[hc] at z;cases z;exact hb rfl
end
structure Un (fs ex:List Addr) (H H':Hp) (h h':Heap):Prop where
 keep:∀b o,h.get? b=some o→H b=none→b ∉ fs→b ∉ ex→h'.get? b=some o
 slot:∀b o,h.get? b=some o→H b=none→b∈fs→b ∉ ex→∃sl,h'.get? b=some { o with slots:=sl }
 free:∀b o,h.get? b=some o→H b=none→b ∉ ex→H' b=none
 there:∀b o,h.get? b=some o→b ∉ ex→∃o',h'.get? b=some o'
 tups:∀b xs,H b=some (.tup xs)→H' b=some (.tup xs)
 frzs:∀b o u,H b=some (.frz o u)→H' b=some (.frz o u)
 tbls:∀b ps,H b=some (.tbl ps)→∃more,H' b=some (.tbl (ps++more))
section
variable {fs fs' ex ex':List Addr}{H H1 H2:Hp}{h h1 h2 h':Heap}{a x e:Addr}{o:HO}
theorem Un.any (u:Un fs ex H H1 h h1){b:Addr}{ob:Obj}(q:h.get? b=some ob)(n:H b=none)(hx:b ∉ ex):∃sl,h1.get? b=some { ob with slots:=sl }:=by
 by_cases hb:b∈fs
 ·exact u.slot b ob q n hb hx
 ·exact⟨ob.slots,u.keep b ob q n hb hx⟩
theorem Un.kept (k:∀b u,h.get? b=some u→h'.get? b=some u):Un fs ex H H h h':=
 ⟨fun b ob q _ _ _=>k b ob q,fun b ob q _ _ _=>⟨ob.slots,k b ob q⟩,fun _ _ _ n _=>n,fun b ob q _=>⟨ob,k b ob q⟩,fun _ _ q=>q,fun _ _ _ q=>q,fun _ ps q=>⟨#[],by rw[q];simp⟩⟩
theorem Un.refl:Un fs ex H H h h:=Un.kept fun _ _ q=>q
theorem Un.laid (k:∀b u,h.get? b=some u→h'.get? b=some u)(hp:h.objs.size≤a)(hn:H a=none):Un fs ex H (upd H a o) h h' where
 keep:=fun b u q _ _ _=>k b u q
 slot:=fun b u q _ _ _=>⟨u.slots,k b u q⟩
 free:=fun b u q n _=>by rw[yal (Nat.ne_of_lt (Nat.lt_of_lt_of_le (Heap.lt_size q) hp))];exact n
 there:=fun b u q _=>⟨u,k b u q⟩
 tups:=fun b xs q=>by rw[yal (yak q hn)];exact q
 frzs:=fun b u xs q=>by rw[yal (yak q hn)];exact q
 tbls:=fun b ps q=>⟨#[],by rw[yal (yak q hn),q];simp⟩
theorem Un.write (mu:Mut (H x))(he:e=x∨H e=some (.own x))(k:∀b u,b≠e→h.get? b=some u→h'.get? b=some u)(heo:∃u,h'.get? e=some u):Un fs ex H (upd H x o) h h':=by
 have hx:∀b,H b=none→b≠x:=fun b n z=>by subst z;rw[n] at mu;exact mu
 have hb:∀b,H b=none→b≠e:=fun b n z=>by
  subst z
  rcases he with r|r
  ·exact hx b n r
  ·rw[n] at r;cases r
 have hm:∀b u,H b=some u→¬ Mut (some u)→b≠x:=fun b u q nm z=>by subst z;rw[q] at mu;exact nm mu
 refine⟨fun b u q n _ _=>k b u (hb b n) q,fun b u q n _ _=>⟨u.slots,k b u (hb b n) q⟩,fun b u q n _=>by rw[yal (hx b n)];exact n,fun b u q _=>?_,
  fun b xs q=>by rw[yal (hm b _ q fun z=>z)];exact q,fun b u xs q=>by rw[yal (hm b _ q fun z=>z)];exact q,fun b ps q=>⟨#[],by rw[yal (hm b _ q fun z=>z),q];simp⟩⟩
 by_cases hbe:b=e
 ·subst hbe;exact heo
 ·exact⟨u,k b u hbe q⟩
end
def trk (h:Heap)(H:Hp):List Addr:=(List.range h.objs.size).filter fun a=>(H a).isSome
def yvi (h:Heap)(H:Hp):Heap:=PySem.W.hideAll h (trk h H)
theorem ysp (h:Heap)(H:Hp):(yvi h H).objs.size=h.objs.size:=PySem.W.hideAll_size _ _
theorem yvk {h:Heap}{H:Hp}{b:Addr}{o:Obj}(e:h.get? b=some o)(n:H b=none):(yvi h H).get? b=some o:=
 PySem.W.hideAll_get _ e fun hm=>by
  have q:(H b).isSome=true:=(List.mem_filter.mp hm).2
  rw[n] at q;simp at q
theorem yx1 {h:Heap}{H:Hp}{b:Addr}{o:Obj}(e:(yvi h H).get? b=some o):h.get? b=some o∧H b=none:=by
 have e':h.get? b=some o:=PySem.W.of_hideAll (trk h H) e
 refine⟨e',?_⟩
 cases q:H b with
 |none=>rfl
 |some x=>
  have hm:b∈trk h H:=List.mem_filter.mpr ⟨List.mem_range.mpr (Heap.lt_size e'),by simp [q]⟩
  have z:(yvi h H).get? b=none:=PySem.W.hideAll_none (trk h H) hm
  rw[z] at e;cases e
def yx2 (g h:Heap)(L:Addr):List (Addr×Obj):=(List.range h.objs.size).filterMap fun a=>if a=L∨(g.get? a).isSome=true then none else (h.get? a).map fun o=>(a,o)
def rest (g h:Heap)(L d:Addr):List (Addr×Obj):=(yx2 g h L).filter fun p=>decide (p.1≠d)
structure Mod (K:PySem.W.Frag) (mg:Str→Option Value) (base:Heap):Prop where
 kin:K.In base
 glob:base.Ns mainGlobals mg
 blt:∃mb,base.Ns builtinsNs mb∧∀x:Str,x ≠ "__name__" → mb x=bootBuiltins x
 nolimit:base.NoLimit
structure Cx where
 prog:Program
 w:World
 K:PySem.W.Frag
 mg:Str→Option Value
 base:Heap
 A:Around
 N:List Str
 s₀:Shared
 H₀:Hp
 env:Env
 outer:List Env
 stack:List Env
 ex:List Addr
 fn:Str→Bool
 calm:Bool
 pn:List (Addr×Obj)
 xe:Value→Shared→Prop
def frs (l:List Env):List Addr:=l.filterMap (·.frame)
abbrev Cx.fs (X:Cx):List Addr:=frs X.outer
def Vis (sc:Scope)(x:Str):Prop:=sc.names.lookup x=some .local∨sc.names.lookup x=some .cell∨sc.names.lookup x=some .free
def Loc (sc:Scope)(x:Str):Prop:=sc.names.lookup x=some .local∨sc.names.lookup x=some .cell
def zcx (env:Env)(h:Heap)(m:Str→Option Value)(x:Str)(u:Value):Prop:=
 (env.kindOf x=some .local∧m x=some u)∨((env.kindOf x=some .cell∨env.kindOf x=some .free)∧∃c,env.cells.lookup x=some c∧h.IsCell c (some u))
structure Cx.Ok (X:Cx):Prop where
 mod:Mod X.K X.mg X.base
 kind:X.env.scope.kind = .function
 glob:X.env.globals=mainGlobals
 blt:X.env.builtins=builtinsNs
 above:X.s₀.heap.objs.size≤X.env.locals
 inj:∀x y c,X.env.cells.lookup x=some c→X.env.cells.lookup y=some c→x=y
 has:∀x,(X.env.kindOf x=some .cell∨X.env.kindOf x=some .free)→∃c,X.env.cells.lookup x=some c
 cab:∀x c,X.fn x=true→X.env.cells.lookup x=some c→X.s₀.heap.objs.size≤c
 hd:X.calm=true→X.A.handled=none
 frames:X.A.frames=some X.stack
 stk:X.stack=X.outer∨(X.stack=X.env::X.outer∧X.env.frame=some X.env.locals)
 exf:∀b∈X.ex,b≠X.env.locals∧∀x c,X.env.cells.lookup x=some c→c≠b
 bs:∀b o,X.base.get? b=some o→X.s₀.heap.get? b=some o∧X.H₀ b=none
 bsz:X.base.objs.size≤X.s₀.heap.objs.size
 noex:∀b o,X.base.get? b=some o→b ∉ X.ex
 exfs:∀b∈X.ex,b ∉ X.fs
 funs:X.s₀.heap.FunFrames X.base X.outer
 frf:∀b∈X.fs,X.H₀ b=none
structure Inv (X:Cx) (pins:List (Addr×Obj)) (σ:List (Option V)) (H:Hp) (s:Shared):Prop where
 ok:X.Ok
 os:s.os=X.s₀.os
 bare:AllBare s.gens
 base:Un X.fs X.ex X.H₀ H X.s₀.heap s.heap
 loc:∃m,s.heap.Ns X.env.locals m∧∀(i:Nat) (x:Str) (v:V),X.N[i]? = some x→σ[i]? = some (some v)→Vis X.env.scope x→∃u,RelV v u∧zcx X.env s.heap m x u
 cell:∀x c,X.env.cells.lookup x=some c→∃v,s.heap.IsCell c v
 free:H X.env.locals=none
 freeC:∀x c,X.env.cells.lookup x=some c→H c=none
 pin:∀p∈X.pn++pins,s.heap.get? p.1=some p.2∧H p.1=none∧p.1≠X.env.locals∧p.1 ∉ X.fs∧∀v,p.2.data≠.cell v
 hok:HOk X.prog X.w H s.heap
 len:σ.length=X.N.length
section
variable {X:Cx}{pins:List (Addr×Obj)}{σ:List (Option V)}{H H':Hp}{s:Shared}{h':Heap}
theorem Cx.Ok.nofr (ok:X.Ok){b:Addr}{o:Obj}(e:X.base.get? b=some o):b ∉ X.fs:=fun hb=>by
 have:=(ok.funs.mem hb).1
 rw[e] at this;cases this
theorem Inv.bs (I:Inv X pins σ H s):∀b o,X.base.get? b=some o→s.heap.get? b=some o∧H b=none:=fun b o e=>
 ⟨I.base.keep b o (I.ok.bs b o e).1 (I.ok.bs b o e).2 (I.ok.nofr e) (I.ok.noex b o e),I.base.free b o (I.ok.bs b o e).1 (I.ok.bs b o e).2 (I.ok.noex b o e)⟩
theorem Inv.bk (I:Inv X pins σ H s):∀b o,X.base.get? b=some o→s.heap.get? b=some o:=fun b o e=>(I.bs b o e).1
theorem Inv.mod (I:Inv X pins σ H s):Mod X.K X.mg X.base:=I.ok.mod
theorem Inv.kIn (I:Inv X pins σ H s):X.K.In s.heap:=I.ok.mod.kin.keeps I.bk
theorem Inv.nolimit (I:Inv X pins σ H s):s.heap.NoLimit:=I.ok.mod.nolimit.keeps I.bk
theorem Inv.lt (I:Inv X pins σ H s):X.env.locals<s.heap.objs.size:=let ⟨_,hn,_⟩:=I.loc;hn.lt
theorem Inv.sz (I:Inv X pins σ H s):X.s₀.heap.objs.size≤s.heap.objs.size:=Nat.le_trans I.ok.above (Nat.le_of_lt I.lt)
theorem Inv.nofs (I:Inv X pins σ H s){a:Addr}(h:s.heap.objs.size≤a):a ∉ X.fs:=fun hb=>by
 obtain ⟨_,o,ho,_⟩:=I.ok.funs.mem hb
 exact absurd (Nat.lt_of_lt_of_le (Heap.lt_size ho) (Nat.le_trans I.sz h)) (Nat.lt_irrefl _)
theorem Inv.cne (I:Inv X pins σ H s):∀x c,X.env.cells.lookup x=some c→c≠X.env.locals:=fun x c e z=>by
 obtain ⟨v,o,ho,hd⟩:=I.cell x c e
 obtain ⟨m,⟨o',es,ep,ho',hd',_⟩,_⟩:=I.loc
 rw[z,ho'] at ho;cases ho;rw[hd'] at hd;cases hd
theorem Inv.funs (I:Inv X pins σ H s):s.heap.FunFrames X.base X.outer:=by
 have all:∀(l:List Env),(∀b∈frs l,b∈X.fs)→X.s₀.heap.FunFrames X.base l→s.heap.FunFrames X.base l:=by
  intro l
  induction l with
  |nil=>intro _ _;trivial
  |cons env r ih=>
   intro hs hl
   obtain ⟨hk,⟨L,o,hf,hn,ho,hd⟩,hr⟩:=hl
   have hL:L∈X.fs:=hs L (by unfold frs;rw[List.filterMap_cons,hf];exact List.mem_cons_self)
   obtain ⟨sl,e⟩:=I.base.slot L o ho (I.ok.frf L hL) hL fun z=>I.ok.exfs L z hL
   exact⟨hk,⟨L,_,hf,hn,e,hd⟩,ih (fun b hb=>hs b (by unfold frs;rw[List.filterMap_cons,hf];exact List.mem_cons_of_mem _ hb)) hr⟩
 exact all X.outer (fun _ hb=>hb) I.ok.funs
theorem Inv.stack (I:Inv X pins σ H s):s.heap.FunFrames X.base X.stack:=by
 rcases I.ok.stk with e|⟨e,hf⟩
 ·rw[e];exact I.funs
 ·rw[e]
  obtain ⟨m,hn,_⟩:=I.loc
  refine .cons (by rw[I.ok.kind];decide) hf hn ?_ I.funs
  exact Heap.get?_none_of_le (Nat.le_trans I.ok.bsz I.ok.above)
theorem Inv.stkSub (I:Inv X pins σ H s):∀b∈frs X.stack,b∈X.env.locals::X.fs:=fun b hb=>by
 rcases I.ok.stk with e|⟨e,hf⟩
 ·rw[e] at hb;exact List.mem_cons_of_mem _ hb
 ·rw[e] at hb
  unfold frs at hb
  rw[List.filterMap_cons,hf] at hb
  exact hb
theorem Inv.stkFree (I:Inv X pins σ H s):∀b∈frs X.stack,H b=none:=fun b hb=>by
 rcases List.mem_cons.mp (I.stkSub b hb) with e|hb
 ·rw[e];exact I.free
 ·obtain ⟨_,o,ho,_⟩:=I.ok.funs.mem hb
  exact I.base.free b o ho (I.ok.frf b hb) fun z=>I.ok.exfs b z hb
theorem Inv.step {g':Array GenState}{t':Nat}{d':Drawn}{ch:List Addr}(I:Inv X pins σ H s)
 (hch:∀b∈ch,(b∈X.ex∨X.s₀.heap.objs.size≤b)∧b≠X.env.locals∧(∀x c,X.env.cells.lookup x=some c→c≠b)∧∀p∈X.pn++pins,p.1≠b)
 (keep:∀b o,b≠X.env.locals→b ∉ X.fs→b ∉ ch→s.heap.get? b=some o→H b=none→h'.get? b=some o)
 (slot:∀b o,b≠X.env.locals→b∈X.fs→b ∉ ch→s.heap.get? b=some o→H b=none→∃sl,h'.get? b=some { o with slots:=sl }) (free:∀b o,b ∉ ch→s.heap.get? b=some o→H b=none→H' b=none)
 (there:∀b o,b ∉ ch→s.heap.get? b=some o→∃o',h'.get? b=some o')
 (tups:∀b xs,H b=some (.tup xs)→H' b=some (.tup xs)) (frzs:∀b o u,H b=some (.frz o u)→H' b=some (.frz o u)) (tbls:∀b ps,H b=some (.tbl ps)→∃more,H' b=some (.tbl (ps++more)))
 (ns:∀m,s.heap.Ns X.env.locals m→h'.Ns X.env.locals m) (hok:HOk X.prog X.w H' h') (hg:AllBare g') :
 Inv X pins σ H' { s with heap:=h',gens:=g',drawn:=d',toks:=t' }:=by
 have neL:∀b o,X.s₀.heap.get? b=some o→b≠X.env.locals:=fun b o e=>Nat.ne_of_lt (Nat.lt_of_lt_of_le (Heap.lt_size e) I.ok.above)
 have neC:∀b o,X.s₀.heap.get? b=some o→b ∉ X.ex→b ∉ ch:=fun b o e hx hb=>by
  rcases (hch b hb).1 with z|z
  ·exact hx z
  ·exact absurd (Nat.lt_of_lt_of_le (Heap.lt_size e) z) (Nat.lt_irrefl _)
 have cellK:∀x c,X.env.cells.lookup x=some c→∀v,s.heap.IsCell c v→h'.IsCell c v:=fun x c e v ⟨o,ho,hd⟩=>by
  have nch:c ∉ ch:=fun z=>(hch c z).2.2.1 x c e rfl
  by_cases hc:c∈X.fs
  ·obtain ⟨sl,q⟩:=slot c o (I.cne x c e) hc nch ho (I.freeC x c e)
   exact⟨_,q,hd⟩
  ·exact⟨o,keep c o (I.cne x c e) hc nch ho (I.freeC x c e),hd⟩
 refine⟨I.ok,I.os,hg,⟨fun b o e n hb hx=>?_,fun b o e n hb hx=>?_,fun b o e n hx=>?_,fun b o e hx=>?_,fun b xs e=>tups b xs (I.base.tups b xs e),fun b o xs e=>frzs b o xs (I.base.frzs b o xs e),fun b ps e=>?_⟩,?_,fun x c e=>?_,?_,fun x c e=>?_,fun p hp=>?_,hok,I.len⟩
 ·exact keep b o (neL b o e) hb (neC b o e hx) (I.base.keep b o e n hb hx) (I.base.free b o e n hx)
 ·obtain ⟨sl,e1⟩:=I.base.slot b o e n hb hx
  obtain ⟨sl',e2⟩:=slot b _ (neL b o e) hb (neC b o e hx) e1 (I.base.free b o e n hx)
  exact⟨sl',e2⟩
 ·obtain ⟨o',e1⟩:=I.base.there b o e hx
  exact free b o' (neC b o e hx) e1 (I.base.free b o e n hx)
 ·obtain ⟨o',e1⟩:=I.base.there b o e hx
  exact there b o' (neC b o e hx) e1
 ·obtain ⟨m1,e1⟩:=I.base.tbls b ps e
  obtain ⟨m2,e2⟩:=tbls b _ e1
  exact⟨m1++m2,by rw[e2,Array.append_assoc]⟩
 ·obtain ⟨m,hn,hl⟩:=I.loc
  refine⟨m,ns m hn,fun i x v e1 e2 e3=>?_⟩
  obtain ⟨u,r,l⟩:=hl i x v e1 e2 e3
  refine⟨u,r,?_⟩
  rcases l with l|⟨k,c,e,z⟩
  ·exact .inl l
  ·exact .inr ⟨k,c,e,cellK x c e _ z⟩
 ·obtain ⟨v,z⟩:=I.cell x c e
  exact⟨v,cellK x c e v z⟩
 ·obtain ⟨m,⟨o,_,_,ho,_⟩,_⟩:=I.loc
  exact free _ o (fun z=>(hch _ z).2.1 rfl) ho I.free
 ·obtain ⟨v,o,ho,hd⟩:=I.cell x c e
  exact free c o (fun z=>(hch c z).2.2.1 x c e rfl) ho (I.freeC x c e)
 ·obtain ⟨e,n,ne,nf,d⟩:=I.pin p hp
  have nch:p.1 ∉ ch:=fun z=>(hch p.1 z).2.2.2 p hp rfl
  exact⟨keep p.1 p.2 ne nf nch e n,free p.1 p.2 nch e n,ne,nf,d⟩
theorem Inv.un {t':Nat}(I:Inv X pins σ H s)(u:Un X.fs [] H H' s.heap h')(hok:HOk X.prog X.w H' h'):Inv X pins σ H' { s with heap:=h',toks:=t' }:=by
 obtain ⟨m,⟨o,es,ep,ho,r⟩,_⟩:=id I.loc
 obtain ⟨sl,hL⟩:=u.any ho I.free (by simp)
 exact I.step (g':=s.gens) (d':=s.drawn) (ch:=[]) (fun _ z=>nomatch z) (fun b o _ hb _ e n=>u.keep b o e n hb (by simp)) (fun b o _ hb _ e n=>u.slot b o e n hb (by simp)) (fun b o _ e n=>u.free b o e n (by simp)) (fun b o _ e=>u.there b o e (by simp)) u.tups u.frzs u.tbls (fun m' hm=>by
  obtain ⟨o',es',ep',ho',r'⟩:=hm
  rw[ho] at ho';cases ho'
  exact⟨_,es',ep',hL,r'⟩) hok I.bare
theorem Inv.call {g':Array GenState}{t':Nat}{d':Drawn}{ch:List Addr}(I:Inv X pins σ H s)(u:Un (frs X.stack) ch H H' s.heap h')(hok:HOk X.prog X.w H' h')(hg:AllBare g')
 (hch:∀b∈ch,(b∈X.ex∨X.s₀.heap.objs.size≤b)∧b≠X.env.locals∧(∀x c,X.env.cells.lookup x=some c→c≠b)∧∀p∈X.pn++pins,p.1≠b) :
 Inv X pins σ H' { s with heap:=h',gens:=g',drawn:=d',toks:=t' }:=by
 obtain ⟨m,⟨o,es,ep,ho,r⟩,_⟩:=id I.loc
 obtain ⟨sl,hL⟩:=u.any ho I.free fun z=>(hch _ z).2.1 rfl
 exact I.step (ch:=ch) hch (fun b o hL hb hc e n=>u.keep b o e n (fun z=>(List.mem_cons.mp (I.stkSub b z)).elim hL hb) hc) (fun b o _ _ hc e n=>u.any e n hc) (fun b o hc e n=>u.free b o e n hc) (fun b o hc e=>u.there b o e hc) u.tups u.frzs u.tbls (fun m' hm=>by
  obtain ⟨o',es',ep',ho',r'⟩:=hm
  rw[ho] at ho';cases ho'
  exact⟨_,es',ep',hL,r'⟩) hok hg
theorem Inv.turned {t':Nat}{it:Addr}(I:Inv X pins σ H s)(k:∀b o,b≠it→s.heap.get? b=some o→h'.get? b=some o)(hn:H it=none)(hL:it≠X.env.locals)
 (h1:it∈X.ex∨X.s₀.heap.objs.size≤it) (h2:∀x c,X.env.cells.lookup x=some c→c≠it) (h3:∀p∈X.pn++pins,p.1≠it):Inv X pins σ H { s with heap:=h',toks:=t' }:=by
 have nit:∀b u,H b=some u→b≠it:=fun b u e z=>by rw[z,hn] at e;cases e
 refine I.step (g':=s.gens) (d':=s.drawn) (ch:=[it]) (fun b hb=>?_) (fun b o _ _ hc e _=>k b o (fun z=>hc (by simp [z])) e) (fun b o _ _ hc e _=>⟨o.slots,k b o (fun z=>hc (by simp [z])) e⟩) (fun _ _ _ _ n=>n)
  (fun b o hc e=>⟨o,k b o (fun z=>hc (by simp [z])) e⟩) (fun _ _ e=>e) (fun _ _ _ e=>e) (fun b ps e=>⟨#[],by rw[e];simp⟩) (fun m hm=>?_) (fun b u e=>?_) I.bare
 ·have e:b=it:=by simpa using hb
  subst e
  exact⟨h1,hL,h2,h3⟩
 ·obtain ⟨o,es,ep,ho,r⟩:=hm
  exact⟨o,es,ep,k _ o (Ne.symm hL) ho,r⟩
 ·refine(I.hok b u e).stay (fun c v hc q=>k c v ?_ q) (fun _ q=>q) fun _ _ q=>q
  rcases hc with z|z
  ·rw[z];exact nit b u e
  ·exact nit c _ z
theorem Inv.tok (I:Inv X pins σ H s)(t:Nat):Inv X pins σ H { s with toks:=t }:=I.un (h':=s.heap) (t':=t) Un.refl I.hok
theorem Inv.kept {t':Nat}(I:Inv X pins σ H s)(k:∀b u,s.heap.get? b=some u→h'.get? b=some u):Inv X pins σ H { s with heap:=h',toks:=t' }:=I.un (Un.kept k) (I.hok.kept k)
theorem Inv.laid {a:Addr}{o:HO}{t':Nat}(I:Inv X pins σ H s)(k:∀b u,s.heap.get? b=some u→h'.get? b=some u)(hp:s.heap.objs.size≤a)(new:ObjOk X.prog X.w (upd H a o) h' a o) :
 Inv X pins σ (upd H a o) { s with heap:=h',toks:=t' }:=I.un (Un.laid k hp (I.hok.fresh hp)) (I.hok.laid k hp new)
theorem Inv.write {x e:Addr}{o:HO}{t':Nat}(I:Inv X pins σ H s)(mu:Mut (H x))(he:e=x∨H e=some (.own x))(k:∀b u,b≠e→s.heap.get? b=some u→h'.get? b=some u)(heo:∃u,h'.get? e=some u)
 (new:ObjOk X.prog X.w (upd H x o) h' x o):Inv X pins σ (upd H x o) { s with heap:=h',toks:=t' }:=I.un (Un.write mu he k heo) (I.hok.write mu he k heo new)
theorem Inv.weak {σ':List (Option V)}(I:Inv X pins σ H s)(hl:σ'.length=σ.length)(w:∀(i:Nat) v,σ'[i]? = some (some v)→σ[i]? = some (some v)):Inv X pins σ' H s:=
 ⟨I.ok,I.os,I.bare,I.base,let ⟨m,hn,hl'⟩:=I.loc;⟨m,hn,fun i x v e1 e2 e3=>hl' i x v e1 (w i v e2) e3⟩,I.cell,I.free,I.freeC,I.pin,I.hok,hl.trans I.len⟩
theorem Inv.pins_of {pins':List (Addr×Obj)}(I:Inv X pins σ H s)(h:∀p∈pins',s.heap.get? p.1=some p.2∧H p.1=none∧p.1≠X.env.locals∧p.1 ∉ X.fs∧∀v,p.2.data≠.cell v):Inv X pins' σ H s:=
 ⟨I.ok,I.os,I.bare,I.base,I.loc,I.cell,I.free,I.freeC,fun p hp=>(List.mem_append.mp hp).elim (fun z=>I.pin p (List.mem_append_left _ z)) (h p),I.hok,I.len⟩
theorem yln {N:List Str}(hN:N.Nodup){i j:Nat}{x:Str}(a:N[i]? = some x)(b:N[j]? = some x):i=j:=by
 obtain ⟨h1,e1⟩:=List.getElem?_eq_some_iff.mp a
 obtain ⟨h2,e2⟩:=List.getElem?_eq_some_iff.mp b
 exact(List.getElem_inj hN).mp (e1.trans e2.symm)
theorem ym7 {M:Model}{A:Around}{E:Value→Shared→Prop}{i:Nat}{x:Str}{v:V}{u:Value}{Q:Unit→Shared→Prop}(I:Inv X pins σ H s)(hN:X.N.Nodup)(hi:X.N[i]? = some x)(hx:Loc X.env.scope x)(r:RelV v u)
 (h:∀s',Inv X pins (σ.set i (some v)) H s'→(∃a,Heap.SameBut a s.heap s'.heap∧(a=X.env.locals∨X.env.cells.lookup x=some a))→Q () s') (hf:X.fn x=true∨X.env.scope.names.lookup x=some .local:=by first|exact .inl rfl|exact .inr rfl|assumption):wpAny M A (storeName X.env x u) Q E s:=by
 obtain ⟨m,hn,hl⟩:=id I.loc
 have hcls:(X.env.scope.kind == .class || (X.env.scope.kind == .module&&X.env.locals != X.env.globals))=false:=by rw[I.ok.kind];rfl
 have hiσ:i<σ.length:=by rw[I.len];exact(List.getElem?_eq_some_iff.mp hi).1
 have cne:=I.cne
 have tracked:∀{a:Addr}{h':Heap},(∃o,s.heap.get? a=some o∧H a=none)→Heap.SameBut a s.heap h'→HOk X.prog X.w H h':=fun {a h'} ha hs b ob e=>by
  obtain ⟨_,_,hfree⟩:=ha
  refine(I.hok b ob e).stay (fun c w' hc q=>(hs.2 c ?_).trans q) (fun _ q=>q) fun _ _ q=>q
  rintro rfl
  rcases hc with rfl|hc
  ·rw[hfree] at e;cases e
  ·rw[hfree] at hc;cases hc
 rcases hx with hk|hk
 ·refine wpAny_storeName_local hk hn (fun h' hn' hs=>?_) hcls
  obtain ⟨oL,_,_,hoL,_⟩:=id hn
  refine h _ ⟨I.ok,I.os,I.bare,⟨fun b o e n hb hx=>?_,fun b o e n hb hx=>?_,I.base.free,fun b o e hx=>?_,I.base.tups,I.base.frzs,I.base.tbls⟩,⟨_,hn',fun j y v' e1 e2 e3=>?_⟩,fun y c e=>?_,I.free,I.freeC,fun p hp=>?_,tracked ⟨oL,hoL,I.free⟩ hs,by simpa using I.len⟩ ⟨_,hs,.inl rfl⟩
  ·exact(hs.2 b (Nat.ne_of_lt (Nat.lt_of_lt_of_le (Heap.lt_size e) I.ok.above))).trans (I.base.keep b o e n hb hx)
  ·obtain ⟨sl,e1⟩:=I.base.slot b o e n hb hx
   exact⟨sl,(hs.2 b (Nat.ne_of_lt (Nat.lt_of_lt_of_le (Heap.lt_size e) I.ok.above))).trans e1⟩
  ·obtain ⟨o',e1⟩:=I.base.there b o e hx
   exact⟨o',(hs.2 b (Nat.ne_of_lt (Nat.lt_of_lt_of_le (Heap.lt_size e) I.ok.above))).trans e1⟩
  ·by_cases hj:j=i
   ·subst hj
    rw[hi] at e1;cases e1
    rw[List.getElem?_set_self hiσ] at e2
    cases e2
    exact⟨u,r,.inl ⟨hk,by simp⟩⟩
   ·rw[List.getElem?_set_ne (Ne.symm hj)] at e2
    obtain ⟨u',r',q⟩:=hl j y v' e1 e2 e3
    refine⟨u',r',?_⟩
    rcases q with ⟨k,e⟩ | ⟨k,c,e,z⟩
    ·refine .inl ⟨k,?_⟩
     have:y≠x:=fun e=>hj (yln hN e1 (e ▸ hi))
     simp [this,e]
    ·exact .inr ⟨k,c,e,z.sameBut hs (cne y c e)⟩
  ·obtain ⟨w',z⟩:=I.cell y c e
   exact⟨w',z.sameBut hs (cne y c e)⟩
  ·obtain ⟨e,n,ne,nf,d⟩:=I.pin p hp
   exact⟨(hs.2 p.1 ne).trans e,n,ne,nf,d⟩
 ·have hfn:X.fn x=true:=by
   rcases hf with z|z
   ·exact z
   ·rw[z] at hk;cases hk
  obtain ⟨c,hc⟩:=I.ok.has x (.inl hk)
  obtain ⟨w',z⟩:=I.cell x c hc
  refine wpAny_storeName_cell I.ok.kind hk hc z (fun h' hc' hs=>?_)
  obtain ⟨oc,hoc,hocd⟩:=id z
  refine h { s with heap:=h' } ⟨I.ok,I.os,I.bare,⟨fun b o e n hb hx=>?_,fun b o e n hb hx=>?_,I.base.free,fun b o e hx=>?_,I.base.tups,I.base.frzs,I.base.tbls⟩,⟨m,hn.sameBut hs (Ne.symm (cne x c hc)),fun j y v' e1 e2 e3=>?_⟩,fun y c' e=>?_,I.free,I.freeC,fun p hp=>?_,tracked ⟨oc,hoc,I.freeC x c hc⟩ hs,by simpa using I.len⟩ ⟨c,hs,.inr hc⟩
  ·exact(hs.2 b (Nat.ne_of_lt (Nat.lt_of_lt_of_le (Heap.lt_size e) (I.ok.cab x c hfn hc)))).trans (I.base.keep b o e n hb hx)
  ·obtain ⟨sl,e1⟩:=I.base.slot b o e n hb hx
   exact⟨sl,(hs.2 b (Nat.ne_of_lt (Nat.lt_of_lt_of_le (Heap.lt_size e) (I.ok.cab x c hfn hc)))).trans e1⟩
  ·obtain ⟨o',e1⟩:=I.base.there b o e hx
   exact⟨o',(hs.2 b (Nat.ne_of_lt (Nat.lt_of_lt_of_le (Heap.lt_size e) (I.ok.cab x c hfn hc)))).trans e1⟩
  ·by_cases hj:j=i
   ·subst hj
    rw[hi] at e1;cases e1
    rw[List.getElem?_set_self hiσ] at e2
    cases e2
    exact⟨u,r,.inr ⟨.inl hk,c,hc,hc'⟩⟩
   ·rw[List.getElem?_set_ne (Ne.symm hj)] at e2
    obtain ⟨u',r',q⟩:=hl j y v' e1 e2 e3
    refine⟨u',r',?_⟩
    rcases q with q|⟨k,c',e,z'⟩
    ·exact .inl q
    ·refine .inr ⟨k,c',e,z'.sameBut hs ?_⟩
     rintro rfl
     exact hj (yln hN e1 (I.ok.inj _ _ _ e hc ▸ hi))
  ·by_cases hcc:c'=c
   ·subst hcc;exact⟨_,hc'⟩
   ·obtain ⟨w2,z2⟩:=I.cell y c' e
    exact⟨w2,z2.sameBut hs hcc⟩
  ·obtain ⟨e,n,ne,nf,d⟩:=I.pin p hp
   refine⟨(hs.2 p.1 ?_).trans e,n,ne,nf,d⟩
   intro q
   rw[q,hoc] at e
   have q':oc=p.2:=Option.some.inj e
   exact d w' (by rw[← q'];exact hocd)
theorem yiq {M:Model}{A:Around}{E:Value→Shared→Prop}{i:Nat}{x:Str}{v:V}{u:Value}{Q:Unit→Shared→Prop}(I:Inv X pins σ H s)(hN:X.N.Nodup)(hi:X.N[i]? = some x)(hx:Loc X.env.scope x)(r:RelV v u)
 (h:∀s',Inv X pins (σ.set i (some v)) H s'→Q () s') (hf:X.fn x=true∨X.env.scope.names.lookup x=some .local:=by first|exact .inl rfl|exact .inr rfl|assumption):wpAny M A (storeName X.env x u) Q E s:=
 ym7 I hN hi hx r (fun s' I' _=>h s' I') hf
theorem Inv.call' {s':Shared}{ch:List Addr}(I:Inv X pins σ H s)(ho:s'.os=s.os)(u:Un (frs X.stack) ch H H' s.heap s'.heap)(hok:HOk X.prog X.w H' s'.heap)(hg:AllBare s'.gens)
 (hch:∀b∈ch,(b∈X.ex∨X.s₀.heap.objs.size≤b)∧b≠X.env.locals∧(∀x c,X.env.cells.lookup x=some c→c≠b)∧∀p∈X.pn++pins,p.1≠b):Inv X pins σ H' s':=by
 obtain ⟨h',g',d',t',o'⟩:=s'
 have e:o'=s.os:=ho
 subst e
 exact I.call (g':=g') (t':=t') (d':=d') u hok hg hch
end
abbrev XK:=Value→Option Addr→Hp→Prop
abbrev St:=List (Option V)
abbrev VK:=V→Hp→Prop
abbrev TE:=St→Hp→VK→Prop
abbrev TT:=St→Hp→(Bool→Hp→Prop)→Prop
abbrev TA:=St→Hp→(List V→Hp→Prop)→Prop
structure Ends where
 nx:St→Hp→Prop
 rt:VK
 bk:St→Hp→Prop:=fun _ _=>False
 ct:St→Hp→Prop:=fun _ _=>False
abbrev TS:=Ends→St→Hp→Prop
def EP (X:Cx)(pins:List (Addr×Obj))(σ:St)(Q:VK)(u:Value)(s':Shared):Prop:=∃v H',Inv X pins σ H' s'∧RelV v u∧Q v H'
def TP (X:Cx)(pins:List (Addr×Obj))(σ:St)(Q:Bool→Hp→Prop)(b:Bool)(s':Shared):Prop:=∃H',Inv X pins σ H' s'∧Q b H'
def AP (X:Cx)(pins:List (Addr×Obj))(σ:St)(Q:List V→Hp→Prop)(us:List Value)(s':Shared):Prop:=∃vs H',Inv X pins σ H' s'∧Vals vs us∧Q vs H'
def SP (X:Cx)(pins:List (Addr×Obj))(D:Ends)(f:Flow)(s':Shared):Prop:=
 match f with
 |.next=>∃σ' H',Inv X pins σ' H' s'∧D.nx σ' H'
 |.brk=>∃σ' H',Inv X pins σ' H' s'∧D.bk σ' H'
 |.cont=>∃σ' H',Inv X pins σ' H' s'∧D.ct σ' H'
 |.ret u=>∃v σ' H',Inv X pins σ' H' s'∧RelV v u∧D.rt v H'
def PE (X:Cx)(e:Expr)(t:TE):Prop:=
 ∀(pins:List (Addr×Obj)) (s:Shared) (σ:St) (H:Hp) (Q:VK),Inv X pins σ H s→t σ H Q→wpAny (model X.prog X.w) X.A (eval e X.env) (EP X pins σ Q) X.xe s
def PT (X:Cx)(e:Expr)(t:TT):Prop:=
 ∀(pins:List (Addr×Obj)) (s:Shared) (σ:St) (H:Hp) (Q:Bool→Hp→Prop),Inv X pins σ H s→t σ H Q→wpAny (model X.prog X.w) X.A (isTrue e X.env (eval e X.env)) (TP X pins σ Q) X.xe s
def PW (X:Cx)(e:Expr)(t:TT):Prop:=
 ∀(whole:Sem Value) (pins:List (Addr×Obj)) (s:Shared) (σ:St) (H:Hp) (Q:Bool→Hp→Prop),Inv X pins σ H s→t σ H Q→wpAny (model X.prog X.w) X.A (isTrue e X.env whole) (TP X pins σ Q) X.xe s
theorem PW.pt {X:Cx}{e:Expr}{t:TT}(h:PW X e t):PT X e t:=h _
def PA (X:Cx)(es:List Expr)(t:TA):Prop:=
 ∀(pos:Pos) (pins:List (Addr×Obj)) (s:Shared) (σ:St) (H:Hp) (Q:List V→Hp→Prop),Inv X pins σ H s→t σ H Q→wpAny (model X.prog X.w) X.A (spliced (backTo pos (starEach es X.env))) (AP X pins σ Q) X.xe s
def PS (X:Cx)(st:Stmt)(t:TS):Prop:=
 ∀(pins:List (Addr×Obj)) (s:Shared) (σ:St) (H:Hp) (D:Ends),Inv X pins σ H s→t D σ H→wpAny (model X.prog X.w) X.A (exec st X.env) (SP X pins D) X.xe s
def PSs (X:Cx)(st:List Stmt)(t:TS):Prop:=
 ∀(pins:List (Addr×Obj)) (s:Shared) (σ:St) (H:Hp) (D:Ends),Inv X pins σ H s→t D σ H→wpAny (model X.prog X.w) X.A (execs st X.env) (SP X pins D) X.xe s
theorem thn {α:Type}{t:Sem α}{Q Q':α→Shared→Prop}{M:Model}{A:Around}{E:Value→Shared→Prop}{s:Shared}(h:wpAny M A t Q E s)(hQ:∀a s,Q a s→Q' a s):wpAny M A t Q' E s:=wpAny_mono h hQ fun _ _ x=>x
section
variable {X:Cx}
def ycc (i:Nat):TE:=fun σ H Q=>∃v,σ[i]? = some (some v)∧Q v H
def tC (v:V):TE:=fun _ H Q=>Q v H
theorem yzu {i:Nat}{x:Str}{pos:Pos} (hN:X.N[i]? = some x) (hv:Vis X.env.scope x) (hd:(x == ("__debug__" : Str))=false:=by decide) (hcd:(x == ("__classdict__" : Str))=false:=by decide):PE X (.Name x pos) (ycc i):=by
 intro pins s σ H Q I h
 obtain ⟨v,e,h⟩:=h
 obtain ⟨m,hn,hl⟩:=I.loc
 obtain ⟨u,r,l⟩:=hl i x v hN e hv
 have fin:EP X pins σ Q u s:=⟨v,H,I,r,h⟩
 rcases l with ⟨hk,hm⟩ | ⟨hk,c,hc,hcell⟩
 ·exact wpAny_Name (wpAny_loadName_local I.ok.kind hk hn hm fin) hd
 ·rcases hk with hk|hk
  ·exact wpAny_Name (wpAny_loadName_cell I.ok.kind hk hc hcell fin) hd
  ·exact wpAny_Name (wpAny_loadName_free I.ok.kind hk hc hcell fin hcd) hd
theorem yaf {i j pos}:PE X (.Constant (.int i) j pos) (tC (.int i)):=fun _ _ _ H _ I h=>wpAny_Constant_int ⟨.int i,H,I.tok _,⟨_,rfl⟩,h⟩
theorem yke {b j pos}:PE X (.Constant (.bool b) j pos) (tC (.bl b)):=fun _ _ _ H _ I h=>Constant_bool ⟨.bl b,H,I,rfl,h⟩
theorem yzv {j pos}:PE X (.Constant .none j pos) (tC .non):=fun _ _ _ H _ I h=>Constant_none ⟨.non,H,I,rfl,h⟩
theorem ybl {x j pos}:PE X (.Constant (.str x) j pos) (tC (.str x)):=fun _ _ _ H _ I h=>Calls.Constant_str ⟨.str x,H,I.tok _,⟨_,rfl⟩,h⟩
def Gl (X:Cx)(x:Str):Prop:=X.env.kindOf x=some .globalImplicit
theorem ylo {E:Value→Shared→Prop}{pins:List (Addr×Obj)}{s:Shared}{σ:St}{H:Hp}{x:Str}{u:Value}{pos:Pos}{Q:Value→Shared→Prop}(I:Inv X pins σ H s)(hg:Gl X x)(hm:X.mg x=some u)(h:Q u s)
 (hd:(x == ("__debug__" : Str))=false:=by decide):wpAny (model X.prog X.w) X.A (eval (.Name x pos) X.env) Q E s :=
 Calls.Name_function_global I.ok.kind hg (Calls.loadGlobal_global (by rw[I.ok.glob];exact I.mod.glob.keeps I.bk) hm h) hd
theorem yiz {E:Value→Shared→Prop}{pins:List (Addr×Obj)}{s:Shared}{σ:St}{H:Hp}{x:Str}{u:Value}{pos:Pos}{Q:Value→Shared→Prop}(I:Inv X pins σ H s)(hg:Gl X x)(hm:X.mg x=none)(hv:bootBuiltins x=some u)(h:Q u s)
 (hn:x ≠ "__name__" := by decide) (hd:(x == ("__debug__" : Str))=false:=by decide):wpAny (model X.prog X.w) X.A (eval (.Name x pos) X.env) Q E s:=by
 obtain ⟨mb,h1,h2⟩:=I.mod.blt
 exact Calls.Name_function_global I.ok.kind hg (Calls.loadGlobal_builtin (by rw[I.ok.glob];exact I.mod.glob.keeps I.bk) hm (by rw[I.ok.blt];exact h1.keeps I.bk) ((h2 x hn).trans hv) h) hd
theorem yfp {x:Str}{v:V}{u:Value}{pos:Pos} (hg:Gl X x) (hm:X.mg x=some u) (r:RelV v u) (hd:(x == ("__debug__" : Str))=false:=by decide):PE X (.Name x pos) (tC v) :=
 fun _ _ _ H _ I h=>ylo I hg hm ⟨v,H,I,r,h⟩ hd
theorem yx3 {x:Str}{v:V}{u:Value}{pos:Pos} (hg:Gl X x) (hm:X.mg x=none) (hv:bootBuiltins x=some u) (r:RelV v u) (hn:x ≠ "__name__" := by decide) (hd:(x == ("__debug__" : Str))=false:=by decide):PE X (.Name x pos) (tC v) :=
 fun _ _ _ H _ I h=>yiz I hg hm hv ⟨v,H,I,r,h⟩ hn hd
variable {a b:Expr}{ta tb:TE}{pos:Pos}
variable {tA tB':TT}{rest:List Expr}
def zcy (t u:TT):TT:=fun σ H Q=>t σ H fun c H1=>if c=true then u σ H1 Q else Q false H1
def tOr (t u:TT):TT:=fun σ H Q=>t σ H fun c H1=>if c=true then Q true H1 else u σ H1 Q
def zcj (t:TT):TT:=fun σ H Q=>t σ H fun c H1=>Q (!c) H1
theorem ylp (ha:PT X a tA):PW X (.BoolOp .And [a] pos) tA:=by
 intro wh pins s σ H Q I h
 refine isTrue_and (thn (ha pins s σ H Q I h) fun c s1 e=>?_)
 cases c with
 |true=>exact isTrue_and_nil e
 |false=>exact e
theorem ykv (ha:PT X a tA):PW X (.BoolOp .Or [a] pos) tA:=by
 intro wh pins s σ H Q I h
 refine isTrue_or (thn (ha pins s σ H Q I h) fun c s1 e=>?_)
 cases c with
 |false=>exact isTrue_or_nil e
 |true=>exact e
theorem ym8 (ha:PT X a tA)(hb:PW X (.BoolOp .And (b::rest) pos) tB'):PW X (.BoolOp .And (a::b::rest) pos) (zcy tA tB'):=by
 intro wh pins s σ H Q I h
 refine isTrue_and (thn (ha pins s σ H _ I h) fun c s1 ⟨H1,I1,q1⟩=>?_)
 cases c with
 |true=>exact hb wh pins s1 σ H1 Q I1 q1
 |false=>exact⟨H1,I1,q1⟩
theorem yo1 (ha:PT X a tA)(hb:PW X (.BoolOp .Or (b::rest) pos) tB'):PW X (.BoolOp .Or (a::b::rest) pos) (tOr tA tB'):=by
 intro wh pins s σ H Q I h
 refine isTrue_or (thn (ha pins s σ H _ I h) fun c s1 ⟨H1,I1,q1⟩=>?_)
 cases c with
 |true=>exact⟨H1,I1,q1⟩
 |false=>exact hb wh pins s1 σ H1 Q I1 q1
theorem yfa (ha:PT X a tA):PT X (.UnaryOp .Not a pos) (zcj tA):=by
 intro pins s σ H Q I h
 exact isTrue_not (ha pins s σ H (fun c H1=>Q (!c) H1) I h)
def zbl (ta tb:TE):TE:=fun σ H Q=>ta σ H fun x H1=>∃c,x = .bl c∧if c=true then tb σ H1 Q else Q (.bl false) H1
theorem yxf {op}{t:TE}(h:PE X a t):PE X (.BoolOp op [a] pos) t:=fun pins s σ H Q I hw=>BoolOp_one (h pins s σ H Q I hw)
theorem yzw (ha:PE X a ta)(hb:PE X (.BoolOp .And (b::rest) pos) tb):PE X (.BoolOp .And (a::b::rest) pos) (zbl ta tb):=by
 intro pins s σ H Q I h
 refine BoolOp_and (thn (ha pins s σ H _ I h) fun v s1 ⟨x,H1,I1,r1,q1⟩=>?_)
 obtain ⟨c,rfl,q1⟩:=q1
 cases r1
 refine wpAny_truthy_bool ?_
 cases c with
 |true=>exact hb pins s1 σ H1 Q I1 q1
 |false=>exact⟨.bl false,H1,I1,rfl,q1⟩
def tIf (t:TT)(ta tb:TE):TE:=fun σ H Q=>t σ H fun c H1=>if c=true then ta σ H1 Q else tb σ H1 Q
theorem ylq {c:Expr}(hc:PT X c tA)(ha:PE X a ta)(hb:PE X b tb):PE X (.IfExp c a b pos) (tIf tA ta tb):=by
 intro pins s σ H Q I h
 refine wpAny_IfExp (thn (hc pins s σ H _ I h) fun d s1 ⟨H1,I1,q1⟩=>?_)
 cases d with
 |true=>exact ha pins s1 σ H1 Q I1 q1
 |false=>exact hb pins s1 σ H1 Q I1 q1
end
def SqL (K:PySem.W.Frag)(H:Hp)(a:Addr)(xs:List V):Prop:=
 Rd H a (.lst xs)∨
  ∃(o:Obj) (its:Array Value) (n:Nat),K.lookup a=some o∧o.cls = .type "list" ∧ o.dict=none∧o.data = .seq its n∧its.size≤sizeLine∧Vals xs its.toList
def SqT (K:PySem.W.Frag)(H:Hp)(a:Addr)(xs:List V):Prop:=
 Rd H a (.tup xs)∨
  ∃(o:Obj) (its:Array Value) (n:Nat),K.lookup a=some o∧o.cls = .type "tuple" ∧ o.data = .seq its n∧its.size≤sizeLine∧Vals xs its.toList
def zcz:Value→Option V
 |.none=>some .non
 |.bool b=>some (.bl b)
 |.int i _=>some (.int i)
 |.str x _=>some (.str x)
 |.bytes b _=>some (.byt b)
 |.float b _=>some (.flt b)
 |.ref a=>some (.ref a)
 |.type n=>some (.ty n)
 |_=>none
theorem RelV.abs {x:V}{u:Value}(r:RelV x u):zcz u=some x:=by
 cases x with
 |non=>cases r;rfl
 |bl _=>cases r;rfl
 |int _=>obtain ⟨t,rfl⟩:=r;rfl
 |str _=>obtain ⟨t,rfl⟩:=r;rfl
 |byt _=>obtain ⟨t,rfl⟩:=r;rfl
 |flt _=>obtain ⟨t,rfl⟩:=r;rfl
 |ref _=>cases r;rfl
 |ty _=>cases r;rfl
theorem RelV.inj {x y:V}{u:Value}(r:RelV x u)(q:RelV y u):x=y:=Option.some.inj (r.abs.symm.trans q.abs)
theorem Vals.inj:∀{xs ys:List V}{us:List Value},Vals xs us→Vals ys us→xs=ys
 |_,_,_,.nil,.nil=>rfl
 |_,_,_,.cons r t,.cons r' t'=>by rw[r.inj r',Vals.inj t t']
section
variable {X:Cx}{pins:List (Addr×Obj)}{σ:St}{H:Hp}{s:Shared}{a:Addr}{xs ys:List V}
theorem SqL.of {K:PySem.W.Frag}(h:H a=some (.lst xs)):SqL K H a xs:=.inl (.inl h)
theorem SqT.of {K:PySem.W.Frag}(h:H a=some (.tup xs)):SqT K H a xs:=.inl (.inl h)
theorem Inv.list (I:Inv X pins σ H s)(h:SqL X.K H a xs):∃its:List Value,Vals xs its∧PlainL s.heap a its.toArray∧xs.length≤sizeLine:=by
 rcases h with h|⟨o,its,n,hk,hc,hd,hs,hz,r⟩
 ·obtain ⟨z,its,n,r,e⟩:=h.ok I.hok
  exact⟨its,r,⟨_,n,e,rfl,rfl,rfl⟩,z⟩
 ·refine⟨its.toList,r,⟨o,n,I.kIn a o hk,hc,hd,by simpa using hs⟩,?_⟩
  have e:=r.length
  simp only[Array.length_toList] at e
  omega
theorem Inv.tuple (I:Inv X pins σ H s)(h:SqT X.K H a xs):∃its:List Value,Vals xs its∧IsTup s.heap a its.toArray∧xs.length≤sizeLine:=by
 rcases h with h|⟨o,its,n,hk,hc,hs,hz,r⟩
 ·obtain ⟨z,its,r,p⟩:=h.ok I.hok
  exact⟨its,r,p,z⟩
 ·refine⟨its.toList,r,⟨o,I.kIn a o hk,hc,n,by simpa using hs⟩,?_⟩
  have e:=r.length
  simp only[Array.length_toList] at e
  omega
theorem Inv.list_inj (I:Inv X pins σ H s)(h:SqL X.K H a xs)(h':SqL X.K H a ys):xs=ys:=by
 obtain ⟨its,r,⟨o,n,e,_,_,d⟩,_⟩:=I.list h
 obtain ⟨its',r',⟨o',n',e',_,_,d'⟩,_⟩:=I.list h'
 rw[e] at e';cases e'
 rw[d] at d'
 injection d' with d1 _
 have:its=its':=by simpa using congrArg Array.toList d1
 subst this
 exact r.inj r'
theorem Inv.tuple_inj (I:Inv X pins σ H s)(h:SqT X.K H a xs)(h':SqT X.K H a ys):xs=ys:=by
 obtain ⟨its,r,⟨o,e,_,n,d⟩,_⟩:=I.tuple h
 obtain ⟨its',r',⟨o',e',_,n',d'⟩,_⟩:=I.tuple h'
 rw[e] at e';cases e'
 rw[d] at d'
 injection d' with d1 _
 have:its=its':=by simpa using congrArg Array.toList d1
 subst this
 exact r.inj r'
end
abbrev Cx.wish (X:Cx)(E:Value→Shared→Prop):Cx:={ X with xe:=E }
abbrev Cx.nox (X:Cx):Cx:=X.wish fun _ _=>False
theorem Cx.Ok.wish {X:Cx}(ok:X.Ok)(E:Value→Shared→Prop):(X.wish E).Ok:=
 ⟨ok.mod,ok.kind,ok.glob,ok.blt,ok.above,ok.inj,ok.has,ok.cab,ok.hd,ok.frames,ok.stk,ok.exf,ok.bs,ok.bsz,ok.noex,ok.exfs,ok.funs,ok.frf⟩
theorem Cx.Ok.unwish {X:Cx}{E:Value→Shared→Prop}(ok:(X.wish E).Ok):X.Ok:=
 ⟨ok.mod,ok.kind,ok.glob,ok.blt,ok.above,ok.inj,ok.has,ok.cab,ok.hd,ok.frames,ok.stk,ok.exf,ok.bs,ok.bsz,ok.noex,ok.exfs,ok.funs,ok.frf⟩
section
variable {X:Cx}{pins:List (Addr×Obj)}{σ:St}{H:Hp}{s:Shared}{E:Value→Shared→Prop}
theorem Inv.wish (I:Inv X pins σ H s)(E:Value→Shared→Prop):Inv (X.wish E) pins σ H s:=⟨I.ok.wish E,I.os,I.bare,I.base,I.loc,I.cell,I.free,I.freeC,I.pin,I.hok,I.len⟩
theorem Inv.unwish (I:Inv (X.wish E) pins σ H s):Inv X pins σ H s:=⟨I.ok.unwish,I.os,I.bare,I.base,I.loc,I.cell,I.free,I.freeC,I.pin,I.hok,I.len⟩
theorem SP.unwish {D:Ends}{f:Flow}{s':Shared}(h:SP (X.wish E) pins D f s'):SP X pins D f s':=by
 cases f with
 |next=>obtain ⟨σ',H',I,q⟩:=h;exact⟨σ',H',I.unwish,q⟩
 |brk=>obtain ⟨σ',H',I,q⟩:=h;exact⟨σ',H',I.unwish,q⟩
 |cont=>obtain ⟨σ',H',I,q⟩:=h;exact⟨σ',H',I.unwish,q⟩
 |ret u=>obtain ⟨v,σ',H',I,r,q⟩:=h;exact⟨v,σ',H',I.unwish,r,q⟩
theorem PSs.nox {st:List Stmt}{t:TS}(h:PSs X.nox st t):PSs X st t:=fun pins s σ H D I hw=>
 wpAny_mono (h pins s σ H D (I.wish _) hw) (fun _ _ q=>q.unwish) fun _ _ z=>False.elim z
end
section
variable {X:Cx}{st:Stmt}{rest:List Stmt}{t u:TS}{e:Expr}{te:TE}{pos:Pos}
def zbm:TS:=fun D σ H=>D.nx σ H
def zbn (t u:TS):TS:=fun D σ H=>t { D with nx:=u D } σ H
theorem ya6:PSs X [] zbm:=fun _ _ σ H _ I h=>wpAny_execs_nil ⟨σ,H,I,h⟩
theorem yae (h1:PS X st t)(h2:PSs X rest u):PSs X (st::rest) (zbn t u):=by
 intro pins s σ H D I h
 refine wpAny_execs_cons (thn (h1 pins s σ H { D with nx:=u D } I h) fun f s1 q=>?_)
 cases f with
 |next=>
  obtain ⟨σ',H',I',q⟩:=q
  exact h2 pins s1 σ' H' D I' q
 |ret v=>exact q
 |brk=>exact q
 |cont=>exact q
theorem yah (h1:PS X st t):PSs X [st] t:=by
 intro pins s σ H D I h
 refine wpAny_execs_cons (thn (h1 pins s σ H D I h) fun f s1 q=>?_)
 cases f with
 |next=>exact wpAny_execs_nil q
 |ret v=>exact q
 |brk=>exact q
 |cont=>exact q
theorem Inv.quiet {pins:List (Addr×Obj)}{σ:St}{H:Hp}{s:Shared}(I:Inv X pins σ H s):interactive X.env=false:=by simp [interactive,I.ok.kind]
def zbo (te:TE):TS:=fun D σ H=>te σ H fun _ H1=>D.nx σ H1
theorem ybm (he:PE X e te)(hs:swapsWith e none pos.line X.env=pure false:=by rfl):PS X (.Expr e pos) (zbo te):=by
 intro pins s σ H D I h
 exact wpAny_Expr_any (thn (he pins s σ H _ I h) fun v s1 ⟨x,H1,I1,r1,q1⟩=>⟨σ,H1,I1,q1⟩) I.quiet hs
def ysq (te:TE):TS:=fun D σ H=>te σ H D.rt
theorem yat (he:PE X e te):PS X (.Return (some e) pos) (ysq te):=by
 intro pins s σ H D I h
 exact wpAny_Return_some (thn (he pins s σ H _ I h) fun v s1 ⟨x,H1,I1,r1,q1⟩=>⟨x,σ,H1,I1,r1,q1⟩)
def zc0 (c:TT)(t u:TS):TS:=fun D σ H=>c σ H fun b H1=>if b=true then t D σ H1 else u D σ H1
theorem yb7 {c:Expr}{a b:List Stmt}{tc:TT}(hc:PT X c tc)(ha:PSs X a t)(hb:PSs X b u):PS X (.If c a b pos) (zc0 tc t u):=by
 intro pins s σ H D I h
 refine wpAny_If (thn (hc pins s σ H _ I h) fun d s1 ⟨H1,I1,q1⟩=>?_)
 cases d with
 |true=>exact ha pins s1 σ H1 D I1 q1
 |false=>exact hb pins s1 σ H1 D I1 q1
end
abbrev TG:=V→St→Hp→(St→Hp→Prop)→Prop
abbrev TGs:=List V→St→Hp→(St→Hp→Prop)→Prop
def PG (X:Cx)(target:Expr)(t:TG):Prop:=
 ∀(pins:List (Addr×Obj)) (s:Shared) (σ:St) (H:Hp) (v:V) (u:Value) (Q:St→Hp→Prop),Inv X pins σ H s→RelV v u→t v σ H Q→
  wpAny (model X.prog X.w) X.A (assign target X.env u) (fun _ s'=>∃σ' H',Inv X pins σ' H' s'∧Q σ' H') X.xe s
def PGs (X:Cx)(ts:List Expr)(t:TGs):Prop:=
 ∀(pins:List (Addr×Obj)) (s:Shared) (σ:St) (H:Hp) (vs:List V) (us:List Value) (Q:St→Hp→Prop),Inv X pins σ H s→Vals vs us→t vs σ H Q→
  wpAny (model X.prog X.w) X.A (assignInOrder ((assignEach ts X.env).map (·.2)) us) (fun _ s'=>∃σ' H',Inv X pins σ' H' s'∧Q σ' H') X.xe s
abbrev yzx:=V→V→V→Hp→(Hp→Prop)→Prop
def zbp (X:Cx)(t:yzx):Prop:=
 ∀(pins:List (Addr×Obj)) (s:Shared) (σ:St) (H:Hp) (o i v:V) (ov iv u:Value) (Q:Hp→Prop),Inv X pins σ H s→RelV o ov→RelV i iv→RelV v u→t o i v H Q→
  wpAny (model X.prog X.w) X.A (setItem ov iv u) (fun _ s'=>∃H',Inv X pins σ H' s'∧Q H') X.xe s
abbrev TIp:=V→V→Hp→VK→Prop
def PIp (X:Cx)(op:Operator)(t:TIp):Prop:=
 ∀(pins:List (Addr×Obj)) (s:Shared) (σ:St) (H:Hp) (x y:V) (v u:Value) (Q:VK),Inv X pins σ H s→RelV x v→RelV y u→t x y H Q→
  wpAny (model X.prog X.w) X.A (inplaceOp op v u) (EP X pins σ Q) X.xe s
section
variable {X:Cx}{pos:Pos}
def ybg (i:Nat):TG:=fun v σ H Q=>Q (σ.set i (some v)) H
theorem yai {i:Nat}{x:Str}(hN:X.N.Nodup)(hi:X.N[i]? = some x)(hx:Loc X.env.scope x)(hf:X.fn x=true∨X.env.scope.names.lookup x=some .local:=by first|exact .inl rfl|exact .inr rfl|assumption):PG X (.Name x pos) (ybg i):=by
 intro pins s σ H v u Q I r h
 exact wpAny_assign_Name (yiq I hN hi hx r (fun s' I'=>⟨_,H,I',h⟩) hf)
def ym5:TGs:=fun vs σ H Q=>vs=[]∧Q σ H
def ybw (t:TG)(u:TGs):TGs:=fun vs σ H Q=>∃v r,vs=v::r∧t v σ H fun σ' H'=>u r σ' H' Q
theorem yax:PGs X [] ym5:=by
 intro pins s σ H vs us Q I r h
 obtain ⟨e,h⟩:=h
 subst e
 cases r
 exact assignInOrder_nil ⟨σ,H,I,h⟩
theorem yag {e:Expr}{es:List Expr}{t:TG}{u:TGs}(h1:PG X e t)(h2:PGs X es u)
 (hs:(assignEach (e::es) X.env).map (·.2)=assign e X.env::(assignEach es X.env).map (·.2):=by rfl):PGs X (e::es) (ybw t u):=by
 intro pins s σ H vs us Q I r h
 obtain ⟨v,vr,e1,h⟩:=h
 subst e1
 cases r with
 |cons r rr=>
  rw[hs]
  refine assignInOrder_cons (thn (h1 pins s σ H _ _ _ I r h) fun _ s1 ⟨σ1,H1,I1,q1⟩=>?_)
  exact h2 pins s1 σ1 H1 _ _ Q I1 rr q1
def ym6 (K:PySem.W.Frag)(n:Nat)(t:TGs):TG:=fun v σ H Q=>∃a xs,v = .ref a∧SqT K H a xs∧xs.length=n∧t xs σ H Q
theorem ya8 {es:List Expr}{k:Nat}{t:TGs}{n:Nat}(hc:X.calm=true)(h:PGs X es t)
 (hn:(assignEach es X.env).length=n:=by rfl) (hst:(assignEach es X.env).findIdx? (·.1)=none:=by rfl):PG X (.Tuple es k pos) (ym6 X.K n t):=by
 intro pins s σ H v u Q I r hw
 obtain ⟨a,xs,e1,hq,hl,hw⟩:=hw
 subst e1
 cases r
 obtain ⟨its,rv,ht,hz⟩:=I.tuple hq
 refine assign_Tuple_tuple (I.ok.hd hc) ht (by simp [hn,← hl,rv.length]) hst fun h' hx=>?_
 have I1:Inv X pins σ H { s with heap:=h' }:=I.kept (t':=s.toks) fun b o e=>hx b o (Nat.ne_of_lt (Heap.lt_size e)) e
 exact h pins _ σ H xs _ Q I1 (by simpa using rv) hw
def zc1 (to ti:TE)(t:yzx):TG:=fun v σ H Q=>to σ H fun o H1=>ti σ H1 fun i H2=>t o i v H2 fun H3=>Q σ H3
theorem yg3 {o i:Expr}{to ti:TE}{t:yzx}(ho:PE X o to)(hi:PE X i ti)(hs:zbp X t)
 (ha:∀v,assign (.Subscript o i pos) X.env v=(do
  let ov ← holding [v] (eval o X.env)
  let iv ← holding [v,ov] (eval i X.env)
  standAt pos
  holding [v,ov,iv] (setItem ov iv v)
  release [v,ov,iv] []):=by intro _;rfl):PG X (.Subscript o i pos) (zc1 to ti t):=by
 intro pins s σ H v u Q I r h
 rw[ha]
 refine zwb0 (wpAny_holding (thn (ho pins s σ H _ I h) fun ov s1 ⟨x,H1,I1,r1,q1⟩=>?_))
 refine zwb0 (wpAny_holding (thn (hi pins s1 σ H1 _ I1 q1) fun iv s2 ⟨y,H2,I2,r2,q2⟩=>?_))
 refine zwb0 (wpAny_standAt (zwb0 (wpAny_holding (thn (hs pins s2 σ H2 x y v ov iv u _ I2 r1 r2 r q2) fun _ s3 ⟨H3,I3,q3⟩=>?_))))
 exact wpAny_release ⟨σ,H3,I3,q3⟩
def zbq (te:TE)(g:TG):TS:=fun D σ H=>te σ H fun x H1=>g x σ H1 D.nx
theorem ych {tg e:Expr}{te:TE}{g:TG}(he:PE X e te)(hg:PG X tg g)(hs:swapsWithSole [tg] e pos.line X.env=pure false:=by rfl)(hw:swappedStores [tg] e X.env=pure none:=by rfl)
 (h1:(assignEach [tg] X.env).map (·.2)=[assign tg X.env]:=by rfl):PS X (.Assign [tg] e pos) (zbq te g):=by
 intro pins s σ H D I h
 refine wpAny_Assign_stores (thn (he pins s σ H _ I h) fun v s1 ⟨x,H1,I1,r1,q1⟩=>?_) hs hw
 rw[h1]
 exact thn (hg pins s1 σ H1 x v _ I1 r1 q1) fun _ s2 q=>q
theorem yas {i:Nat}{x:Str}{e:Expr}{te:TE}{pos':Pos}(hN:X.N.Nodup)(hi:X.N[i]? = some x)(hx:Loc X.env.scope x)(he:PE X e te)(hs:swapsWith e (some (.Name x pos')) pos.line X.env=pure false:=by rfl)(hf:X.fn x=true∨X.env.scope.names.lookup x=some .local:=by first|exact .inl rfl|exact .inr rfl|assumption) :
 PS X (.Assign [.Name x pos'] e pos) (zbq te (ybg i)):=by
 intro pins s σ H D I h
 refine wpAny_Assign_Name (thn (he pins s σ H _ I h) fun v s1 ⟨y,H1,I1,r1,q1⟩=>?_) hs
 exact yiq I1 hN hi hx r1 (fun s2 I2=>⟨_,H1,I2,q1⟩) hf
def zc2 (i:Nat)(te:TE)(ti:TIp):TS:=fun D σ H=>∃x,σ[i]? = some (some x)∧te σ H fun y H1=>ti x y H1 fun z H2=>D.nx (σ.set i (some z)) H2
theorem yxg {i:Nat}{x:Str}{e:Expr}{te:TE}{op:Operator}{ti:TIp}{pos':Pos}(hN:X.N.Nodup)(hi:X.N[i]? = some x)(hx:Loc X.env.scope x)(he:PE X e te)(ho:PIp X op ti)(hf:X.fn x=true∨X.env.scope.names.lookup x=some .local:=by first|exact .inl rfl|exact .inr rfl|assumption) :
 PS X (.AugAssign (.Name x pos') op e pos) (zc2 i te ti):=by
 intro pins s σ H D I h
 obtain ⟨v,e1,h⟩:=h
 obtain ⟨m,hn,hl⟩:=I.loc
 have vis:Vis X.env.scope x:=by rcases hx with k|k;exact .inl k;exact .inr (.inl k)
 obtain ⟨u,r,l⟩:=hl i x v hi e1 vis
 refine wpAny_AugAssign_Name ?_
 have go:wpAny (model X.prog X.w) X.A (eval e X.env) (fun w s₂=>wpAny (model X.prog X.w) X.A (inplaceOp op u w) (fun r s₃=>wpAny (model X.prog X.w) X.A (storeName X.env x r) (fun _=>SP X pins D .next) X.xe s₃) X.xe s₂) X.xe s:=by
  refine thn (he pins s σ H _ I h) fun w s1 ⟨y,H1,I1,r1,q1⟩=>?_
  refine thn (ho pins s1 σ H1 v y u w _ I1 r r1 q1) fun z s2 ⟨zv,H2,I2,r2,q2⟩=>?_
  exact yiq I2 hN hi hx r2 (fun s3 I3=>⟨_,H2,I3,q2⟩) hf
 rcases l with ⟨hk,hm⟩ | ⟨hk,c,hc,hcell⟩
 ·exact wpAny_loadName_local I.ok.kind hk hn hm go
 ·rcases hk with hk|hk
  ·exact wpAny_loadName_cell I.ok.kind hk hc hcell go
  ·rcases hx with k|k
   ·have:X.env.scope.names.lookup x=some .free:=hk
    rw[k] at this;cases this
   ·have:X.env.scope.names.lookup x=some .free:=hk
    rw[k] at this;cases this
def zbr (to ti te:TE)(tget:V→V→Hp→VK→Prop)(tip:TIp)(tset:yzx):TS:=fun D σ H=>to σ H fun o H1=>ti σ H1 fun i H2=>tget o i H2 fun x H3=>te σ H3 fun y H4=>tip x y H4 fun z H5=>tset o i z H5 fun H6=>D.nx σ H6
def zck (X:Cx)(t:V→V→Hp→VK→Prop):Prop:=
 ∀(pins:List (Addr×Obj)) (s:Shared) (σ:St) (H:Hp) (o i:V) (ov iv:Value) (Q:VK),Inv X pins σ H s→RelV o ov→RelV i iv→t o i H Q→
  wpAny (model X.prog X.w) X.A (getItem ov iv) (EP X pins σ Q) X.xe s
theorem ysr {o i e:Expr}{to ti te:TE}{tget:V→V→Hp→VK→Prop}{tip:TIp}{tset:yzx}{op:Operator}{tpos:Pos}(ho:PE X o to)(hi:PE X i ti)(hg:zck X tget)(he:PE X e te)(hp:PIp X op tip)(hs:zbp X tset)
 (ha:∀ov iv new,augStore i ov iv new=(do holding [new,ov,iv] (setItem ov iv new);release [new,ov,iv] [];pure .next):=by intros;rfl):PS X (.AugAssign (.Subscript o i tpos) op e pos) (zbr to ti te tget tip tset):=by
 intro pins s σ H D I h
 refine wpAny_AugAssign_SubscriptAny (thn (ho pins s σ H _ I h) fun ov s1 ⟨x1,H1,I1,r1,q1⟩=>?_) ha
 refine thn (hi pins s1 σ H1 _ I1 q1) fun iv s2 ⟨x2,H2,I2,r2,q2⟩=>?_
 refine thn (hg pins s2 σ H2 x1 x2 ov iv _ I2 r1 r2 q2) fun old s3 ⟨x3,H3,I3,r3,q3⟩=>?_
 refine thn (he pins s3 σ H3 _ I3 q3) fun v s4 ⟨x4,H4,I4,r4,q4⟩=>?_
 refine thn (hp pins s4 σ H4 x3 x4 old v _ I4 r3 r4 q4) fun new s5 ⟨x5,H5,I5,r5,q5⟩=>?_
 exact thn (hs pins s5 σ H5 x1 x2 x5 ov iv new _ I5 r1 r2 r5 q5) fun _ s6 ⟨H6,I6,q6⟩=>⟨σ,H6,I6,q6⟩
def ipI (f:Int→Int→Int):TIp:=fun x y H Q=>∃i j,x = .int i∧y = .int j∧Q (.int (f i j)) H
theorem yxh:PIp X .Add (ipI fun i j=>i+j):=by
 intro pins s σ H x y v u Q I r1 r2 h
 obtain ⟨i,j,e1,e2,q⟩:=h
 subst e1;subst e2
 obtain ⟨t,rfl⟩:=r1
 obtain ⟨t',rfl⟩:=r2
 exact iadd_int ⟨.int _,H,I.tok _,⟨_,rfl⟩,q⟩
theorem yxi:PIp X .Sub (ipI fun i j=>i-j):=by
 intro pins s σ H x y v u Q I r1 r2 h
 obtain ⟨i,j,e1,e2,q⟩:=h
 subst e1;subst e2
 obtain ⟨t,rfl⟩:=r1
 obtain ⟨t',rfl⟩:=r2
 exact isub_int ⟨.int _,H,I.tok _,⟨_,rfl⟩,q⟩
end
section
variable {X:Cx}{pos:Pos}
end
structure It where
 go:Nat→Hp→Prop
 yld:Nat→Hp→V→Hp→Prop
 stop:Nat→Hp→Prop
def ygv (X:Cx)(pins:List (Addr×Obj))(H:Hp)(b:Addr):Prop:=
 H b=none∧b≠X.env.locals∧b ∉ X.fs∧(b∈X.ex∨X.s₀.heap.objs.size≤b)∧(∀x c,X.env.cells.lookup x=some c→c≠b)∧∀p∈X.pn++pins,p.1≠b
theorem Inv.fpOk {X:Cx}{pins:List (Addr×Obj)}{σ:St}{H H':Hp}{s:Shared}{b:Addr}(I:Inv X pins σ H s)(hb:s.heap.objs.size≤b)(hn:H' b=none):ygv X pins H' b:=by
 refine⟨hn,Nat.ne_of_gt (Nat.lt_of_lt_of_le I.lt hb),I.nofs hb,.inr (Nat.le_trans I.sz hb),fun x c e z=>?_,fun p hp z=>?_⟩
 ·obtain ⟨v,q⟩:=I.cell x c e
  exact absurd (Nat.lt_of_lt_of_le q.lt (by rw[z];exact hb)) (Nat.lt_irrefl _)
 ·exact absurd (Nat.lt_of_lt_of_le (Heap.lt_size (I.pin p hp).1) (by rw[z];exact hb)) (Nat.lt_irrefl _)
structure Turn (P:Program) (w:World) (K:PySem.W.Frag) (tg:Expr) (J:It) (fp:List Addr) (it:Addr) (tn:Nat→Heap→Prop):Prop where
 mem:it∈fp
 obj:∀i h,tn i h→∀b∈fp,∃o,h.get? b=some o∧∀v,o.data≠.cell v
 keep:∀i h h',tn i h→(∀b∈fp,∀o,h.get? b=some o→h'.get? b=some o)→tn i h'
 item:∀(X:Cx),X.prog=P→X.w=w→X.K=K→X.calm=true→∀(i:Nat) (pins:List (Addr×Obj)) (s:Shared) (σ:St) (H:Hp) (E:Value→Shared→Prop),Inv X pins σ H s→(∀b∈fp,ygv X pins H b)→tn i s.heap→J.go i H→
  wpAny (model P w) X.A (pyNext (.ref it)) (fun r s1=>∃u,r=some u∧
   wpAny (model P w) X.A (letOwnedTupleGo tg (.ref it) u) (fun _ s2=>∃x H',Inv X pins σ H' s2∧RelV x u∧J.yld i H x H'∧tn (i+1) s2.heap∧∀b∈fp,H' b=none) E s1) E s
 done:∀(X:Cx),X.prog=P→X.w=w→X.K=K→X.calm=true→∀(i:Nat) (pins:List (Addr×Obj)) (s:Shared) (σ:St) (H:Hp) (E:Value→Shared→Prop),Inv X pins σ H s→(∀b∈fp,ygv X pins H b)→tn i s.heap→J.stop i H→
  wpAny (model P w) X.A (pyNext (.ref it)) (fun r s1=>r=none∧Inv X pins σ H s1) E s
 self:∀(A:Around) (i:Nat) (s:Shared) (Q:Value→Shared→Prop) (E:Value→Shared→Prop),tn i s.heap→Q (.ref it) s→wpAny (model P w) A (pyIter (.ref it)) Q E s
abbrev TI:=St→Hp→(It→Hp→Prop)→Prop
def PIE (X:Cx)(pins:List (Addr×Obj))(σ:St)(tg:Expr)(R:It→Hp→Prop)(itv:Value)(s2:Shared):Prop:=
 ∃(it:Addr) (fp:List Addr) (tn:Nat→Heap→Prop) (J:It) (H':Hp),itv = .ref it∧Inv X pins σ H' s2∧Turn X.prog X.w X.K tg J fp it tn∧tn 0 s2.heap∧(∀b∈fp,ygv X pins H' b)∧R J H'
def PI (X:Cx)(tg iter:Expr)(wi:TI):Prop:=
 ∀(pins:List (Addr×Obj)) (s:Shared) (σ:St) (H:Hp) (R:It→Hp→Prop),Inv X pins σ H s→wi σ H R→
  wpAny (model X.prog X.w) X.A (eval iter X.env) (fun v s1=>wpAny (model X.prog X.w) X.A (pyIter v) (PIE X pins σ tg R) X.xe s1) X.xe s
theorem yx4 {M:Model}{A:Around}{E:Value→Shared→Prop}{s:Shared}{tg:Expr}{it:Addr}{u:Value}{o:Obj}{n:String}{vs:Array Value}{Q:Unit→Shared→Prop}(ho:s.heap.get? it=some o)(hc:o.cls = .type n)(hd:o.data = .fields vs)
 (hn:["enumerate","zip","dict_itemiterator","dict_reverseitemiterator","odict_iterator","itertools.zip_longest","itertools.pairwise"].contains n=false) (hQ:Q () s):wpAny M A (letOwnedTupleGo tg (.ref it) u) Q E s:=by
 unfold letOwnedTupleGo
 cases tg <;> first
  |exact zwp0 hQ
  |(cases u <;> first
     |exact zwp0 hQ
     |(refine zwb0 (wpAny_load ho ?_)
       rw[hc,hd]
       show wpAny M A (if (["enumerate","zip","dict_itemiterator","dict_reverseitemiterator","odict_iterator","itertools.zip_longest","itertools.pairwise"].contains n&&vs[0]? == some (rawInt _))=true then _ else _) Q E s
       rw[if_neg (by intro h;rw[hn,Bool.false_and] at h;cases h)]
       exact zwp0 hQ))
def Itl (K:PySem.W.Frag)(a:Addr):It:=
 ⟨fun i H=>∃xs x,SqL K H a xs∧xs[i]? = some x,fun i H x H'=>H' = H∧∀xs,SqL K H a xs→xs[i]? = some x,fun i H=>∃xs,SqL K H a xs∧xs.length≤i⟩
def Itr (lo:Int)(n:Nat):It:=⟨fun i _=>i<n,fun i H x H'=>H'=H∧x = .int (lo+i),fun i _=>n≤i⟩
theorem yss {P:Program}{w:World}{K:PySem.W.Frag}{tg:Expr}(a it:Addr):Turn P w K tg (Itl K a) [it] it (fun i h=>h.IsListIter it a i) where
 mem:=by simp
 obj:=fun i h st b hb=>by
  have e:b=it:=by simpa using hb
  subst e
  obtain ⟨o,e,c,d⟩:=st
  exact⟨o,e,fun v z=>by rw[d] at z;cases z⟩
 keep:=fun i h h' st k=>st.at fun o e=>k it (by simp) o e
 item:=by
  intro X hP hw hK hc i pins s σ H E I hf st hg
  subst hP hw hK
  obtain ⟨xs,x,hq,hx⟩:=hg
  obtain ⟨its,rv,p,hz⟩:=I.list hq
  obtain ⟨u,hu,ru⟩:=rv.get hx
  obtain ⟨f0,f1,f2,f3,f4,f5⟩:=hf it (by simp)
  refine wpAny_pyNext_list_item st p.isList (x:=u) (by simpa using hu) fun h' st' sb=>?_
  have I1:Inv X pins σ H { s with heap:=h' }:=I.turned (t':=s.toks) (fun b o hb e=>(sb.2 b hb).trans e) f0 f1 f3 f4 f5
  obtain ⟨o,e,c,d⟩:=id st'
  exact⟨u,rfl,yx4 (s:={ s with heap:=h' }) e c d (by decide) ⟨x,H,I1,ru,⟨rfl,fun ys hy=>by rw[I.list_inj hy hq];exact hx⟩,st',fun b hb=>(hf b hb).1⟩⟩
 done:=by
  intro X hP hw hK hc i pins s σ H E I hf st hg
  subst hP hw hK
  obtain ⟨xs,hq,hx⟩:=hg
  obtain ⟨its,rv,p,hz⟩:=I.list hq
  obtain ⟨f0,f1,f2,f3,f4,f5⟩:=hf it (by simp)
  have hl:=rv.length
  exact wpAny_pyNext_list_end (I.ok.hd hc) st p.isList (by simp;omega) fun h' eb=>⟨rfl,I.turned (t':=s.toks) (fun b o hb e=>eb b o hb e) f0 f1 f3 f4 f5⟩
 self:=fun _ _ _ _ _ st h=>wpAny_pyIter_listiter st h
theorem yrf {P:Program}{w:World}{K:PySem.W.Frag}{tg:Expr}(it:Addr)(lo:Int)(n:Nat):Turn P w K tg (Itr lo n) [it] it (fun i h=>IsRangeIter h it (lo+(i:Nat)*1) ((n:Int)-(i:Nat)) 1) where
 mem:=by simp
 obj:=fun i h st b hb=>by
  have e:b=it:=by simpa using hb
  subst e
  exact⟨_,st,fun v z=>by
   have z':Data.fields _=Data.cell v:=z
   cases z'⟩
 keep:=fun i h h' st k=>k it (by simp) _ st
 item:=by
  intro X hP hw hK hc i pins s σ H E I hf st hg
  subst hP hw hK
  obtain ⟨f0,f1,f2,f3,f4,f5⟩:=hf it (by simp)
  have W:=Walks.range (prog:=X.prog) (w:=X.w) (I.ok.hd hc) it lo 1 n
  refine W.item i s _ _ hg st fun v h' tk hv st' kk=>?_
  obtain ⟨t,rfl⟩:=hv
  have I1:Inv X pins σ H { s with heap:=h',toks:=tk }:=I.turned (fun b o hb e=>kk b o (by simpa using hb) e) f0 f1 f3 f4 f5
  refine⟨_,rfl,yx4 (s:={ s with heap:=h',toks:=tk }) (n := "range_iterator") st' rfl rfl (by decide) ⟨.int (lo+i),H,I1,⟨t,?_⟩,⟨rfl,rfl⟩,st',fun b hb=>(hf b hb).1⟩⟩
  rw[Int.mul_one]
 done:=by
  intro X hP hw hK hc i pins s σ H E I hf st hg
  subst hP hw hK
  obtain ⟨f0,f1,f2,f3,f4,f5⟩:=hf it (by simp)
  exact wpAny_pyNext_range_end (I.ok.hd hc) st (by have:n≤i:=hg;omega) fun h' eb=>⟨rfl,I.turned (t':=s.toks) (fun b o hb e=>eb b o hb e) f0 f1 f3 f4 f5⟩
 self:=fun _ _ _ _ _ st h=>wpAny_pyIter_rangeiter st h
section
variable {X:Cx}{tg:Expr}
def yzy (K:PySem.W.Frag)(tl:TE):TI:=fun σ H R=>tl σ H fun x H1=>∃a,x = .ref a∧(∃xs,SqL K H1 a xs)∧R (Itl K a) H1
theorem ya9 {l:Expr}{tl:TE}(hl:PE X l tl):PI X tg l (yzy X.K tl):=by
 intro pins s σ H R I h
 refine thn (hl pins s σ H _ I h) fun v s1 ⟨x,H1,I1,r1,q1⟩=>?_
 obtain ⟨a,e,⟨xs,hq⟩,q⟩:=q1
 subst e
 cases r1
 obtain ⟨its,rv,p,hz⟩:=I1.list hq
 refine wpAny_pyIter_list p.isList ?_
 refine⟨s1.heap.objs.size,[s1.heap.objs.size],_,_,H1,rfl,I1.kept (t':=s1.toks) fun b o e=>Heap.get?_push_of_some _ e,yss a _,⟨_,Heap.get?_push_size _ rfl,rfl,rfl⟩,fun b hb=>?_,q⟩
 have e:b=s1.heap.objs.size:=by simpa using hb
 subst e
 exact I1.fpOk (Nat.le_refl _) (I1.hok.fresh (Nat.le_refl _))
theorem yvl {pins:List (Addr×Obj)}{σ:St}{H:Hp}{s:Shared}{R:It→Hp→Prop}{E:Value→Shared→Prop}{lo hi:Int}{t u v:Tok}{tk:Nat}(I:Inv X pins σ H s)(h1:-(2 ^ 62)≤lo)(h2:lo<2 ^ 62)(h3:-(2 ^ 62)≤hi)(h4:hi<2 ^ 62)
 (q:R (Itr lo (hi-lo).toNat) H):wpAny (model X.prog X.w) X.A (pyIter (.ref s.heap.objs.size)) (PIE X pins σ tg R) E { s with heap:=s.heap.push { cls:=.type "range",data:=.fields #[.int lo t,.int hi u,.int 1 v] },toks:=tk }:=by
 refine wpAny_pyIter_range (IsRange.new ..) (small_one h1 h2 h3 h4) ?_
 have I1:Inv X pins σ H { s with heap:=s.heap.push { cls:=.type "range",data:=.fields #[.int lo t,.int hi u,.int 1 v] },toks:=tk }:=I.kept fun b o e=>Heap.get?_push_of_some _ e
 refine⟨(s.heap.push { cls:=.type "range",data:=.fields #[.int lo t,.int hi u,.int 1 v] }).objs.size,[(s.heap.push { cls:=.type "range",data:=.fields #[.int lo t,.int hi u,.int 1 v] }).objs.size],_,_,H,rfl,
  I1.kept (t':=tk) fun b o e=>Heap.get?_push_of_some _ e,yrf _ lo (hi-lo).toNat,?_,fun b hb=>?_,q⟩
 ·have e1:lo+((0:Nat):Int)*1=lo:=by simp
  have e2:(((hi-lo).toNat:Nat):Int)-((0:Nat):Int)=Builtin.Range.rangeSize lo hi 1:=by rw[rangeSize_one];split <;> omega
  show IsRangeIter _ _ (lo+((0:Nat):Int)*1) ((((hi-lo).toNat:Nat):Int)-((0:Nat):Int)) 1
  rw[e1,e2]
  exact Heap.get?_push_size _ rfl
 ·have e:b=(s.heap.push { cls:=.type "range",data:=.fields #[.int lo t,.int hi u,.int 1 v] }).objs.size:=by simpa using hb
  subst e
  exact I1.fpOk (Nat.le_refl _) (I1.hok.fresh (Nat.le_refl _))
def zbs (ta:TA):TI:=fun σ H R=>ta σ H fun vs H1=>∃j:Int,vs=[.int j]∧-(2 ^ 62)≤j∧j<2 ^ 62∧R (Itr 0 j.toNat) H1
theorem yg4 {a:Expr}{ta:TA}{p pos:Pos} (hg:Gl X "range") (hm:X.mg "range" = none) (ha:PA X [a] ta) (hs:starEach [a] X.env=[(false,eval a X.env)]:=by rfl):PI X tg (.Call (.Name "range" p) [a] [] pos) (zbs ta):=by
 intro pins s σ H R I h
 refine Call_ (yiz I hg hm boot_range (PyProof.Rows.callWith_type1 (thn (ha pos pins s σ H _ I h) fun us s1 ⟨vs,H1,I1,r1,q1⟩=>?_) hs rfl))
 obtain ⟨j,e,q1,q2,q⟩:=q1
 subst e
 cases r1 with
 |cons r rr=>
  cases rr
  obtain ⟨t,rfl⟩:=r
  exact call_range_1 (yvl I1 (by omega) (by omega) q1 q2 (by simpa using q))
def zc3 (wi:TI)(g:TG)(tb:TS):TS:=fun D σ H=>wi σ H fun J H1=>∃W:Nat→Nat→St→Hp→Prop,(∃m,W 0 m σ H1)∧∀i m σ H,W i m σ H→
 (J.stop i H∧D.nx σ H)∨(J.go i H∧∃N:St→Hp→Prop,(∀σ' H',N σ' H'→∃m',m' < m∧W (i+1) m' σ' H')∧∀x H',J.yld i H x H'→g x σ H' fun σ2 H2=>tb { D with nx:=N,ct:=N,bk:=D.nx } σ2 H2)
def yg5 (fp:List Addr)(h:Heap):List (Addr×Obj):=fp.filterMap fun b=>(h.get? b).map fun o=>(b,o)
theorem ybu {fp:List Addr}{h:Heap}{b:Addr}{o:Obj}(hb:b∈fp)(e:h.get? b=some o):(b,o)∈yg5 fp h:=List.mem_filterMap.mpr ⟨b,hb,by rw[e];rfl⟩
theorem yst {fp:List Addr}{h:Heap}{p:Addr×Obj}(hp:p∈yg5 fp h):p.1∈fp∧h.get? p.1=some p.2:=by
 obtain ⟨b,hb,e⟩:=List.mem_filterMap.mp hp
 cases q:h.get? b with
 |none=>rw[q] at e;cases e
 |some o=>
  rw[q] at e
  have e':(b,o)=p:=Option.some.inj e
  subst e'
  exact⟨hb,q⟩
theorem Inv.pinned {pins:List (Addr×Obj)}{σ:St}{H:Hp}{s:Shared}{fp:List Addr}(I:Inv X pins σ H s)(hf:∀b∈fp,ygv X pins H b)(ho:∀b∈fp,∃o,s.heap.get? b=some o∧∀v,o.data≠.cell v):Inv X (pins++yg5 fp s.heap) σ H s:=
 I.pins_of fun p hp=>(List.mem_append.mp hp).elim (fun z=>I.pin p (List.mem_append_right _ z)) fun z=>by
  obtain ⟨hb,e⟩:=yst z
  obtain ⟨f0,f1,f2,_⟩:=hf p.1 hb
  obtain ⟨o,e',d⟩:=ho p.1 hb
  rw[e] at e';cases e'
  exact⟨e,f0,f1,f2,d⟩
theorem Inv.unpinned {pins pl:List (Addr×Obj)}{σ:St}{H:Hp}{s:Shared}(I:Inv X (pins++pl) σ H s):Inv X pins σ H s:=I.pins_of fun p hp=>I.pin p (List.mem_append_right _ (List.mem_append_left _ hp))
theorem ycr {iter:Expr}{body:List Stmt}{wi:TI}{g:TG}{tb:TS}{pos:Pos}(hp:PassesOwn (model X.prog X.w) X.A X.env X.xe)(hc:X.calm=true)(hi:PI X tg iter wi)(hg:PG X tg g)(hb:PSs X body tb)
 (hs:∀x,foldedSetIterable iter X.env x=pure x:=by intro _;rfl):PS X (.For tg iter body [] pos) (zc3 wi g tb):=by
 intro pins s σ H D I h
 refine wpAny_For (thn (hi pins s σ H _ I h) fun v s1 h1=>thn h1 fun itv s2 h2=>?_) hs
 obtain ⟨it,fp,tn,J,H2,e,I2,T,st2,f2,W,⟨m0,w0⟩,turn⟩:=h2
 subst e
 have stat:∀{H':Hp},(∀b∈fp,H' b=none)→∀b∈fp,ygv X pins H' b:=fun hn b hb=>⟨hn b hb,(f2 b hb).2⟩
 refine codeAny_forLoop_any (fun n s'=>∃i σ' H',Inv X pins σ' H' s'∧tn i s'.heap∧(∀b∈fp,H' b=none)∧W i n σ' H') ?_ m0 ⟨0,σ,H2,I2,st2,fun b hb=>(f2 b hb).1,w0⟩
 rintro n s3 ⟨i,σ3,H3,I3,st3,fr3,w3⟩
 rcases turn i n σ3 H3 w3 with ⟨stop,qn⟩ | ⟨go,N,hN,step⟩
 ·refine wpAny_passesOwn hp (thn (T.done X rfl rfl rfl hc i pins s3 σ3 H3 X.xe I3 (stat fr3) st3 stop) fun r s4 ⟨hr,I4⟩=>?_)
  subst hr
  exact wpAny_execs_nil ⟨σ3,H3,I4,qn⟩
 ·refine wpAny_passesOwn hp (thn (T.item X rfl rfl rfl hc i pins s3 σ3 H3 X.xe I3 (stat fr3) st3 go) fun r s4 ⟨u,hr,h4⟩=>?_)
  subst hr
  refine wpAny_passesOwn hp (thn h4 fun _ s5 ⟨x,H5,I5,r5,y5,st5,fr5⟩=>?_)
  have I5':=I5.pinned (stat fr5) (T.obj _ _ st5)
  refine wpAny_passesOwn hp (thn (hg _ s5 σ3 H5 x u _ I5' r5 (step x H5 y5)) fun _ s6 ⟨σ6,H6,I6,q6⟩=>?_)
  refine wpAny_passesOwn hp (thn (hb _ s6 σ6 H6 _ I6 q6) fun f s7 q7=>?_)
  have again:∀{σ7:St}{H7:Hp},Inv X (pins++yg5 fp s5.heap) σ7 H7 s7→N σ7 H7→∃m,m<n∧∃i σ' H',Inv X pins σ' H' s7∧tn i s7.heap∧(∀b∈fp,H' b=none)∧W i m σ' H':=fun {σ7 H7} I7 n7=>by
   obtain ⟨m',hm,w7⟩:=hN σ7 H7 n7
   refine⟨m',hm,i+1,σ7,H7,I7.unpinned,T.keep _ _ _ st5 fun b hb o e=>(I7.pin (b,o) (List.mem_append_right _ (List.mem_append_right _ (ybu hb e)))).1,fun b hb=>?_,w7⟩
   obtain ⟨o,e,d⟩:=T.obj _ _ st5 b hb
   exact(I7.pin (b,o) (List.mem_append_right _ (List.mem_append_right _ (ybu hb e)))).2.1
  cases f with
  |next=>obtain ⟨σ7,H7,I7,n7⟩:=q7;exact again I7 n7
  |cont=>obtain ⟨σ7,H7,I7,n7⟩:=q7;exact again I7 n7
  |brk=>obtain ⟨σ7,H7,I7,q7⟩:=q7;exact⟨σ7,H7,I7.unpinned,q7⟩
  |ret v=>obtain ⟨x7,σ7,H7,I7,r7,q7⟩:=q7;exact⟨x7,σ7,H7,I7.unpinned,r7,q7⟩
end
theorem ydb {K:PySem.W.Frag}{a:Addr}{xs:List V}{g:TG}{tb:TS}{D:Ends}{σ:St}{H:Hp}(Pv:Nat→St→Hp→Prop)(h0:Pv 0 σ H)(hl:∀i σ H,i≤xs.length→Pv i σ H→SqL K H a xs)
 (hs:∀i x σ H,xs[i]? = some x→Pv i σ H→g x σ H fun σ2 H2=>tb { D with nx:=Pv (i+1),ct:=Pv (i+1),bk:=D.nx } σ2 H2) (hd:∀σ H,Pv xs.length σ H→D.nx σ H) :
 ∃W:Nat→Nat→St→Hp→Prop,(∃m,W 0 m σ H)∧∀i m σ H,W i m σ H→
  ((Itl K a).stop i H∧D.nx σ H)∨((Itl K a).go i H∧∃N:St→Hp→Prop,(∀σ' H',N σ' H'→∃m',m' < m∧W (i+1) m' σ' H')∧∀x H',(Itl K a).yld i H x H'→g x σ H' fun σ2 H2=>tb { D with nx:=N,ct:=N,bk:=D.nx } σ2 H2):=by
 refine⟨fun i m σ H=>m=xs.length-i∧i≤xs.length∧Pv i σ H,⟨xs.length,by simp,Nat.zero_le _,h0⟩,?_⟩
 rintro i m σ H ⟨rfl,hi,p⟩
 have q:=hl i σ H hi p
 by_cases hlt:i<xs.length
 ·refine .inr ⟨⟨xs,xs[i],q,by simp [hlt]⟩,Pv (i+1),fun σ' H' p'=>⟨xs.length-(i+1),by omega,rfl,hlt,p'⟩,fun x H' y=>?_⟩
  obtain ⟨e,y⟩:=y
  subst e
  exact hs i x σ _ (y xs q) p
 ·have e:i=xs.length:=by omega
  subst e
  exact .inl ⟨⟨xs,q,Nat.le_refl _⟩,hd σ H p⟩
theorem yg6 {lo:Int}{n:Nat}{g:TG}{tb:TS}{D:Ends}{σ:St}{H:Hp}(Pv:Nat→St→Hp→Prop)(h0:Pv 0 σ H)
 (hs:∀i σ H,i<n→Pv i σ H→g (.int (lo+i)) σ H fun σ2 H2=>tb { D with nx:=Pv (i+1),ct:=Pv (i+1),bk:=D.nx } σ2 H2) (hd:∀σ H,Pv n σ H→D.nx σ H) :
 ∃W:Nat→Nat→St→Hp→Prop,(∃m,W 0 m σ H)∧∀i m σ H,W i m σ H→
  ((Itr lo n).stop i H∧D.nx σ H)∨((Itr lo n).go i H∧∃N:St→Hp→Prop,(∀σ' H',N σ' H'→∃m',m' < m∧W (i+1) m' σ' H')∧∀x H',(Itr lo n).yld i H x H'→g x σ H' fun σ2 H2=>tb { D with nx:=N,ct:=N,bk:=D.nx } σ2 H2):=by
 refine⟨fun i m σ H=>m=n-i∧i≤n∧Pv i σ H,⟨n,by simp,Nat.zero_le _,h0⟩,?_⟩
 rintro i m σ H ⟨rfl,hi,p⟩
 by_cases hlt:i<n
 ·refine .inr ⟨hlt,Pv (i+1),fun σ' H' p'=>⟨n-(i+1),by omega,rfl,hlt,p'⟩,fun x H' y=>?_⟩
  obtain ⟨e,y⟩:=y
  subst e y
  exact hs i σ _ hlt p
 ·have e:i=n:=by omega
  subst e
  exact .inl ⟨Nat.le_refl _,hd σ H p⟩
abbrev R2:=V→V→Hp→VK→Prop
def OpR (X:Cx)(f:Value→Value→Sem Value)(r:R2):Prop:=
 ∀(pins:List (Addr×Obj)) (s:Shared) (σ:St) (H:Hp) (x y:V) (v u:Value) (Q:VK),Inv X pins σ H s→RelV x v→RelV y u→r x y H Q→
  wpAny (model X.prog X.w) X.A (f v u) (EP X pins σ Q) X.xe s
def UnR (X:Cx)(f:Value→Sem Value)(r:V→Hp→VK→Prop):Prop:=
 ∀(pins:List (Addr×Obj)) (s:Shared) (σ:St) (H:Hp) (x:V) (v:Value) (Q:VK),Inv X pins σ H s→RelV x v→r x H Q→
  wpAny (model X.prog X.w) X.A (f v) (EP X pins σ Q) X.xe s
def ygw (X:Cx)(f:Value)(r:List V→Hp→VK→Prop):Prop:=
 ∀(pins:List (Addr×Obj)) (s:Shared) (σ:St) (H:Hp) (xs:List V) (us:List Value) (Q:VK),Inv X pins σ H s→Vals xs us→r xs H Q→
  wpAny (model X.prog X.w) X.A (call f us) (EP X pins σ Q) X.xe s
def zc4 (X:Cx)(r:V→Hp→(Bool→Hp→Prop)→Prop):Prop:=
 ∀(pins:List (Addr×Obj)) (s:Shared) (σ:St) (H:Hp) (x:V) (v:Value) (Q:Bool→Hp→Prop),Inv X pins σ H s→RelV x v→r x H Q→
  wpAny (model X.prog X.w) X.A (truthy v) (TP X pins σ Q) X.xe s
def tOp (r:R2)(ta tb:TE):TE:=fun σ H Q=>ta σ H fun x H1=>tb σ H1 fun y H2=>r x y H2 Q
def tUn (r:V→Hp→VK→Prop)(ta:TE):TE:=fun σ H Q=>ta σ H fun x H1=>r x H1 Q
def rI (C:Int→Int→Prop)(g:Int→Int→V):R2:=fun x y H Q=>∃i j,x = .int i∧y = .int j∧C i j∧Q (g i j) H
def rI0 (g:Int→Int→V):R2:=fun x y H Q=>∃i j,x = .int i∧y = .int j∧Q (g i j) H
def rU (g:Int→V):V→Hp→VK→Prop:=fun x H Q=>∃i,x = .int i∧Q (g i) H
section
variable {X:Cx}{a b c:Expr}{ta tb tc:TE}{pos:Pos}
theorem zbt (ha:PE X a ta)(hb:PE X b tb){pins:List (Addr×Obj)}{s:Shared}{σ:St}{H:Hp}{R:V→V→Hp→Prop}(I:Inv X pins σ H s)
 (h:ta σ H fun x H1=>tb σ H1 fun y H2=>R x y H2) {Q:Value→Shared→Prop}{f:Value→Value→Sem Value}
 (hf:∀v u s2 x y H2,Inv X pins σ H2 s2→RelV x v→RelV y u→R x y H2→wpAny (model X.prog X.w) X.A (f v u) Q X.xe s2) :
 wpAny (model X.prog X.w) X.A (eval a X.env) (fun v s₁=>wpAny (model X.prog X.w) X.A (eval b X.env) (fun u s₂=>wpAny (model X.prog X.w) X.A (f v u) Q X.xe s₂) X.xe s₁) X.xe s:=by
 refine thn (ha pins s σ H _ I h) fun v s1 ⟨x,H1,I1,r1,q1⟩=>?_
 refine thn (hb pins s1 σ H1 _ I1 q1) fun u s2 ⟨y,H2,I2,r2,q2⟩=>?_
 exact hf v u s2 x y H2 I2 r1 r2 q2
theorem ybh {op:Operator}{r:R2}(ho:OpR X (binaryOp op) r)(ha:PE X a ta)(hb:PE X b tb):PE X (.BinOp a op b pos) (tOp r ta tb):=by
 intro pins s σ H Q I h
 exact wpAny_BinOp (zbt ha hb I h fun v u s2 x y H2 I2 rx ry q=>ho pins s2 σ H2 x y v u Q I2 rx ry q)
theorem ysu {op:UnaryOp}{r:V→Hp→VK→Prop}(ho:UnR X (unaryOp op) r)(ha:PE X a ta):PE X (.UnaryOp op a pos) (tUn r ta):=by
 intro pins s σ H Q I h
 exact UnaryOp_ (thn (ha pins s σ H _ I h) fun v s1 ⟨x,H1,I1,r1,q1⟩=>ho pins s1 σ H1 x v Q I1 r1 q1)
theorem opI {f:Value→Value→Sem Value}{C:Int→Int→Prop}{g:Int→Int→Int}
 (rule:∀(i j:Int) (t u:Tok) (s:Shared) (Q:Value→Shared→Prop) (E:Value→Shared→Prop),C i j→Q (.int (g i j) s.toks) { s with toks:=s.toks+1 }→wpAny (model X.prog X.w) X.A (f (.int i t) (.int j u)) Q E s) :
 OpR X f (rI C fun i j=>.int (g i j)):=by
 intro pins s σ H x y v u Q I rx ry h
 obtain ⟨i,j,rfl,rfl,hc,q⟩:=h
 obtain ⟨t,rfl⟩:=rx
 obtain ⟨t',rfl⟩:=ry
 exact rule i j t t' s _ _ hc ⟨.int (g i j),H,I.tok _,⟨_,rfl⟩,q⟩
theorem zcl {f:Value→Value→Sem Value}{g:Int→Int→Int}
 (rule:∀(i j:Int) (t u:Tok) (s:Shared) (Q:Value→Shared→Prop) (E:Value→Shared→Prop),Q (.int (g i j) s.toks) { s with toks:=s.toks+1 }→wpAny (model X.prog X.w) X.A (f (.int i t) (.int j u)) Q E s) :
 OpR X f (rI0 fun i j=>.int (g i j)):=by
 intro pins s σ H x y v u Q I rx ry h
 obtain ⟨i,j,rfl,rfl,q⟩:=h
 obtain ⟨t,rfl⟩:=rx
 obtain ⟨t',rfl⟩:=ry
 exact rule i j t t' s _ _ ⟨.int (g i j),H,I.tok _,⟨_,rfl⟩,q⟩
theorem zbi {f:Value→Value→Sem Value}{g:Int→Int→Bool}
 (rule:∀(i j:Int) (t u:Tok) (s:Shared) (Q:Value→Shared→Prop) (E:Value→Shared→Prop),Q (.bool (g i j)) s→wpAny (model X.prog X.w) X.A (f (.int i t) (.int j u)) Q E s) :
 OpR X f (rI0 fun i j=>.bl (g i j)):=by
 intro pins s σ H x y v u Q I rx ry h
 obtain ⟨i,j,rfl,rfl,q⟩:=h
 obtain ⟨t,rfl⟩:=rx
 obtain ⟨t',rfl⟩:=ry
 exact rule i j t t' s _ _ ⟨.bl (g i j),H,I,rfl,q⟩
def zcm (i j:Int):Prop:=0≤j∧j≤1000000∧i.natAbs<2 ^ 64
def CMul (i j:Int):Prop:=(-(2 ^ 64)<i∧i<2 ^ 64)∨(-(2 ^ 64)<j∧j<2 ^ 64)
theorem CMul.ok {i j:Int}(h:CMul i j):IntMulOk i j:=by
 rcases h with ⟨h1,h2⟩ | ⟨h1,h2⟩
 ·exact .of_left (intBits_le_64 h1 h2)
 ·exact .of_right (intBits_le_64 h1 h2)
theorem ycs:OpR X (binaryOp .Add) (rI0 fun i j=>.int (i+j)):=zcl fun _ _ _ _ _ _ _ q=>add_int q
theorem yi0:OpR X (binaryOp .Sub) (rI0 fun i j=>.int (i-j)):=zcl fun _ _ _ _ _ _ _ q=>sub_int q
theorem yzz:OpR X (binaryOp .Mult) (rI CMul fun i j=>.int (i*j)):=opI fun _ _ _ _ _ _ _ hc q=>mul_int q hc.ok
theorem yqb:OpR X (binaryOp .Mod) (rI (fun _ j=>0<j) fun i j=>.int (i % j)):=opI fun i j _ _ _ _ _ hc q=>by
 have h1:(0:Int)<j:=hc
 exact mod_int' (by omega) (by rw[Int.fmod_eq_emod_of_nonneg i (by omega)];exact q)
theorem yic:OpR X (binaryOp .Pow) (rI zcm fun i j=>.int (i ^ j.toNat)):=opI fun _ _ _ _ _ _ _ hc q=>pow_int_small hc.1 hc.2.1 hc.2.2 q
theorem unI {f:Value→Sem Value}{g:Int→Int}
 (rule:∀(i:Int) (t:Tok) (s:Shared) (Q:Value→Shared→Prop) (E:Value→Shared→Prop),Q (.int (g i) s.toks) { s with toks:=s.toks+1 }→wpAny (model X.prog X.w) X.A (f (.int i t)) Q E s) :
 UnR X f (rU fun i=>.int (g i)):=by
 intro pins s σ H x v Q I rx h
 obtain ⟨i,rfl,q⟩:=h
 obtain ⟨t,rfl⟩:=rx
 exact rule i t s _ _ ⟨.int (g i),H,I.tok _,⟨_,rfl⟩,q⟩
theorem ym9:UnR X (unaryOp .USub) (rU fun i=>.int (-i)):=unI fun _ _ _ _ _ q=>neg_int q
end
def zcn:V→V→Bool
 |.non,.non=>true | .non,.int _=>true | .int _,.non=>true | .non,.bl _=>true | .bl _,.non=>true | .non,.str _=>true | .str _,.non=>true
 |.int _,.int _=>true | .bl _,.bl _=>true | .str _,.str _=>true | .byt _,.byt _=>true
 |.int _,.str _=>true | .str _,.int _=>true | .bl _,.str _=>true | .str _,.bl _=>true
 |_,_=>false
def rEq:R2:=fun x y H Q=>zcn x y=true∧Q (.bl (decide (x=y))) H
def rNe:R2:=fun x y H Q=>zcn x y=true∧Q (.bl (!decide (x=y))) H
theorem ysv {i j:Int}:decide (V.int i=V.int j)=(i == j):=by
 rw[Bool.eq_iff_iff]
 simp
theorem yxj {i j:Bool}:decide (V.bl i=V.bl j)=(i == j):=by
 rw[Bool.eq_iff_iff]
 simp
theorem ysw {i j:Str}:decide (V.str i=V.str j)=(i == j):=by
 rw[Bool.eq_iff_iff]
 simp
theorem ysx {i j:Array UInt8}:decide (V.byt i=V.byt j)=(i.toList == j.toList):=by
 rw[Bool.eq_iff_iff]
 cases i
 cases j
 simp
section
variable {X:Cx}{a b c:Expr}{ta tb tc:TE}{pos:Pos}
theorem ybq {pins:List (Addr×Obj)}{σ:St}{H:Hp}{s:Shared}{Q:VK}{k k':Bool}(I:Inv X pins σ H s)(q:Q (.bl k) H)(e:k=k'):EP X pins σ Q (.bool k') s:=by
 subst e
 exact⟨.bl k,H,I,rfl,q⟩
theorem yg7:OpR X (compareOp .Eq) rEq:=by
 intro pins s σ H x y v u Q I rx ry h
 obtain ⟨hs,q⟩:=h
 cases x with
 |non=>
  cases rx
  cases y with
  |non=>cases ry;exact PySem.EqNone.eq_none_none (ybq I q (by simp))
  |bl j=>cases ry;exact PySem.EqNone.eq_none_bool (ybq I q (by simp))
  |int j=>obtain ⟨t',rfl⟩:=ry;exact PySem.EqNone.eq_none_int (ybq I q (by simp))
  |str j=>obtain ⟨t',rfl⟩:=ry;exact PySem.EqNone.eq_none_str (ybq I q (by simp))
  |_=>exact absurd (show false=true from hs) Bool.false_ne_true
 |bl i=>
  cases rx
  cases y with
  |non=>cases ry;exact PySem.EqNone.eq_bool_none (ybq I q (by simp))
  |bl j=>cases ry;exact eq_bool (ybq I q yxj)
  |str j=>obtain ⟨t',rfl⟩:=ry;exact PySem.EqMixed.eq_bool_str (ybq I q (by simp))
  |_=>exact absurd (show false=true from hs) Bool.false_ne_true
 |int i=>
  obtain ⟨t,rfl⟩:=rx
  cases y with
  |non=>cases ry;exact PySem.EqNone.eq_int_none (ybq I q (by simp))
  |int j=>obtain ⟨t',rfl⟩:=ry;exact eq_int (ybq I q ysv)
  |str j=>obtain ⟨t',rfl⟩:=ry;exact PySem.EqMixed.eq_int_str (ybq I q (by simp))
  |_=>exact absurd (show false=true from hs) Bool.false_ne_true
 |str i=>
  obtain ⟨t,rfl⟩:=rx
  cases y with
  |non=>cases ry;exact PySem.EqNone.eq_str_none (ybq I q (by simp))
  |bl j=>cases ry;exact PySem.EqMixed.eq_str_bool (ybq I q (by simp))
  |int j=>obtain ⟨t',rfl⟩:=ry;exact PySem.EqMixed.eq_str_int (ybq I q (by simp))
  |str j=>obtain ⟨t',rfl⟩:=ry;exact eq_str (ybq I q ysw)
  |_=>exact absurd (show false=true from hs) Bool.false_ne_true
 |byt i=>
  obtain ⟨t,rfl⟩:=rx
  cases y with
  |byt j=>obtain ⟨t',rfl⟩:=ry;exact PySem.W.eq_bytes (ybq I q ysx)
  |_=>exact absurd (show false=true from hs) Bool.false_ne_true
 |_=>cases y <;> exact absurd (show false=true from hs) Bool.false_ne_true
theorem yrg:OpR X (compareOp .NotEq) rNe:=by
 intro pins s σ H x y v u Q I rx ry h
 obtain ⟨hs,q⟩:=h
 cases x with
 |non=>
  cases rx
  cases y with
  |non=>cases ry;exact PySem.EqNone.ne_none_none (ybq I q (by simp))
  |bl j=>cases ry;exact PySem.EqNone.ne_none_bool (ybq I q (by simp))
  |int j=>obtain ⟨t',rfl⟩:=ry;exact PySem.EqNone.ne_none_int (ybq I q (by simp))
  |str j=>obtain ⟨t',rfl⟩:=ry;exact PySem.EqNone.ne_none_str (ybq I q (by simp))
  |_=>exact absurd (show false=true from hs) Bool.false_ne_true
 |bl i=>
  cases rx
  cases y with
  |non=>cases ry;exact PySem.EqNone.ne_bool_none (ybq I q (by simp))
  |bl j=>cases ry;exact ne_bool (ybq I q (congrArg not yxj))
  |str j=>obtain ⟨t',rfl⟩:=ry;exact PySem.EqMixed.ne_bool_str (ybq I q (by simp))
  |_=>exact absurd (show false=true from hs) Bool.false_ne_true
 |int i=>
  obtain ⟨t,rfl⟩:=rx
  cases y with
  |non=>cases ry;exact PySem.EqNone.ne_int_none (ybq I q (by simp))
  |int j=>obtain ⟨t',rfl⟩:=ry;exact ne_int (ybq I q (congrArg not ysv))
  |str j=>obtain ⟨t',rfl⟩:=ry;exact PySem.EqMixed.ne_int_str (ybq I q (by simp))
  |_=>exact absurd (show false=true from hs) Bool.false_ne_true
 |str i=>
  obtain ⟨t,rfl⟩:=rx
  cases y with
  |non=>cases ry;exact PySem.EqNone.ne_str_none (ybq I q (by simp))
  |bl j=>cases ry;exact PySem.EqMixed.ne_str_bool (ybq I q (by simp))
  |int j=>obtain ⟨t',rfl⟩:=ry;exact PySem.EqMixed.ne_str_int (ybq I q (by simp))
  |str j=>obtain ⟨t',rfl⟩:=ry;exact ne_str (ybq I q (congrArg not ysw))
  |_=>exact absurd (show false=true from hs) Bool.false_ne_true
 |byt i=>
  obtain ⟨t,rfl⟩:=rx
  cases y with
  |byt j=>obtain ⟨t',rfl⟩:=ry;exact PySem.W.ne_bytes (ybq I q (congrArg not ysx))
  |_=>exact absurd (show false=true from hs) Bool.false_ne_true
 |_=>cases y <;> exact absurd (show false=true from hs) Bool.false_ne_true
theorem yil:OpR X (compareOp .Lt) (rI0 fun i j=>.bl (decide (i<j))):=zbi fun _ _ _ _ _ _ _ q=>lt_int q
theorem ydk:OpR X (compareOp .LtE) (rI0 fun i j=>.bl (decide (i≤j))):=zbi fun _ _ _ _ _ _ _ q=>le_int q
theorem ylr:OpR X (compareOp .Gt) (rI0 fun i j=>.bl (decide (j<i))):=zbi fun _ _ _ _ _ _ _ q=>gt_int q
theorem ysy:OpR X (compareOp .GtE) (rI0 fun i j=>.bl (decide (j≤i))):=zbi fun _ _ _ _ _ _ _ q=>ge_int q
theorem yx5:OpR X (compareOp .IsNot) (fun x y H Q=>y = .non∧Q (.bl (!decide (x = .non))) H):=by
 intro pins s σ H x y v u Q I rx ry h
 obtain ⟨rfl,q⟩:=h
 cases ry
 refine isnot_none_gen (ybq I q ?_)
 cases x <;> first
  |(cases rx;rfl)
  |(obtain ⟨t,rfl⟩:=rx;rfl)
theorem ya7 (b:Expr){op:CmpOp}(h:op≠.In:=by decide)(h2:op≠.NotIn:=by decide):behindInMarks op b=false:=by
 have e1:(op == CmpOp.In)=false:=by cases op <;> first|rfl|exact absurd rfl h
 have e2:(op == CmpOp.NotIn)=false:=by cases op <;> first|rfl|exact absurd rfl h2
 cases b <;> simp [behindInMarks,e1,e2]
theorem ysz {op:CmpOp}{r:R2}(ho:OpR X (compareOp op) r)(ha:PE X a ta)(hb:PE X b tb)(hm:behindInMarks op b=false):PE X (.Compare a [op] [b] pos) (tOp r ta tb):=by
 intro pins s σ H Q I h
 exact wpAny_Compare1 (zbt ha hb I h fun v u s2 x y H2 I2 rx ry q=>ho pins s2 σ H2 x y v u Q I2 rx ry q) hm
def yna (t:TE):TT:=fun σ H Q=>t σ H fun x H'=>∃k,x = .bl k∧Q k H'
theorem yay {op:CmpOp}{r:R2}(ho:OpR X (compareOp op) r)(ha:PE X a ta)(hb:PE X b tb)(hm:behindInMarks op b=false):PT X (.Compare a [op] [b] pos) (yna (tOp r ta tb)):=by
 intro pins s σ H Q I h
 refine wpAny_isTrue_Compare1 (thn (ha pins s σ H _ I h) fun v s1 ⟨x,H1,I1,r1,q1⟩=>thn (hb pins s1 σ H1 _ I1 q1) fun u s2 ⟨y,H2,I2,r2,q2⟩=>
  thn (ho pins s2 σ H2 x y v u _ I2 r1 r2 q2) fun c s3 ⟨z,H3,I3,r3,k,e,q3⟩=>?_) hm
 subst e
 cases r3
 exact wpAny_truthy_bool ⟨H3,I3,q3⟩
def ynb (r r':R2)(ta tb tc:TE):TE:=fun σ H Q=>ta σ H fun x H1=>tb σ H1 fun y H2=>r x y H2 fun z H3=>∃k,z = .bl k∧
 (if k=true then tc σ H3 fun w' H4=>r' y w' H4 Q else Q (.bl false) H3)
theorem yls {op op':CmpOp}{r r':R2}(ho:OpR X (compareOp op) r)(ho':OpR X (compareOp op') r')(ha:PE X a ta)(hb:PE X b tb)(hc:PE X c tc)
 (hm:lastMarks [op,op'] [b,c]=false:=by with_unfolding_all rfl):PE X (.Compare a [op,op'] [b,c] pos) (ynb r r' ta tb tc):=by
 intro pins s σ H Q I h
 refine Compare_chain (thn (ha pins s σ H _ I h) fun v s1 ⟨x,H1,I1,r1,q1⟩=>chain_link (thn (hb pins s1 σ H1 _ I1 q1) fun u s2 ⟨y,H2,I2,r2,q2⟩=>
  thn (ho pins s2 σ H2 x y v u _ I2 r1 r2 q2) fun d s3 ⟨z,H3,I3,r3,k,e,q3⟩=>?_)) hm
 subst e
 cases r3
 refine wpAny_truthy_bool ?_
 cases k with
 |false=>exact ite_ff ⟨.bl false,H3,I3,rfl,q3⟩
 |true=>exact ite_tt (chain_last (thn (hc pins s3 σ H3 _ I3 q3) fun w' s4 ⟨z',H4,I4,r4,q4⟩=>ho' pins s4 σ H4 y z' u w' Q I4 r2 r4 q4))
theorem yd5 {op op':CmpOp}{r r':R2}(ho:OpR X (compareOp op) r)(ho':OpR X (compareOp op') r')(ha:PE X a ta)(hb:PE X b tb)(hc:PE X c tc)
 (hm:lastMarks [op,op'] [b,c]=false:=by with_unfolding_all rfl):PT X (.Compare a [op,op'] [b,c] pos) (yna (ynb r r' ta tb tc)):=by
 intro pins s σ H Q I h
 refine isTrue_chain (thn (ha pins s σ H _ I h) fun v s1 ⟨x,H1,I1,r1,q1⟩=>test_link (thn (hb pins s1 σ H1 _ I1 q1) fun u s2 ⟨y,H2,I2,r2,q2⟩=>
  thn (ho pins s2 σ H2 x y v u _ I2 r1 r2 q2) fun d s3 ⟨z,H3,I3,r3,k,e,q3⟩=>?_)) hm
 subst e
 cases r3
 refine wpAny_truthy_bool ?_
 cases k with
 |false=>
  obtain ⟨k',e',q'⟩:=q3
  cases e'
  exact ite_ff ⟨H3,I3,q'⟩
 |true=>
  refine ite_tt (test_last (thn (hc pins s3 σ H3 _ I3 q3) fun w' s4 ⟨z',H4,I4,r4,q4⟩=>thn (ho' pins s4 σ H4 y z' u w' _ I4 r2 r4 q4) fun d' s5 ⟨z2,H5,I5,r5,k2,e2,q5⟩=>?_))
  subst e2
  cases r5
  exact wpAny_truthy_bool ⟨H5,I5,q5⟩
def yz0 (K:PySem.W.Frag)(x:V)(H:Hp)(k:Bool):Prop:=
 match x with
 |.non=>k=false
 |.bl b=>k=b
 |.int i=>k=(i != 0)
 |.str y=>y.length≤sizeLine∧k=((y.length:Int) != 0)
 |.byt y=>y.size≤sizeLine∧k=((y.size:Int) != 0)
 |.ref p=>(∃xs,SqL K H p xs∧k = !xs.isEmpty)∨(∃xs,SqT K H p xs∧k = !xs.isEmpty)∨∃kvs,H p=some (.dK kvs)∧k = !kvs.isEmpty
 |_=>False
theorem yrh {κ:Type}{kvs:List (κ×V)}{vs:List (κ×Value)}(r:KV kvs vs):(!vs.isEmpty) = !kvs.isEmpty:=by
 cases r <;> rfl
theorem ykw {xs:List V}{its:List Value}(r:Vals xs its):(!its.toArray.isEmpty) = !xs.isEmpty:=by
 cases r <;> simp
theorem ykx:(sizeLine:Nat)<2 ^ 63:=by rw[sizeLine_eq];decide
theorem yxk:zc4 X (fun x H Q=>∃k,yz0 X.K x H k∧Q k H):=by
 intro pins s σ H x v Q I rx h
 obtain ⟨k,e,q⟩:=h
 have hl:=ykx
 have hs:sizeLine=16777216:=sizeLine_eq
 cases x with
 |non=>
  cases rx
  have e':k=false:=e
  subst e'
  exact truthy_none ⟨H,I,q⟩
 |bl b=>
  cases rx
  have e':k=b:=e
  subst e'
  exact wpAny_truthy_bool ⟨H,I,q⟩
 |int i=>
  obtain ⟨t,rfl⟩:=rx
  have e':k=(i != 0):=e
  subst e'
  exact PySem.P.truthy_int ⟨H,I,q⟩
 |str y=>
  obtain ⟨t,rfl⟩:=rx
  obtain ⟨hy,e'⟩ : y.length≤sizeLine∧k=((y.length:Int) != 0):=e
  subst e'
  exact PySem.P.truthy_str (by omega) ⟨H,I.tok _,q⟩
 |byt y=>
  obtain ⟨t,rfl⟩:=rx
  obtain ⟨hy,e'⟩ : y.size≤sizeLine∧k=((y.size:Int) != 0):=e
  subst e'
  exact PySem.W.truthy_bytes (by omega) ⟨H,I.tok _,q⟩
 |ref p=>
  cases rx
  have e':(∃xs,SqL X.K H p xs∧k = !xs.isEmpty)∨(∃xs,SqT X.K H p xs∧k = !xs.isEmpty)∨∃kvs,H p=some (.dK kvs)∧k = !kvs.isEmpty:=e
  rcases e' with ⟨xs,hx,e'⟩ | ⟨xs,hx,e'⟩ | ⟨kvs,hx,e'⟩
  ·subst e'
   obtain ⟨its,r,pl,hz⟩:=I.list hx
   have hlen:=r.length
   exact wpAny_truthy_list pl.isList (by simp only[List.size_toArray];omega) ⟨H,I.tok _,by rw[ykw r];exact q⟩
  ·subst e'
   obtain ⟨its,r,pl,hz⟩:=I.tuple hx
   have hlen:=r.length
   exact truthy_tuple pl (by simp only[List.size_toArray];omega) ⟨H,I.tok _,by rw[ykw r];exact q⟩
  ·subst e'
   obtain ⟨hz,hS,vs,r,m⟩ : kvs.length≤sizeLine∧(p == sysModules)=false∧∃vs,KV kvs vs∧s.heap.DictOf (yb4 X.prog X.w) p vs:=I.hok p _ hx
   have hlen:kvs.length=vs.length:=Paired.length r
   exact wpAny_truthy_dict hS m (by omega) ⟨H,I.tok _,by rw[yrh r];exact q⟩
 |_=>exact(show False from e).elim
theorem yfq (ha:PE X a ta)(he:∀whole,isTrue a X.env whole=(do let v ← whole;standAt a.pos;holding [v] (truthy v))) :
 PT X a (fun σ H Q=>ta σ H fun x H'=>∃k,yz0 X.K x H' k∧Q k H'):=by
 intro pins s σ H Q I h
 exact isTrue_plain (thn (ha pins s σ H _ I h) fun v s1 ⟨x,H1,I1,r1,q1⟩=>yxk pins s1 σ H1 x v Q I1 r1 q1) (he _)
theorem yz1 {x:V}{us:List Value}(r:Vals [x] us):∃u,us=[u]∧RelV x u:=by
 cases r with
 |cons r1 r2=>cases r2;exact⟨_,rfl,r1⟩
theorem yz2 {x y:V}{us:List Value}(r:Vals [x,y] us):∃u w',us=[u,w']∧RelV x u∧RelV y w':=by
 cases r with
 |cons r1 r2=>
  cases r2 with
  |cons r3 r4=>cases r4;exact⟨_,_,rfl,r1,r3⟩
theorem ys0 (hc:X.calm=true):ygw X (.builtin "max") (fun xs H Q=>∃i j,xs=[.int i,.int j]∧Q (.int (if j > i then j else i)) H):=by
 intro pins s σ H xs us Q I r h
 obtain ⟨i,j,rfl,q⟩:=h
 obtain ⟨u,w',rfl,⟨t,rfl⟩,⟨t',rfl⟩⟩:=yz2 r
 refine max_two_ints (I.ok.hd hc) fun h' tk k=>⟨_,H,I.kept k,?_,q⟩
 by_cases hj:j > i
 ·rw[if_pos hj,if_pos hj];exact⟨_,rfl⟩
 ·rw[if_neg hj,if_neg hj];exact⟨_,rfl⟩
theorem ync (hc:X.calm=true):ygw X (.builtin "min") (fun xs H Q=>∃i j,xs=[.int i,.int j]∧Q (.int (if j<i then j else i)) H):=by
 intro pins s σ H xs us Q I r h
 obtain ⟨i,j,rfl,q⟩:=h
 obtain ⟨u,w',rfl,⟨t,rfl⟩,⟨t',rfl⟩⟩:=yz2 r
 refine min_two_ints (I.ok.hd hc) fun h' tk k=>⟨_,H,I.kept k,?_,q⟩
 by_cases hj:j<i
 ·rw[if_pos hj,if_pos hj];exact⟨_,rfl⟩
 ·rw[if_neg hj,if_neg hj];exact⟨_,rfl⟩
end
section
variable {prog:Program}{w:World}{A:Around}{E:Value→Shared→Prop}{s:Shared}{K:PySem.W.Frag}{x dx C f:Addr}{mA:Str→Option Value}{name:Str}{v:Value}
end
theorem RelO.some_of {v:V}{o:Option Value}(r:RelO (some v) o):∃u,o=some u∧RelV v u:=by
 cases o with
 |none=>exact(show False from r).elim
 |some u=>exact⟨u,rfl,r⟩
section
variable {P:Program}{w:World}{H H':Hp}{h h':Heap}{a C dx:Addr}{fs fs':List (Str×V)}
end
section
variable {X:Cx}{pins:List (Addr×Obj)}{σ:St}{H:Hp}{s:Shared}{a C dx:Addr}{fs:List (Str×V)}{f:Str}{v:V}{A:Around}{E:Value→Shared→Prop}
end
section
variable {X:Cx}{o e value:Expr}{f:Str}{pos pos' tpos:Pos}{ta tv:TE}
end
section
variable {X:Cx}{pins:List (Addr×Obj)}{σ:St}{H:Hp}{s:Shared}{A:Around}{E:Value→Shared→Prop}{Q:Value→Shared→Prop}{c:Value}{b:Bool}
end
structure Room (k:Nat) (A:Around):Prop where
 hd:A.handled=none
 dp:A.depth+3*k+5<recursionLimit
 un:A.units+16*k+200<cLine
theorem Room.mono {j k:Nat}{A:Around}(r:Room k A)(h:j≤k):Room j A:=⟨r.hd,by have:=r.dp;omega,by have:=r.un;omega⟩
theorem Room.deeper {k:Nat}{A:Around}(r:Room (k+1) A)(env:Env):Room k (A.deeper env):=
 ⟨r.hd,by have:=r.dp;show A.depth+1+3*k+5<_;omega,by have:=r.un;show A.units+3+16*k+200<_;omega⟩
theorem Room.depth {k:Nat}{A:Around}(r:Room k A):A.depth<recursionLimit:=by have:=r.dp;omega
theorem Room.units {k:Nat}{A:Around}(r:Room k A):A.units+64<cLine:=by have:=r.un;omega
def yky:TA:=fun _ H Q=>Q [] H
def ybn (ta:TE)(tr:TA):TA:=fun σ H Q=>ta σ H fun x H1=>tr σ H1 fun xs H2=>Q (x::xs) H2
section
variable {X:Cx}{e:Expr}{es:List Expr}{te:TE}{t:TA}{pos:Pos}
theorem yab:PA X [] yky:=fun _ _ _ _ H Q I h=>Calls.spliced_nil ⟨[],H,I,.nil,h⟩
theorem yx6 (ha:PE X e te)(hr:PA X es t)(hs:starEach (e::es) X.env=(false,eval e X.env)::starEach es X.env:=by rfl):PA X (e::es) (ybn te t):=by
 intro pos pins s σ H Q I h
 rw[hs]
 show wpAny _ _ (spliced ((false,eval e X.env)::backTo pos (starEach es X.env))) _ _ s
 refine Calls.spliced_cons (thn (ha pins s σ H _ I h) fun u s1 ⟨x,H1,I1,r1,q1⟩=>?_)
 exact thn (hr pos pins s1 σ H1 _ I1 q1) fun us s2 ⟨xs,H2,I2,r2,q2⟩=>⟨x::xs,H2,I2,.cons r1 r2,q2⟩
def ys1 (t:TA):TE:=fun σ H Q=>t σ H fun xs H1=>xs.length≤sizeLine∧∀p,H1 p=none→Q (.ref p) (upd H1 p (.tup xs))
def zc5 (t:TA):TE:=fun σ H Q=>t σ H fun xs H1=>xs.length≤sizeLine∧∀p,H1 p=none→Q (.ref p) (upd H1 p (.lst xs))
theorem ybd {x1}(h:PA X es t):PE X (.Tuple es x1 pos) (ys1 t):=by
 intro pins s σ H Q I hq
 refine wpAny_Tuple_spliced (thn (h pos pins s σ H _ I hq) fun us s1 ⟨xs,H1,I1,r,z,q⟩=>⟨by rw[← r.length];exact z,?_⟩)
 have hf:H1 s1.heap.objs.size=none:=I1.hok.fresh (Nat.le_refl _)
 refine⟨.ref s1.heap.objs.size,upd H1 s1.heap.objs.size (.tup xs),I1.laid (t':=s1.toks) (fun b u e=>Heap.get?_push_of_some _ e) (Nat.le_refl _) ?_,rfl,q _ hf⟩
 exact⟨z,us,r,⟨_,Heap.get?_push_size _ rfl,rfl,_,rfl⟩⟩
theorem yb5 (h:PA X es t):PE X (.List es pos) (zc5 t):=by
 intro pins s σ H Q I hq
 refine wpAny_List_spliced (thn (h pos pins s σ H _ I hq) fun us s1 ⟨xs,H1,I1,r,z,q⟩=>⟨by rw[← r.length];exact z,?_⟩)
 have hf:H1 s1.heap.objs.size=none:=I1.hok.fresh (Nat.le_refl _)
 refine⟨.ref s1.heap.objs.size,upd H1 s1.heap.objs.size (.lst xs),I1.laid (t':=s1.toks) (fun b u e=>Heap.get?_push_of_some _ e) (Nat.le_refl _) ?_,rfl,q _ hf⟩
 exact⟨z,us,0,r,Heap.get?_push_size _ rfl⟩
end
abbrev Sp:=List V→Hp→VK→XK→Prop
abbrev CXT:=List Env→Hp→Shared→XK→Value→Shared→Prop
structure Env0 (P:Program) (w:World) (K:PySem.W.Frag) (mg:Str→Option Value) (base:Heap) (A:Around) (outer:List Env) (s:Shared) (H:Hp):Prop where
 frames:A.frames=some outer
 mod:Mod K mg base
 bs:∀b o,base.get? b=some o→s.heap.get? b=some o∧H b=none
 bsz:base.objs.size≤s.heap.objs.size
 funs:s.heap.FunFrames base outer
 frf:∀b∈frs outer,H b=none
 hok:HOk P w H s.heap
 bare:AllBare s.gens
def CE (outer:List Env)(P:Program)(w:World)(H:Hp)(s:Shared)(Q:VK)(u:Value)(s':Shared):Prop:=
 ∃v H',s'.os=s.os∧AllBare s'.gens∧Un (frs outer) [] H H' s.heap s'.heap∧HOk P w H' s'.heap∧RelV v u∧Q v H'
def CR (CX:CXT)(outer:List Env)(P:Program)(w:World)(H:Hp)(s:Shared)(Q:VK)(E:XK)(r:Result)(s':Shared):Prop:=
 match r with
 |.ok (.ret u)=>CE outer P w H s Q u s'
 |.ok _=>False
 |.error e=>CX outer H s E e s'
structure FnOk (P:Program) (w:World) (K:PySem.W.Frag) (mg:Str→Option Value) (base:Heap) (CX:CXT) (k:Nat) (f:Addr) (fd:FuncData) (ps:List Str) (sp:Sp):Prop where
 len:∀vs H Q E,sp vs H Q E→vs.length=ps.length
 run:∀(A:Around) (outer:List Env) (s:Shared) (H:Hp) (args:Args) (us:List Value) (vs:List V) (Q:VK) (E:XK),Room k A→Env0 P w K mg base A outer s H→BindsTo s fd args (ps.zip us)→Vals vs us→sp vs H Q E→
  codeAny (model P w) A (.call (.ref f) args) (CR CX outer P w H s Q E) s
theorem FnOk.mono {P:Program}{w:World}{K:PySem.W.Frag}{mg:Str→Option Value}{base:Heap}{CX:CXT}{j k:Nat}{f:Addr}{fd:FuncData}{ps:List Str}{sp:Sp}(F:FnOk P w K mg base CX j f fd ps sp)(h:j≤k) :
 FnOk P w K mg base CX k f fd ps sp:=⟨F.len,fun A outer s H args us vs Q E hr=>F.run A outer s H args us vs Q E (hr.mono h)⟩
section
variable {X:Cx}{pins:List (Addr×Obj)}{σ:St}{H:Hp}{s s':Shared}
theorem Inv.env0 (I:Inv X pins σ H s):Env0 X.prog X.w X.K X.mg X.base X.A X.stack s H:=
 ⟨I.ok.frames,I.ok.mod,I.bs,Nat.le_trans I.ok.bsz I.sz,I.stack,I.stkFree,I.hok,I.bare⟩
theorem Inv.after {Q:VK}{u:Value}(I:Inv X pins σ H s)(h:CE X.stack X.prog X.w H s Q u s'):EP X pins σ Q u s':=by
 obtain ⟨v,H',os,bare,un,hok,r,q⟩:=h
 obtain ⟨hh,g,d,t,os'⟩:=s'
 obtain rfl:os'=s.os:=os
 exact⟨v,H',I.call (h':=hh) (g':=g) (d':=d) (t':=t) (ch:=[]) un hok bare (fun b z=>absurd z (by simp)),r,q⟩
end
def ykf (sp:Sp)(dvs:List V)(E:XK)(t:TA):TE:=fun σ H Q=>t σ H fun vs H1=>sp (vs++dvs) H1 Q E
def Binds (K:PySem.W.Frag)(fd:FuncData)(ps:List Str)(ds:List Value):Prop:=
 ∀(s:Shared) (us:List Value),K.In s.heap→(us++ds).length=ps.length→BindsTo s fd ⟨us,[]⟩ (ps.zip (us++ds))
theorem Binds.all {K:PySem.W.Frag}{fd:FuncData}{ps:List Str}(h:∀us:List Value,us.length=ps.length→bindArgs fd ⟨us,[]⟩=pure (ps.zip us)):Binds K fd ps []:=fun s us _ hl=>by
 rw[List.append_nil] at hl ⊢
 exact .of_eq (h us hl)
def yi1 (CX:CXT)(X:Cx)(E:XK):Prop:=∀(pins:List (Addr×Obj)) (σ:St) (H:Hp) (s:Shared) (e:Value) (s':Shared),Inv X pins σ H s→CX X.stack H s E e s'→X.xe e s'
section
variable {X:Cx}{CX:CXT}{k:Nat}{f C:Addr}{fd:FuncData}{ps:List Str}{sp:Sp}{dvs:List V}{ds:List Value}{E:XK}{x m:Str}{p pos apos:Pos}{e o:Expr}{es:List Expr}{ta:TE}{t:TA}
theorem yz3 {pins:List (Addr×Obj)}{σ:St}{H:Hp}{s:Shared}{Q:VK}{us:List Value}{vs:List V}(F:FnOk X.prog X.w X.K X.mg X.base CX k f fd ps sp)(hr:Room k X.A)(hb:Binds X.K fd ps ds)(hd:Vals dvs ds)(hx:yi1 CX X E)
 (I:Inv X pins σ H s) (r:Vals vs us) (h:sp (vs++dvs) H Q E):wpAny (model X.prog X.w) X.A (call (.ref f) us) (EP X pins σ Q) X.xe s:=by
 have r2:Vals (vs++dvs) (us++ds):=r.append hd
 have hl:(us++ds).length=ps.length:=by rw[← r2.length];exact F.len _ _ _ _ h
 refine wpAny_call (codeAny_mono (F.run X.A X.stack s H ⟨us,[]⟩ (us++ds) (vs++dvs) Q E hr I.env0 (hb s us I.kIn hl) r2 h) fun r s' hq=>?_)
 cases r with
 |error e=>exact hx pins σ H s e s' I hq
 |ok fl=>
  cases fl with
  |ret u=>exact I.after hq
  |next=>exact False.elim hq
  |brk=>exact False.elim hq
  |cont=>exact False.elim hq
theorem yx7 (F:FnOk X.prog X.w X.K X.mg X.base CX k f fd ps sp)(hr:Room k X.A)(hg:Gl X x)(hm:X.mg x=some (.ref f))(hk:PySem.W.keepIn X.K (.ref f)=true)(hb:Binds X.K fd ps ds)(hd:Vals dvs ds)(hx:yi1 CX X E)
 (ha:PA X (e::es) t) (hdb:(x == ("__debug__" : Str))=false:=by decide) (he:starEach (e::es) X.env=(false,eval e X.env)::starEach es X.env:=by rfl) (hpl:(backTo pos (starEach es X.env)).any (·.1)=false:=by rfl) :
 PE X (.Call (.Name x p) (e::es) [] pos) (ykf sp dvs E t):=by
 intro pins s σ H Q I h
 refine wpAny_Call_Name_kw (ylo I hg hm ?_ hdb)
 refine PySem.W.callWith_K (h₀:=X.base) I.ok.mod.kin hk (thn (ha pos pins s σ H _ I h) fun us s1 ⟨vs,H1,I1,r,q⟩=>⟨I1.kIn,?_⟩) he hpl
 exact yz3 F hr hb hd hx I1 r q
end
section
variable {X:Cx}{CX:CXT}{k:Nat}{f C:Addr}{fd:FuncData}{ps ks:List Str}{sp:Sp}{E:XK}{x m:Str}{p pos apos kpos:Pos}{e o:Expr}{es:List Expr}{kws:List Keyword}{te ta:TE}{t tk:TA}{nm:Option Str}
variable {g:List Value→List Value→List Value}{gV:List V→List V→List V}
end
structure FnScope (N P:List Str) (sc:Scope):Prop where
 kind:sc.kind = .function
 co:sc.isCoroutine=false
 gen:sc.isGenerator=false
 nd:N.Nodup
 pre:N.take P.length=P
 par:∀x∈P,sc.names.lookup x=some .local∨sc.names.lookup x=some .cell
 nofree:∀y∈sc.names,y.2≠.free
theorem ynd {kindOf:Str→Option NameKind}{x:Str}:∀{binds:List (Str×Value)}{m:Str→Option Value},(∀v,(x,v) ∉ binds)→bindL kindOf binds m x=m x
 |[],_,_=>rfl
 |(n,v)::r,m,h=>by
  unfold bindL
  rw[ynd fun w hw=>h w (List.mem_cons_of_mem _ hw)]
  split
  ·have:x≠n:=by rintro rfl;exact h v List.mem_cons_self
   simp [this]
  ·rfl
theorem yne {kindOf:Str→Option NameKind}{x:Str}:∀{binds:List (Str×Value)}{m:Str→Option Value},(∀v,(x,v) ∉ binds)→bindC kindOf binds m x=m x
 |[],_,_=>rfl
 |(n,v)::r,m,h=>by
  unfold bindC
  rw[yne fun w hw=>h w (List.mem_cons_of_mem _ hw)]
  split
  ·rfl
  ·have:x≠n:=by rintro rfl;exact h v List.mem_cons_self
   simp [this]
theorem ynf {kindOf:Str→Option NameKind}{x:Str}{v:Value}:∀{P:List Str}{vs:List Value}{i:Nat}{m:Str→Option Value},P.Nodup→P[i]? = some x→vs[i]? = some v→kindOf x=some .local→
 bindL kindOf (P.zip vs) m x=some v
 |[],_,_,_,_,h,_,_=>by simp at h
 |_::_,[],_,_,_,_,h,_=>by simp at h
 |p::P,w::vs,0,m,nd,h1,h2,hk=>by
  simp at h1 h2;subst h1;subst h2
  show bindL kindOf ((p,w)::P.zip vs) m p=_
  unfold bindL
  rw[ynd fun v hv=>(List.nodup_cons.mp nd).1 (List.of_mem_zip hv).1,if_pos hk]
  simp
 |p::P,w::vs,i+1,m,nd,h1,h2,hk=>by
  show bindL kindOf ((p,w)::P.zip vs) m x=_
  unfold bindL
  exact ynf (i:=i) (List.nodup_cons.mp nd).2 (by simpa using h1) (by simpa using h2) hk
theorem yng {kindOf:Str→Option NameKind}{x:Str}{v:Value}:∀{P:List Str}{vs:List Value}{i:Nat}{m:Str→Option Value},P.Nodup→P[i]? = some x→vs[i]? = some v→kindOf x≠some .local→
 bindC kindOf (P.zip vs) m x=some v
 |[],_,_,_,_,h,_,_=>by simp at h
 |_::_,[],_,_,_,_,h,_=>by simp at h
 |p::P,w::vs,0,m,nd,h1,h2,hk=>by
  simp at h1 h2;subst h1;subst h2
  show bindC kindOf ((p,w)::P.zip vs) m p=_
  unfold bindC
  rw[yne fun v hv=>(List.nodup_cons.mp nd).1 (List.of_mem_zip hv).1,if_neg hk]
  simp
 |p::P,w::vs,i+1,m,nd,h1,h2,hk=>by
  show bindC kindOf ((p,w)::P.zip vs) m x=_
  unfold bindC
  exact yng (i:=i) (List.nodup_cons.mp nd).2 (by simpa using h1) (by simpa using h2) hk
def ykg (N:List Str)(vs:List V):St:=vs.map some++List.replicate (N.length-vs.length) none
def ysk (CX:CXT)(P:Program)(w:World)(K:PySem.W.Frag)(mg:Str→Option Value)(base:Heap)(N:List Str)(qual:Str)(scope:Scope)(f:Addr)(cd:Value)(A:Around)(outer:List Env)(s:Shared)(H:Hp)(E:XK):Cx where
 prog:=P
 w:=w
 K:=K
 mg:=mg
 base:=base
 A:=A.deeper (envOfC qual scope s.heap.objs.size f cd)
 N:=N
 s₀:=s
 H₀:=H
 env:=envOfC qual scope s.heap.objs.size f cd
 outer:=outer
 stack:=envOfC qual scope s.heap.objs.size f cd::outer
 ex:=[]
 calm:=true
 fn:=fun _=>true
 pn:=[]
 xe:=fun e s'=>wpAny (model P w) (A.deeper (envOfC qual scope s.heap.objs.size f cd)) (leaving (envOfC qual scope s.heap.objs.size f cd) e) (fun _ s''=>CX outer H s E e s'') (fun e' s''=>CX outer H s E e' s'') s'
theorem yqc {sc:Scope}{n:Nat}{x:Str}(h:sc.names.lookup x=some .cell):∃c,(cellsFrom n sc.names []).lookup x=some c:=by
 have q:=PySem.W.cellsFrom_some sc.names n [] (.inl h)
 exact Option.isSome_iff_exists.mp q
theorem ys2 {CX:CXT}{P:Program}{w:World}{K:PySem.W.Frag}{mg:Str→Option Value}{base:Heap}{N ps:List Str}{qual:Str}{scope:Scope}{f:Addr}{cd:Value}{A:Around}{outer:List Env}{s s1:Shared}{H:Hp}{E:XK}{us:List Value}{vs:List V}
 (S:FnScope N ps scope) (hd:A.handled=none) (e0:Env0 P w K mg base A outer s H) (hl:vs.length=ps.length) (r:Vals vs us)
 (x:InCallC s s.heap.objs.size (bindL (envOfC qual scope s.heap.objs.size f cd).kindOf (ps.zip us) fun _=>none) (cellsFrom (s.heap.objs.size+1) scope.names []) (bindC (envOfC qual scope s.heap.objs.size f cd).kindOf (ps.zip us) fun _=>none) s1) :
 Inv (ysk CX P w K mg base N qual scope f cd A outer s H E) [] (ykg N vs) H s1:=by
 have hpl:ps.length≤N.length:=by have:=congrArg List.length S.pre;rw[List.length_take] at this;omega
 obtain ⟨h1,tk,rfl,hk⟩:=x.done
 have noA:∀b:Addr,b ∉ (ysk CX P w K mg base N qual scope f cd A outer s H E).ex:=fun b z=>absurd (show b∈([]:List Addr) from z) (by simp)
 refine⟨⟨e0.mod,S.kind,rfl,rfl,Nat.le_refl _,fun y z c h1 h2=>?_,fun y hy=>?_,fun y c _ h=>?_,fun _=>hd,Around.frames_deeper e0.frames,.inr ⟨rfl,rfl⟩,fun b z=>absurd z (noA b),e0.bs,e0.bsz,fun b _ _=>noA b,fun b z=>absurd z (noA b),e0.funs,e0.frf⟩,
  rfl,e0.bare,Un.kept hk,⟨_,x.toInCall.ns,fun i y v h1 h2 h3=>?_⟩,fun y c h=>⟨_,x.cell y c h⟩,e0.hok.fresh (Nat.le_refl _),fun y c h=>?_,fun p hp=>absurd (show p∈([]:List (Addr×Obj)) from hp) (by simp),e0.hok.kept hk,?_⟩
 ·exact name_of_addr x.apart (PySem.mem_of_lookup h1) (PySem.mem_of_lookup h2)
 ·have hy:scope.names.lookup y=some .cell∨scope.names.lookup y=some .free:=hy
  rcases hy with hy|hy
  ·exact yqc hy
  ·exact absurd rfl (S.nofree _ (PySem.mem_of_lookup hy))
 ·exact Nat.le_of_lt (x.above y c (PySem.mem_of_lookup h))
 ·have hi:i<vs.length:=by
   unfold ykg at h2
   by_cases hi:i<vs.length
   ·exact hi
   ·rw[List.getElem?_append_right (by simpa using hi)] at h2
    rw[List.getElem?_replicate] at h2
    split at h2 <;> cases h2
  have ha:vs[i]? = some v:=by
   unfold ykg at h2
   rw[List.getElem?_append_left (by simpa using hi),List.getElem?_map] at h2
   cases e:vs[i]? with
   |none=>rw[e] at h2;cases h2
   |some a=>rw[e] at h2;cases h2;rfl
  obtain ⟨u,hu,rv⟩:=r.get ha
  have hp:ps[i]? = some y:=by
   rw[← S.pre,List.getElem?_take_of_lt (by omega)];exact h1
  have ndP:ps.Nodup:=by rw[← S.pre];exact S.nd.sublist (List.take_sublist _ _)
  refine⟨u,rv,?_⟩
  rcases S.par y (List.mem_of_getElem? hp) with k|k
  ·exact .inl ⟨k,ynf ndP hp hu k⟩
  ·obtain ⟨c,e⟩:=yqc (n:=s.heap.objs.size+1) k
   refine .inr ⟨.inl k,c,e,?_⟩
   have q:=x.cell y c e
   rw[yng ndP hp hu (by show scope.names.lookup y≠_;rw[k];decide)] at q
   exact q
 ·exact e0.hok.fresh (Nat.le_of_lt (x.above y c (PySem.mem_of_lookup h)))
 ·unfold ykg
  show _=N.length
  rw[List.length_append,List.length_map,List.length_replicate]
  omega
theorem yx8 {CX:CXT}{P:Program}{w:World}{K:PySem.W.Frag}{mg:Str→Option Value}{base:Heap}{k:Nat}{f:Addr}{name qual:Str}{params:Arguments}{body:List Stmt}{scope:Scope}{dV kV doc pm cdv ct oc:Value}{an od:Option Addr}
 {osl:Array (Option Value)}{N ps:List Str}{sp:Sp} (lk:K.lookup f=some ⟨oc,od,.func (PySem.W.fnOf name qual params body scope dV kV doc pm an cdv ct),osl⟩) (hcd:PySem.W.codeIn K cdv qual=true) (S:FnScope N ps scope)
 (len:∀vs H Q E,sp vs H Q E→vs.length=ps.length)
 (hbody:∀(A:Around) (outer:List Env) (s:Shared) (H:Hp) (vs:List V) (Q:VK) (E:XK),Room k (A.deeper (envOfC qual scope s.heap.objs.size f cdv))→sp vs H Q E→
  ∃t,PSs (ysk CX P w K mg base N qual scope f cdv A outer s H E) body t∧t { nx:=fun _ H'=>Q .non H',rt:=Q } (ykg N vs) H) :
 FnOk P w K mg base CX (k+1) f (PySem.W.fnOf name qual params body scope dV kV doc pm an cdv ct) ps sp:=by
 refine⟨len,fun A outer s H args us vs Q E hr e0 hb r hsp=>?_⟩
 have hl:=len _ _ _ _ hsp
 have KX:K.In s.heap:=e0.mod.kin.keeps fun b o e=>(e0.bs b o e).1
 have lim:s.heap.NoLimit:=e0.mod.nolimit.keeps fun b o e=>(e0.bs b o e).1
 have hkind:∀y∈ps.zip us,scope.names.lookup y.1=some .local∨(scope.names.lookup y.1=some .cell∧((cellsFrom (s.heap.objs.size+1) scope.names []).lookup y.1).isSome=true):=fun ⟨n,v⟩ hy=>by
  rcases S.par n (List.of_mem_zip hy).1 with q|q
  ·exact .inl q
  ·exact .inr ⟨q,PySem.W.cellsFrom_some _ _ _ (.inl q)⟩
 refine codeAny_call_function hr.depth (KX _ _ lk) rfl S.co S.gen rfl (PySem.W.codeRec_of KX hcd) (hb _ _ _ _ ?_)
 refine wpAny_newFunctionEnv_cells S.kind hkind fun env he s1 x=>?_
 subst he
 refine⟨lim.keeps x.toInCall.keep,codeAny_func ?_⟩
 obtain ⟨t,ht,hq⟩:=hbody A outer s H vs Q E (hr.deeper _) hsp
 have I:Inv (ysk CX P w K mg base N qual scope f cdv A outer s H E) [] (ykg N vs) H s1:=ys2 S hr.hd e0 hl r x
 refine wpAny_mono (ht [] s1 (ykg N vs) H _ I hq) (fun fl s' hs=>?_) fun e s' hs=>hs
 have fin:∀{σ':St}{H':Hp}{v:V}{u:Value},Inv (ysk CX P w K mg base N qual scope f cdv A outer s H E) [] σ' H' s'→RelV v u→Q v H'→CE outer P w H s Q u s':=
  fun {σ' H' v u} J rv q=>⟨v,H',J.os,J.bare,J.base,J.hok,rv,q⟩
 cases fl with
 |ret u=>
  obtain ⟨v,σ',H',J,rv,q⟩:=hs
  exact fin J rv q
 |next=>
  obtain ⟨σ',H',J,q⟩:=hs
  exact fin (v:=V.non) (u:=Value.none) J rfl q
 |brk=>
  obtain ⟨_,_,_,q⟩:=hs
  exact False.elim q
 |cont=>
  obtain ⟨_,_,_,q⟩:=hs
  exact False.elim q
section
variable {X:Cx}{x:Str}{p pos:Pos}{e:Expr}{es:List Expr}{t:TA}{id T:String}{r:List V→Hp→VK→Prop}
def tCB (r:List V→Hp→VK→Prop)(t:TA):TE:=fun σ H Q=>t σ H fun vs H1=>r vs H1 Q
theorem yaq (hc:ygw X (.builtin id) r) (hg:Gl X x) (hm:X.mg x=none) (hv:bootBuiltins x=some (.builtin id)) (ha:PA X (e::es) t) (hn:x ≠ "__name__" := by decide) (hdb:(x == ("__debug__" : Str))=false:=by decide)
 (he:starEach (e::es) X.env=(false,eval e X.env)::starEach es X.env:=by rfl) (hpl:(backTo pos (starEach es X.env)).any (·.1)=false:=by rfl):PE X (.Call (.Name x p) (e::es) [] pos) (tCB r t):=by
 intro pins s σ H Q I h
 refine wpAny_Call_Name_kw (yiz I hg hm hv ?_ hn hdb)
 exact PyProof.Rows.callWith_builtin1 (thn (ha pos pins s σ H _ I h) fun us s1 ⟨vs,H1,I1,r1,q1⟩=>hc pins s1 σ H1 vs us Q I1 r1 q1) he hpl
theorem yfb (hc:ygw X (.type T) r) (hg:Gl X x) (hm:X.mg x=none) (hv:bootBuiltins x=some (.type T)) (ha:PA X (e::es) t) (hn:x ≠ "__name__" := by decide) (hdb:(x == ("__debug__" : Str))=false:=by decide)
 (he:starEach (e::es) X.env=(false,eval e X.env)::starEach es X.env:=by rfl) (hpl:(backTo pos (starEach es X.env)).any (·.1)=false:=by rfl):PE X (.Call (.Name x p) (e::es) [] pos) (tCB r t):=by
 intro pins s σ H Q I h
 refine wpAny_Call_Name_kw (yiz I hg hm hv ?_ hn hdb)
 exact PyProof.Rows.callWith_type1 (thn (ha pos pins s σ H _ I h) fun us s1 ⟨vs,H1,I1,r1,q1⟩=>hc pins s1 σ H1 vs us Q I1 r1 q1) he hpl
end
end L2
namespace HT
open PySem PyProof.Rows
section
open PySem.SeqAt
open PySem.AutoSeq1 (wpAny_loadPart')
open PySem.MeetsSeq PySem.MeetsSeq2 PySem.MeetsSeq3
end
section
variable {prog:Program}{w:World}{A:Around}{E:Value→Shared→Prop}{s:Shared}
theorem cat_tup {t b:Addr}{vs ws:List Value}{Q:Value→Shared→Prop}(ht:IsTup s.heap t vs.toArray)(hb:IsTup s.heap b ws.toArray)(hv:vs≠[])
 (h1:ws=[]→Q (.ref t) s) (h2:ws≠[]→Q (.ref s.heap.objs.size) { s with heap:=s.heap.push { cls:=.type "tuple",data:=.seq (vs++ws).toArray } })
 (hsz:vs.length+ws.length≤sizeLine):wpAny (model prog w) A (binaryOp .Add (.ref t) (.ref b)) Q E s:=by
 obtain ⟨⟨cls,dd,data,sl⟩,ho,hc,n,hd⟩:=id ht
 obtain ⟨⟨cls2,dd2,data2,sl2⟩,ho2,hc2,n2,hd2⟩:=id hb
 simp only at hc hd hc2 hd2
 subst hc hd hc2 hd2
 have e:vs.toArray++ws.toArray=(vs++ws).toArray:=by simp
 by_cases hw:ws=[]
 ·exact concat_meets ⟨_,ho,rfl⟩ ⟨_,ho2,rfl⟩ noFill_tuple_add seq_tuple_add PySem.F.slot_tuple_add PySem.F.entry_tuple_add (PySem.F.args_tuple_add_2 _ _)
   (tuple_addW1 t b vs.toArray ws.toArray n n2 dd dd2 sl sl2 (by simpa using hv) (by simp [hw])) ⟨ho,ho2,h1 hw⟩
 ·refine concat_meets ⟨_,ho,rfl⟩ ⟨_,ho2,rfl⟩ noFill_tuple_add seq_tuple_add PySem.F.slot_tuple_add PySem.F.entry_tuple_add (PySem.F.args_tuple_add_2 _ _)
   (tuple_addW2 t b vs.toArray ws.toArray n n2 dd dd2 sl sl2 (by simpa using hv) (by simpa using hw) (by rw[List.size_toArray,List.size_toArray];exact hsz)) ⟨ho,ho2,?_⟩
  rw[e]
  exact h2 hw
def sIx (n d:Nat):Option Int→Nat
 |none=>d
 |some v=>if v<0 then (v+(n:Int)).toNat else min v.toNat n
theorem yz4 (n d:Nat)(hd:d≤n)(o:Option Int):sIx n d o≤n:=by
 cases o with
 |none=>exact hd
 |some v=>
  show (if v<0 then (v+(n:Int)).toNat else min v.toNat n)≤n
  by_cases hv:v<0
  ·rw[if_pos hv];omega
  ·rw[if_neg hv];exact Nat.min_le_right _ _
theorem ys3 (v:Int)(n d:Nat):(if v<0 then max (v+(n:Int)) 0 else min v (n:Int))=((sIx n d (some v):Nat):Int):=by
 show (if v<0 then max (v+(n:Int)) 0 else min v (n:Int))=(((if v<0 then (v+(n:Int)).toNat else min v.toNat n):Nat):Int)
 by_cases hv:v<0
 ·simp only[if_pos hv];omega
 ·simp only[if_neg hv];omega
theorem yri (lo hi:Option Int)(n:Nat):Builtin.Slice.sliceAdjust lo hi 1 (n:Int)=(((sIx n 0 lo:Nat):Int),((sIx n n hi:Nat):Int)):=by
 have h1:¬ ((1:Int)<0):=by omega
 unfold Builtin.Slice.sliceAdjust
 simp only[h1,if_false]
 refine Prod.ext ?_ ?_
 ·cases lo with
  |none=>rfl
  |some v=>exact ys3 v n 0
 ·cases hi with
  |none=>rfl
  |some v=>exact ys3 v n n
theorem yrj (i j:Nat):Builtin.Slice.slicePlaces (i:Int) (j:Int) 1=j-i:=by
 unfold Builtin.Slice.slicePlaces
 have h1:(1:Int) > 0:=by omega
 simp only[h1,if_true,Int.ediv_one]
 split <;> omega
theorem ykz {v:Value}{o:Option Int}{Q:Option Int→Shared→Prop}(p:IsPart v o)(h:Q o s):wpAny (model prog w) A (Builtin.Slice.slicePartIndex v) Q E s:=by
 cases p with
 |none=>exact slicePart_none h
 |int i t=>exact slicePart_int h
theorem yfw {sl:Addr}{vl vu:Value}{lo hi:Option Int}{n:Nat}{Q:Int×Int×Nat→Shared→Prop}(hs:s.heap.IsSliceOf sl vl vu .none)(pl:IsPart vl lo)(pu:IsPart vu hi)
 (h:Q (((sIx n 0 lo:Nat):Int),1,sIx n n hi-sIx n 0 lo) s):wpAny (model prog w) A (Builtin.Slice.sliceApplied (.ref sl) (pure (n:Int))) Q E s:=by
 obtain ⟨os,hos,hcs,hds⟩:=id hs
 unfold Builtin.Slice.sliceApplied Builtin.Slice.sliceFields
 refine zwb0 (zwb0 (wpAny_field hos hds (x:=vl) rfl (zwb0 (wpAny_field hos hds (x:=vu) rfl (zwb0 (wpAny_field hos hds (x:=.none) rfl (zwp0 ?_)))))))
 refine zwb0 (slicePart_none ?_)
 show wpAny _ _ (if ((1:Int) == 0)=true then _ else _) _ _ s
 rw[if_neg (by decide)]
 refine zwb0 (ykz pl (zwb0 (ykz pu (zwb0 (zwp0 ?_)))))
 show wpAny _ _ (match Builtin.Slice.sliceAdjust lo hi 1 (n:Int) with|(lo,hi)=>pure (lo,(1:Int),Builtin.Slice.slicePlaces lo hi 1)) _ _ s
 rw[yri lo hi n]
 show wpAny _ _ (pure (((sIx n 0 lo:Nat):Int),(1:Int),Builtin.Slice.slicePlaces ((sIx n 0 lo:Nat):Int) ((sIx n n hi:Nat):Int) 1)) _ _ s
 rw[yrj]
 exact zwp0 h
theorem yvm (xs:Array Value)(i k:Nat):((List.range k).filterMap fun (m:Nat)=>xs[((i:Int)+(m:Int)*1).toNat]?).toArray=((xs.toList.drop i).take k).toArray:=by
 have e:(fun (m:Nat)=>xs[((i:Int)+(m:Int)*1).toNat]?)=fun m=>xs[i+m]?:=by
  funext m
  have:((i:Int)+(m:Int)*1).toNat=i+m:=by omega
  rw[this]
 rw[e]
 have:=pick_run xs i k
 rw[List.filterMap_map] at this
 have e2:((fun x=>xs[x]?) ∘ fun x=>i+x)=fun m=>xs[i+m]?:=rfl
 rw[e2] at this
 rw[this]
theorem getItem_tuple_cut {t sl:Addr}{items:Array Value}{vl vu:Value}{lo hi:Option Int}{Q:Value→Shared→Prop}(ht:IsTup s.heap t items)(hs:s.heap.IsSliceOf sl vl vu .none)(pl:IsPart vl lo)(pu:IsPart vu hi)
 (hw:¬ (sIx items.size 0 lo=0∧sIx items.size items.size hi=items.size))
 (h:Q (.ref s.heap.objs.size) { s with heap:=s.heap.push { cls:=.type "tuple",data:=.seq ((items.toList.drop (sIx items.size 0 lo)).take (sIx items.size items.size hi-sIx items.size 0 lo)).toArray } })
 (hsz:items.size≤sizeLine):wpAny (model prog w) A (getItem (.ref t) (.ref sl)) Q E s:=by
 have htake:sizeOk (.seq ((items.toList.drop (sIx items.size 0 lo)).take (sIx items.size items.size hi-sIx items.size 0 lo)).toArray):=by
  show ((items.toList.drop (sIx items.size 0 lo)).take (sIx items.size items.size hi-sIx items.size 0 lo)).toArray.size≤sizeLine
  rw[List.size_toArray,List.length_take,List.length_drop,Array.length_toList]
  omega
 have hj:sIx items.size items.size hi≤items.size:=yz4 _ _ (Nat.le_refl _) hi
 obtain ⟨os,hos,hcs,hds⟩:=id hs
 have hTs:s.TypeIs (.ref sl) "slice" := ⟨os,hos,hcs⟩
 unfold getItem
 try with_reducible refine wpAny_holding ?_
 first|refine zwb0 (zwp0 ?_)|skip
 refine zwb0 (wpAny_sequenceKey ht.typeIs (by decide) ?_)
 refine zwb0 (wpAny_callSpecial?_slot (name:=Str.ofString "__getitem__") ht.typeIs PyProof.Rows.slot_tuple_getitem
  (wpAny_call_entry PyProof.Rows.slot_tuple_getitem ht.typeIs entry_tuple_getitem ?_ (args_tuple_getitem _ _)))
 show wpAny _ _ (Builtin.Tuple.tupleItemsOf (.ref t) >>= _) _ _ s
 refine zwb0 (tupleItemsOf_ ht ?_)
 refine zwb0 (wpAny_typeOf hTs ?_)
 rw[if_pos (by decide)]
 refine zwb0 (yfw hs pl pu ?_)
 have hno:¬ ((((sIx items.size 0 lo:Nat):Int) == 0&&(1:Int) == 1&&(sIx items.size items.size hi-sIx items.size 0 lo) == items.size)=true):=by
  intro q
  rw[Bool.and_eq_true,Bool.and_eq_true] at q
  have q1:((sIx items.size 0 lo:Nat):Int)=0:=eq_of_beq q.1.1
  have q2:sIx items.size items.size hi-sIx items.size 0 lo=items.size:=eq_of_beq q.2
  exact hw ⟨by omega,by omega⟩
 show wpAny _ _ (if (((sIx items.size 0 lo:Nat):Int) == 0&&(1:Int) == 1&&(sIx items.size items.size hi-sIx items.size 0 lo) == items.size)=true then _ else _) _ _ s
 rw[if_neg hno,yvm]
 first
  |exact zwb0 (m:=Builtin.Tuple.tupleExact _) (wpAny_newObj_type (zwp0 ⟨_,rfl,zwp0 h⟩) htake)
  |exact zwb0 (m:=Builtin.Tuple.tupleExact _) (wpAny_newObj_type (zwb0 (zwp0 (zwp0 ⟨_,rfl,zwp0 h⟩))) htake)
  |exact zwb0 (zwb0 (m:=Builtin.Tuple.tupleExact _) (wpAny_newObj_type (zwp0 (zwp0 ⟨_,rfl,zwp0 h⟩)) htake))
  |exact zwb0 (zwb0 (m:=Builtin.Tuple.tupleExact _) (wpAny_newObj_type (zwp0 ⟨_,rfl,zwp0 h⟩) htake))
end
end HT
namespace L2
open PySem PySem.Spec PyProof.Rows
abbrev TO:=St→Hp→(Option Int→Hp→Prop)→Prop
def PO (X:Cx)(e:Option Expr)(t:TO):Prop:=
 ∀(pins:List (Addr×Obj)) (s:Shared) (σ:St) (H:Hp) (Q:Option Int→Hp→Prop),Inv X pins σ H s→t σ H Q→
  wpAny (model X.prog X.w) X.A (evalPart e X.env) (fun u s'=>∃o H',Inv X pins σ H' s'∧IsPart u o∧Q o H') X.xe s
def yx9:TO:=fun _ H Q=>Q none H
def zbu (t:TE):TO:=fun σ H Q=>t σ H fun x H1=>∃i,x = .int i∧Q (some i) H1
section
variable {X:Cx}{e:Expr}{te:TE}{lo hi:Option Expr}{tl th:TO}{pos p2:Pos}
theorem ye7:PO X none yx9:=by
 intro pins s σ H Q I h
 rw[evalPart_none]
 exact zwp0 ⟨none,H,I,.none,h⟩
theorem ye8 (h:PE X e te):PO X (some e) (zbu te):=by
 intro pins s σ H Q I hw
 rw[evalPart_some]
 refine thn (h pins s σ H _ I hw) fun u s1 ⟨x,H1,I1,r1,q1⟩=>?_
 obtain ⟨i,rfl,q⟩:=q1
 obtain ⟨t,rfl⟩:=r1
 exact⟨some i,H1,I1,.int i t,q⟩
def SlR (X:Cx)(r:V→Option Int→Option Int→Hp→VK→Prop):Prop:=
 ∀(pins:List (Addr×Obj)) (s:Shared) (σ:St) (H:Hp) (x:V) (v vl vu:Value) (lo hi:Option Int) (sl:Addr) (Q:VK),Inv X pins σ H s→RelV x v→s.heap.IsSliceOf sl vl vu .none→IsPart vl lo→IsPart vu hi→r x lo hi H Q→
  ∃T id,typeLookup (.type T) "__getitem__" = pure (some (.builtin id))∧s.TypeIs v T∧wpAny (model X.prog X.w) X.A (getItem v (.ref sl)) (EP X pins σ Q) X.xe s
def tSl (r:V→Option Int→Option Int→Hp→VK→Prop)(te:TE)(tl th:TO):TE:=fun σ H Q=>te σ H fun x H1=>tl σ H1 fun l H2=>th σ H2 fun u H3=>r x l u H3 Q
theorem yd6 {r:V→Option Int→Option Int→Hp→VK→Prop}(hr:SlR X r)(he:PE X e te)(hl:PO X lo tl)(hu:PO X hi th):PE X (.Subscript e (.Slice lo hi none p2) pos) (tSl r te tl th):=by
 intro pins s σ H Q I h
 refine Subscript_ (thn (he pins s σ H _ I h) fun v s1 ⟨x,H1,I1,r1,q1⟩=>?_)
 refine wpAny_Slice (thn (hl pins s1 σ H1 _ I1 q1) fun vl s2 ⟨l,H2,I2,pl,q2⟩=>thn (hu pins s2 σ H2 _ I2 q2) fun vu s3 ⟨u,H3,I3,pu,q3⟩=>?_)
 rw[evalPart_none]
 refine zwp0 ?_
 have I4:Inv X pins σ H3 { s3 with heap:=s3.heap.push { cls:=.type "slice",data:=.fields #[vl,vu,.none] } }:=I3.kept (t':=s3.toks) fun b ob q=>Heap.get?_push_of_some _ q
 obtain ⟨T,id,hT,ht,hg⟩:=hr pins { s3 with heap:=s3.heap.push { cls:=.type "slice",data:=.fields #[vl,vu,.none] } } σ H3 x v vl vu l u s3.heap.objs.size Q I4 r1 (Heap.IsSliceOf.new ..) pl pu q3
 show wpAny (model X.prog X.w) X.A (subscriptTail e (.Slice lo hi none p2) v (.ref s3.heap.objs.size)) (EP X pins σ Q) X.xe { s3 with heap:=s3.heap.push { cls:=.type "slice",data:=.fields #[vl,vu,.none] } }
 exact tail_any (ops:=[.ref s3.heap.objs.size,v]) ht hT hg (by with_unfolding_all rfl)
def yi2 (xs:List V)(lo hi:Option Int):List V:=(xs.drop (HT.sIx xs.length 0 lo)).take (HT.sIx xs.length xs.length hi-HT.sIx xs.length 0 lo)
theorem yi3 (xs:List V)(lo hi:Option Int):(yi2 xs lo hi).length≤xs.length:=by
 unfold yi2
 rw[List.length_take,List.length_drop]
 omega
def zc6 (K:PySem.W.Frag):V→Option Int→Option Int→Hp→VK→Prop:=fun x lo hi H Q=>∃a xs,x = .ref a∧SqT K H a xs∧
 ¬ (HT.sIx xs.length 0 lo=0∧HT.sIx xs.length xs.length hi=xs.length)∧∀p,H p=none→Q (.ref p) (upd H p (.tup (yi2 xs lo hi)))
theorem yz5:SlR X (zc6 X.K):=by
 intro pins s σ H x v vl vu lo hi sl Q I rx hs pl pu h
 obtain ⟨a,xs,rfl,hx,hw,q⟩:=h
 cases rx
 obtain ⟨its,r,ht,hz⟩:=I.tuple hx
 have hlen:its.toArray.size=xs.length:=by rw[List.size_toArray];exact r.length.symm
 refine⟨"tuple",_,PyProof.Rows.slot_tuple_getitem.lookup,ht.typeIs,?_⟩
 refine HT.getItem_tuple_cut ht hs pl pu (by rw[hlen];exact hw) ?_ (by rw[hlen];exact hz)
 rw[hlen]
 refine⟨.ref s.heap.objs.size,_,I.laid (t':=s.toks) (o:=.tup (yi2 xs lo hi)) (fun b ob q=>Heap.get?_push_of_some _ q) (Nat.le_refl _) ?_,rfl,q _ (I.hok.fresh (Nat.le_refl _))⟩
 exact⟨Nat.le_trans (yi3 xs lo hi) hz,_,(r.drop (HT.sIx xs.length 0 lo)).take (HT.sIx xs.length xs.length hi-HT.sIx xs.length 0 lo),IsTup.new _ _⟩
def zbv (K:PySem.W.Frag):R2:=fun x y H Q=>∃a b xs ys,x = .ref a∧y = .ref b∧SqT K H a xs∧SqT K H b ys∧xs≠[]∧xs.length+ys.length≤sizeLine∧
 (ys=[]→Q (.ref a) H)∧(ys≠[]→∀p,H p=none→Q (.ref p) (upd H p (.tup (xs++ys))))
theorem Vals.nil_iff {xs:List V}{us:List Value}(r:Vals xs us):us=[]↔xs=[]:=by
 cases r with
 |nil=>simp
 |cons _ _=>simp
theorem yya:OpR X (binaryOp .Add) (zbv X.K):=by
 intro pins s σ H x y v u Q I rx ry h
 obtain ⟨a,b,xs,ys,rfl,rfl,ha,hb,hx,hz,q1,q2⟩:=h
 cases rx
 cases ry
 obtain ⟨its,r1,p1,_⟩:=I.tuple ha
 obtain ⟨its2,r2,p2,_⟩:=I.tuple hb
 refine HT.cat_tup p1 p2 (fun z=>hx (r1.nil_iff.mp z)) (fun z=>⟨.ref a,H,I,rfl,q1 (r2.nil_iff.mp z)⟩) (fun z=>?_) (by rw[← r1.length,← r2.length];exact hz)
 refine⟨.ref s.heap.objs.size,_,I.laid (t':=s.toks) (o:=.tup (xs++ys)) (fun b ob q=>Heap.get?_push_of_some _ q) (Nat.le_refl _) ?_,rfl,q2 (fun w=>z (r2.nil_iff.mpr w)) _ (I.hok.fresh (Nat.le_refl _))⟩
 exact⟨by rw[List.length_append];exact hz,_,r1.append r2,IsTup.new _ _⟩
end
def ixN (n:Nat)(i:Int):Option Nat:=if 0≤i then (if i<n then some i.toNat else none) else if -(n:Int)≤i then some (i+n).toNat else none
def atI {α:Type}(xs:List α)(i:Int):Option α:=(ixN xs.length i).bind fun j=>xs[j]?
theorem ys4 {n:Nat}{i:Int}{j:Nat}(h:ixN n i=some j):seqIndex? i n=some j∧j<n∧-(n:Int)≤i∧i<n:=by
 unfold ixN at h
 by_cases h0:0≤i
 ·rw[if_pos h0] at h
  by_cases h1:i<n
  ·rw[if_pos h1] at h
   have e:i.toNat=j:=Option.some.inj h
   exact⟨by rw[seqIndex_of h0 h1,e],by omega,by omega,h1⟩
  ·rw[if_neg h1] at h;cases h
 ·rw[if_neg h0] at h
  by_cases h1:-(n:Int)≤i
  ·rw[if_pos h1] at h
   have e:(i+n).toNat=j:=Option.some.inj h
   exact⟨by rw[seqIndex_neg (by omega) h1,e],by omega,h1,by omega⟩
  ·rw[if_neg h1] at h;cases h
theorem ys5 {α:Type}{xs:List α}{i:Int}{v:α}(h:atI xs i=some v):∃j,seqIndex? i xs.length=some j∧xs[j]? = some v∧j<xs.length∧-(xs.length:Int)≤i∧i<xs.length:=by
 unfold atI at h
 cases e:ixN xs.length i with
 |none=>rw[e] at h;cases h
 |some j=>
  rw[e] at h
  obtain ⟨h1,h2,h3,h4⟩:=ys4 e
  exact⟨j,h1,h,h2,h3,h4⟩
theorem ycz {α:Type}{xs:List α}{j:Nat}{v:α}(h:xs[j]? = some v):atI xs (j:Int)=some v:=by
 have hj:j<xs.length:=(List.getElem?_eq_some_iff.mp h).1
 have e:ixN xs.length (j:Int)=some j:=by
  unfold ixN
  rw[if_pos (by omega),if_pos (by omega)];simp
 unfold atI;rw[e];exact h
def yyb (b:Expr):Prop:=∀o i,subscripted b false o i=operate [o,i] (getItem o i)
def IxR (X:Cx)(r:R2):Prop:=
 ∀(value slice:Expr) (pins:List (Addr×Obj)) (s:Shared) (σ:St) (H:Hp) (x y:V) (v u:Value) (Q:VK),Inv X pins σ H s→RelV x v→RelV y u→r x y H Q→
  subscripted slice false v u=operate [v,u] (getItem v u)→wpAny (model X.prog X.w) X.A (subscriptTail value slice v u) (EP X pins σ Q) X.xe s
def MtR (X:Cx)(id:String)(r:V→List V→Hp→VK→Prop):Prop:=
 ∀(pins:List (Addr×Obj)) (s:Shared) (σ:St) (H:Hp) (x:V) (xs:List V) (v:Value) (us:List Value) (Q:VK),Inv X pins σ H s→RelV x v→Vals xs us→r x xs H Q→
  wpAny (model X.prog X.w) X.A (call (.builtin id) (v::us)) (EP X pins σ Q) X.xe s
section
variable {X:Cx}{a b:Expr}{ta tb:TE}{pos:Pos}
theorem yba {r:R2}(hr:IxR X r)(ha:PE X a ta)(hb:PE X b tb)(hs:yyb b):PE X (.Subscript a b pos) (tOp r ta tb):=by
 intro pins s σ H Q I h
 exact Subscript_ (zbt ha hb I h fun v u s2 x y H2 I2 rx ry q=>hr a b pins s2 σ H2 x y v u Q I2 rx ry q (hs _ _))
def zbw (K:PySem.W.Frag):R2:=fun x y H Q=>∃p xs i v,x = .ref p∧y = .int i∧SqL K H p xs∧atI xs i=some v∧Q v H
def yvj (K:PySem.W.Frag):R2:=fun x y H Q=>∃p xs i v,x = .ref p∧y = .int i∧SqT K H p xs∧atI xs i=some v∧Q v H
theorem ya2:IxR X (zbw X.K):=by
 intro value slice pins s σ H x y v u Q I rx ry h hs
 obtain ⟨p,xs,i,z,rfl,rfl,hq,he,q⟩:=h
 cases rx
 obtain ⟨t,rfl⟩:=ry
 obtain ⟨its,r,pl,hz⟩:=I.list hq
 obtain ⟨j,h1,h2,h3,h4,h5⟩:=ys5 he
 obtain ⟨w,ew,rw'⟩:=r.get h2
 have hl:=r.length
 have hn:=ykx
 have fin:EP X pins σ Q w s:=⟨z,H,I,rw',q⟩
 by_cases h0:0≤i
 ·have hj:i.toNat=j:=by
   rw[seqIndex_of h0 h5] at h1
   exact Option.some.inj h1
  exact item_listR pl.isList h0 (by omega) (by rw[hj];simpa using ew) fin hs
 ·have hj:(i+(its.toArray.size:Int)).toNat=j:=by
   rw[seqIndex_neg (by omega) h4] at h1
   rw[List.size_toArray,← hl]
   exact Option.some.inj h1
  exact subscriptTail_builtinR (x:=w) pl.isList.typeIs slot_list_getitem.lookup
   (wpAny_getItem_list_neg (Q:=fun r s'=>r=w∧EP X pins σ Q r s') pl.isList (by omega) (by rw[List.size_toArray] <;> omega) (by omega) (by rw[hj];simpa using ew) ⟨rfl,fin⟩) hs
theorem ybt:IxR X (yvj X.K):=by
 intro value slice pins s σ H x y v u Q I rx ry h hs
 obtain ⟨p,xs,i,z,rfl,rfl,hq,he,q⟩:=h
 cases rx
 obtain ⟨t,rfl⟩:=ry
 obtain ⟨its,r,pl,hz⟩:=I.tuple hq
 obtain ⟨j,h1,h2,h3,h4,h5⟩:=ys5 he
 obtain ⟨w,ew,rw'⟩:=r.get h2
 have hl:=r.length
 have hn:=ykx
 have fin:EP X pins σ Q w s:=⟨z,H,I,rw',q⟩
 exact subscriptTail_builtinR (x:=w) pl.typeIs slot_tuple_getitem.lookup
  (getItem_tuple (j:=j) (Q:=fun r s'=>r=w∧EP X pins σ Q r s') pl (by omega) (by omega) (by rw[List.size_toArray,← hl];exact h1) (by simpa using ew) ⟨rfl,fin⟩) hs
theorem yrk (its:List Value) (n j:Nat) (u:Value):Obj.mapSeq (·.setIfInBounds j u) { cls:=.type "list",data:=.seq its.toArray n } = { cls:=.type "list",data:=.seq (its.set j u).toArray n }:=by
 simp [Obj.mapSeq]
theorem Inv.lst {pins:List (Addr×Obj)}{σ:St}{H:Hp}{s:Shared}{p:Addr}{xs:List V}(I:Inv X pins σ H s)(h:H p=some (.lst xs)) :
 ∃(its:List Value) (n:Nat),Vals xs its∧s.heap.get? p=some { cls:=.type "list",data:=.seq its.toArray n }∧xs.length≤sizeLine:=by
 obtain ⟨z,its,n,r,e⟩:=I.hok p _ h
 exact⟨its,n,r,e,z⟩
theorem Inv.lstUpd {pins:List (Addr×Obj)}{σ:St}{H:Hp}{s:Shared}{p:Addr}{xs ys:List V}{its its':List Value}{n n':Nat}{f:Obj→Obj}(I:Inv X pins σ H s)(h:H p=some (.lst xs))
 (ho:s.heap.get? p=some { cls:=.type "list",data:=.seq its.toArray n }) (hf:f { cls:=.type "list",data:=.seq its.toArray n } = { cls:=.type "list",data:=.seq its'.toArray n' }) (r:Vals ys its') (hz:ys.length≤sizeLine) (t:Nat) :
 Inv X pins σ (upd H p (.lst ys)) { s with heap:=s.heap.update p f,toks:=t }:=by
 have e:(s.heap.update p f).get? p=some { cls:=.type "list",data:=.seq its'.toArray n' }:=by
  rw[Heap.get?_update_self f ho (by rw[hf] <;> rfl),hf]
 refine I.write (x:=p) (e:=p) (by rw[h];trivial) (.inl rfl) (fun b u hb q=>(Heap.get?_update_other _ _ (Ne.symm hb)).trans q) ⟨_,e⟩ ?_
 exact⟨hz,its',n',r,e⟩
def zbx:V→V→V→Hp→(Hp→Prop)→Prop:=fun o i v H Q=>∃p xs k j,o = .ref p∧i = .int k∧H p=some (.lst xs)∧ixN xs.length k=some j∧Q (upd H p (.lst (xs.set j v)))
theorem ydc:zbp X zbx:=by
 intro pins s σ H o i v ov iv u Q I ro ri rv h
 obtain ⟨p,xs,k,j,rfl,rfl,hp,hj,q⟩:=h
 cases ro
 obtain ⟨t,rfl⟩:=ri
 obtain ⟨its,n,r,ho,hz⟩:=I.lst hp
 obtain ⟨h1,h2,h3,h4⟩:=ys4 hj
 have hl:=r.length
 have hn:=ykx
 have I':Inv X pins σ (upd H p (.lst (xs.set j v))) { s with heap:=s.heap.update p (Obj.mapSeq (·.setIfInBounds j u)) }:=
  I.lstUpd hp ho (yrk its n j u) (r.set rv j) (by rw[List.length_set];exact hz) s.toks
 by_cases h0:0≤k
 ·have hk:k.toNat=j:=by
   rw[seqIndex_of h0 h4] at h1
   exact Option.some.inj h1
  exact PySem.W.ki_setAt ho h0 (by omega) (by rw[List.size_toArray,← hl];exact h4) (by rw[hk];exact⟨_,I',q⟩)
 ·have hk:(k+(its.toArray.size:Int)).toNat=j:=by
   rw[seqIndex_neg (by omega) h3] at h1
   rw[List.size_toArray,← hl]
   exact Option.some.inj h1
  exact PySem.W.ki_setBack ho (by omega) (by rw[List.size_toArray,← hl];exact h3) (by omega) (by rw[hk];exact⟨_,I',q⟩)
theorem ynh (lo hi:Option Int)(n:Nat):(sliceBounds lo hi none n).1=((HT.sIx n 0 lo:Nat):Int)∧(sliceBounds lo hi none n).2.1=((HT.sIx n n hi:Nat):Int)∧(sliceBounds lo hi none n).2.2=1:=by
 refine⟨?_,?_,rfl⟩
 ·cases lo with
  |none=>simp [sliceBounds,HT.sIx]
  |some i=>
   simp only[sliceBounds,HT.sIx,Option.getD_none,show (1:Int) > 0 by decide,if_true]
   by_cases h:i<0
   ·simp only[h,if_true] <;> omega
   ·simp only[h,if_false] <;> omega
 ·cases hi with
  |none=>simp [sliceBounds,HT.sIx]
  |some i=>
   simp only[sliceBounds,HT.sIx,Option.getD_none,show (1:Int) > 0 by decide,if_true]
   by_cases h:i<0
   ·simp only[h,if_true] <;> omega
   ·simp only[h,if_false] <;> omega
theorem ylt (its:List Value)(lo hi:Option Int):slicePick its.toArray lo hi none=((its.drop (HT.sIx its.length 0 lo)).take (HT.sIx its.length its.length hi-HT.sIx its.length 0 lo)).toArray:=by
 obtain ⟨h1,h2,h3⟩:=ynh lo hi its.toArray.size
 unfold slicePick
 rw[h1,h2,h3]
 simp only[sliceRange_one,pick_run,List.size_toArray] <;> rfl
def zco (K:PySem.W.Frag):V→Option Int→Option Int→Hp→VK→Prop:=fun x lo hi H Q=>∃a xs,x = .ref a∧SqL K H a xs∧∀p,H p=none→Q (.ref p) (upd H p (.lst (yi2 xs lo hi)))
theorem ygx:SlR X (zco X.K):=by
 intro pins s σ H x v vl vu lo hi sl Q I rx hs pl pu h
 obtain ⟨a,xs,rfl,hx,q⟩:=h
 cases rx
 obtain ⟨its,r,ht,hz⟩:=I.list hx
 have hlen:=r.length
 refine⟨"list",_,slot_list_getitem.lookup,ht.isList.typeIs,?_⟩
 refine wpAny_getItem_list_slice ht.isList hs pl pu .none (by simp) ?_ (by rw[List.size_toArray] <;> omega)
 rw[ylt,← hlen]
 refine⟨.ref s.heap.objs.size,_,I.laid (t':=s.toks) (o:=.lst (yi2 xs lo hi)) (fun b ob q=>Heap.get?_push_of_some _ q) (Nat.le_refl _) ?_,rfl,q _ (I.hok.fresh (Nat.le_refl _))⟩
 exact⟨Nat.le_trans (yi3 xs lo hi) hz,_,0,(r.drop (HT.sIx xs.length 0 lo)).take (HT.sIx xs.length xs.length hi-HT.sIx xs.length 0 lo),Heap.get?_push_size _ rfl⟩
def yho:V→Bool
 |.non=>true
 |.bl _=>true
 |.int _=>true
 |.str _=>true
 |_=>false
def eqV:V→V→Bool
 |.non,.non=>true
 |.bl a,.bl b=>a == b
 |.bl a,.int b=>(if a then 1 else 0) == b
 |.int a,.bl b=>a == (if b then 1 else 0)
 |.int a,.int b=>a == b
 |.str a,.str b=>a == b
 |_,_=>false
theorem yxl {A:Around}{s:Shared}{y x:V}{u v:Value}(ry:RelV y u)(rx:RelV x v)(fy:yho y=true)(fx:yho x=true):SeqAt.EqAt A s u v (eqV y x):=by
 cases y with
 |non=>
  cases ry
  cases x with
  |non=>cases rx;exact SeqAt.EqAt.same _
  |bl b=>cases rx;exact SeqAt.EqAt.none_bool b
  |int b=>obtain ⟨t,rfl⟩:=rx;exact SeqAt.EqAt.none_int b t
  |str b=>obtain ⟨t,rfl⟩:=rx;exact SeqAt.EqAt.none_str b t
  |_=>exact absurd (show false=true from fx) Bool.false_ne_true
 |bl a=>
  cases ry
  cases x with
  |non=>cases rx;exact SeqAt.EqAt.bool_none a
  |bl b=>cases rx;exact SeqAt.EqAt.bool_bool a b
  |int b=>obtain ⟨t,rfl⟩:=rx;exact SeqAt.EqAt.bool_int a b t
  |str b=>obtain ⟨t,rfl⟩:=rx;exact SeqAt.EqAt.bool_str a b t
  |_=>exact absurd (show false=true from fx) Bool.false_ne_true
 |int a=>
  obtain ⟨t',rfl⟩:=ry
  cases x with
  |non=>cases rx;exact SeqAt.EqAt.int_none a t'
  |bl b=>cases rx;exact SeqAt.EqAt.int_bool a t' b
  |int b=>obtain ⟨t,rfl⟩:=rx;exact SeqAt.EqAt.int_int a t' b t
  |str b=>obtain ⟨t,rfl⟩:=rx;exact SeqAt.EqAt.int_str a t' b t
  |_=>exact absurd (show false=true from fx) Bool.false_ne_true
 |str a=>
  obtain ⟨t',rfl⟩:=ry
  cases x with
  |non=>cases rx;exact SeqAt.EqAt.str_none a t'
  |bl b=>cases rx;exact SeqAt.EqAt.str_bool a t' b
  |int b=>obtain ⟨t,rfl⟩:=rx;exact SeqAt.EqAt.str_int a t' b t
  |str b=>obtain ⟨t,rfl⟩:=rx;exact SeqAt.EqAt.str_str a t' b t
  |_=>exact absurd (show false=true from fx) Bool.false_ne_true
 |_=>exact absurd (show false=true from fy) Bool.false_ne_true
def eqU (x:V)(u:Value):Bool:=match u with
 |.none=>eqV .non x
 |.bool b=>eqV (.bl b) x
 |.int i _=>eqV (.int i) x
 |.str z _=>eqV (.str z) x
 |_=>false
theorem yqd {x y:V}{u:Value}(r:RelV y u)(f:yho y=true):eqU x u=eqV y x:=by
 cases y with
 |non=>cases r;rfl
 |bl b=>cases r;rfl
 |int i=>obtain ⟨t,rfl⟩:=r;rfl
 |str z=>obtain ⟨t,rfl⟩:=r;rfl
 |_=>exact absurd (show false=true from f) Bool.false_ne_true
theorem ylu {A:Around}{s:Shared}{x:V}{v:Value}(rx:RelV x v)(fx:yho x=true):∀{xs:List V}{us:List Value},Vals xs us→xs.all yho=true→∀u∈us,SeqAt.EqAt A s u v (eqU x u)
 |_,_,.nil,_=>fun u hu=>by cases hu
 |y::xs,u::us,.cons r t,f=>fun u' hu=>by
  rw[List.all_cons,Bool.and_eq_true] at f
  rcases List.mem_cons.mp hu with rfl|hu
  ·rw[yqd r f.1];exact yxl r rx f.1 fx
  ·exact ylu rx fx t f.2 u' hu
theorem yar:ygw X (.builtin "len") (fun xs H Q=>∃p ys,xs=[.ref p]∧(SqL X.K H p ys∨SqT X.K H p ys)∧Q (.int ys.length) H):=by
 intro pins s σ H xs us Q I r h
 obtain ⟨p,ys,rfl,hq,q⟩:=h
 obtain ⟨u,rfl,rx⟩:=yz1 r
 cases rx
 have hn:=ykx
 rcases hq with hq|hq
 ·obtain ⟨its,r',pl,hz⟩:=I.list hq
  have hlen:=r'.length
  exact Calls.call_len_list pl.isList (by simp only[List.size_toArray] <;> omega) ⟨.int ys.length,H,I.tok _,⟨s.toks+1,by rw[List.size_toArray,hlen]⟩,q⟩
 ·obtain ⟨its,r',pl,hz⟩:=I.tuple hq
  have hlen:=r'.length
  exact len_tuple pl (by simp only[List.size_toArray] <;> omega) ⟨.int ys.length,H,I.tok _,⟨s.toks+1,by rw[List.size_toArray,hlen]⟩,q⟩
theorem ye1:ygw X (.type "list") (fun xs H Q=>∃p ys,xs=[.ref p]∧(SqL X.K H p ys∨SqT X.K H p ys)∧∀l,H l=none→Q (.ref l) (upd H l (.lst ys))):=by
 intro pins s σ H xs us Q I r h
 obtain ⟨p,ys,rfl,hq,q⟩:=h
 obtain ⟨u,rfl,rx⟩:=yz1 r
 cases rx
 have fin:∀(its:List Value),Vals ys its→ys.length≤sizeLine→∀(h':Heap) (c':Nat),(∀b o',s.heap.get? b=some o'→h'.get? b=some o')→
  h'.get? s.heap.objs.size=some { cls:=.type "list",dict:=none,data:=.seq its.toArray c',slots:=#[] }→EP X pins σ Q (.ref s.heap.objs.size) { s with heap:=h' }:=fun its r' hz h' c' kp e =>
  ⟨.ref s.heap.objs.size,_,I.laid (t':=s.toks) kp (Nat.le_refl _) (show ObjOk X.prog X.w _ h' _ (.lst ys) from ⟨hz,its,c',r',e⟩),rfl,q _ (I.hok.fresh (Nat.le_refl _))⟩
 rcases hq with hq|hq
 ·obtain ⟨its,r',pl,hz⟩:=I.list hq
  have hlen:=r'.length
  obtain ⟨o,ho,hc,n,hd⟩:=pl.isList
  exact call_list_seq p (.inl rfl) ho hc hd (fun h' c' kp e=>fin its r' hz h' c' kp e) (by simp only[List.size_toArray] <;> omega)
 ·obtain ⟨its,r',pl,hz⟩:=I.tuple hq
  have hlen:=r'.length
  obtain ⟨o,ho,hc,n,hd⟩:=pl
  exact call_list_seq p (.inr rfl) ho hc hd (fun h' c' kp e=>fin its r' hz h' c' kp e) (by simp only[List.size_toArray] <;> omega)
def tyV (K:PySem.W.Frag)(T:String)(x:V)(H:Hp):Prop:=match x with
 |.str _=>T = "str"
 |.int _=>T = "int"
 |.ref p=>(T = "list" ∧ ∃xs,SqL K H p xs)∨(T = "tuple" ∧ ∃o,K.lookup p=some o∧o.cls = .type "tuple" ∧ o.dict=none) ∨
  (T = "dict" ∧ ((∃kvs,H p=some (.dK kvs))∨∃kvs,H p=some (.dT kvs)))∨(T = "set" ∧ ∃S n,H p=some (.set S n))
 |_=>False
theorem yz6 {pins:List (Addr×Obj)}{σ:St}{H:Hp}{s:Shared}{T:String}{x:V}{v:Value}(I:Inv X pins σ H s)(r:RelV x v)(ty:tyV X.K T x H) :
 s.TypeIs v T∧∀a,v = .ref a→∃ob,s.heap.get? a=some ob∧ob.dict=none:=by
 cases x with
 |str z=>
  obtain ⟨t,rfl⟩:=r
  cases (show T = "str" from ty)
  exact⟨typeIs_str s z t,fun _ e=>nomatch e⟩
 |int i=>
  obtain ⟨t,rfl⟩:=r
  cases (show T = "int" from ty)
  exact⟨typeIs_int s i t,fun _ e=>nomatch e⟩
 |ref p=>
  cases r
  rcases ty with ⟨rfl,xs,hq⟩ | ⟨rfl,o,hk,hc,hd⟩ | ⟨rfl,hk⟩ | ⟨rfl,S,n,hk⟩
  ·obtain ⟨its,_,pl,_⟩:=I.list hq
   refine⟨pl.isList.typeIs,fun a e=>?_⟩
   cases e
   obtain ⟨o,n,e,c,hd,_⟩:=pl
   exact⟨o,e,hd⟩
  ·refine⟨⟨o,I.kIn p o hk,hc⟩,fun a e=>?_⟩
   cases e
   exact⟨o,I.kIn _ o hk,hd⟩
  ·have z:∃o,s.heap.get? p=some o∧o.ExactDict:=by
    rcases hk with ⟨kvs,hk⟩ | ⟨kvs,hk⟩
    ·obtain ⟨_,_,_,_,o,_,_,e,ex,_⟩:=I.hok p _ hk
     exact⟨o,e,ex⟩
    ·obtain ⟨_,_,_,_,o,_,_,e,ex,_⟩:=I.hok p _ hk
     exact⟨o,e,ex⟩
   obtain ⟨o,e,ex⟩:=z
   refine⟨⟨o,e,ex.1⟩,fun a e2=>?_⟩
   cases e2
   exact⟨o,e,ex.2.1⟩
  ·obtain ⟨o,_,_,_,e,ex,_⟩:=I.hok p _ hk
   refine⟨⟨o,e,ex.1⟩,fun a e2=>?_⟩
   cases e2
   exact⟨o,e,ex.2.1⟩
 |_=>exact False.elim ty
def tBM (K:PySem.W.Frag)(T:String)(r:V→List V→Hp→VK→Prop)(to:TE)(t:TA):TE:=fun σ H Q=>to σ H fun x H1=>tyV K T x H1∧t σ H1 fun xs H2=>r x xs H2 Q
variable {o e:Expr}{es:List Expr}{to:TE}{t:TA}{name:Str}{apos cpos:Pos}{T id:String}{r:V→List V→Hp→VK→Prop}
theorem ylv (pa:PlainAttrs T) (slot:Slot T name id) (hty:typeOf (.builtin id)=pure (.type "method_descriptor")) (hm:MtR X id r) (ho:PE X o to) (ha:PA X (e::es) t)
 (hbase:attributeBase o name X.env (eval o X.env)=eval o X.env:=by rfl)
 (hfew:((backTo cpos (starEach (e::es) X.env)).all (fun x=>!x.1)&&(backToKw cpos (keywordEach [] X.env)).all (fun x=>x.1.isSome)
  && decide ((e::es).length+([]:List Keyword).length+(if ([]:List Keyword).isEmpty then 0 else 1)<30))=true:=by rfl)
 (hline:(apos.endLine == cpos.line)=true:=by rfl) (hs:starEach (e::es) X.env=(false,eval e X.env)::starEach es X.env:=by rfl) (hplain:(backTo cpos (starEach es X.env)).any (·.1)=false:=by rfl) :
 PE X (.Call (.Attribute o name apos) (e::es) [] cpos) (tBM X.K T r to t):=by
 intro pins s σ H Q I h
 refine wpAny_Call_method_late hbase hfew hline rfl (thn (ho pins s σ H _ I h) fun v s1 ⟨x,H1,I1,r1,ty,q1⟩=>?_)
 obtain ⟨h1,h2⟩:=yz6 I1 r1 ty
 refine⟨T,id,pa,slot,hty,h1,h2,?_⟩
 have hA:=ha cpos pins s1 σ H1 _ I1 q1
 rw[hs] at hA ⊢
 refine Calls.callWith_builtin (by show (false || (backTo cpos (starEach es X.env)).any (·.1))=false;rw[hplain] <;> rfl) (Calls.evalArgs_plain ?_)
 exact thn hA fun us s2 ⟨vs,H2,I2,r2,q2⟩=>hm pins s2 σ H2 x vs v us Q I2 r1 r2 q2
end
def MtM (X:Cx)(id:String)(r:V→List V→Hp→VK→Prop):Prop:=
 ∀(pins:List (Addr×Obj)) (s:Shared) (σ:St) (H:Hp) (x:V) (xs:List V) (v:Value) (us:List Value) (Q:VK),Inv X pins σ H s→RelV x v→Vals xs us→r x xs H Q→
  wpAny (model X.prog X.w) X.A (call (.builtin id) (v::us)) (EP X pins σ Q) X.xe s
theorem Vals.one:∀{x:V}{us:List Value},Vals [x] us→∃u,us=[u]∧RelV x u
 |_,_,.cons r .nil=>⟨_,rfl,r⟩
theorem Vals.two:∀{x y:V}{us:List Value},Vals [x,y] us→∃u v,us=[u,v]∧RelV x u∧RelV y v
 |_,_,_,.cons r (.cons q .nil)=>⟨_,_,rfl,r,q⟩
theorem Vals.rep {xs:List V}{us:List Value}(h:Vals xs us):∀k:Nat,Vals (List.replicate k xs).flatten (List.replicate k us).flatten
 |0=>.nil
 |k+1=>by
  rw[List.replicate_succ,List.replicate_succ,List.flatten_cons,List.flatten_cons]
  exact Vals.append h (Vals.rep h k)
theorem yni (its:List Value):∀(k:Nat) (acc:List Value),
 List.foldl (fun x1 x2=>x1++x2) acc.toArray (List.replicate k its.toArray)=(acc++(List.replicate k its).flatten).toArray
 |0,acc=>by simp
 |k+1,acc=>by
  have e:acc.toArray++its.toArray=(acc++its).toArray:=by simp
  have e2:(acc++its)++(List.replicate k its).flatten=acc++(List.replicate (k+1) its).flatten:=by
   rw[List.replicate_succ,List.flatten_cons,List.append_assoc]
  rw[← e2,← yni its k (acc++its),← e,List.replicate_succ,List.foldl_cons]
section
variable {X:Cx}{pins:List (Addr×Obj)}{σ:St}{H:Hp}{s:Shared}{l b:Addr}{xs ys zs:List V}
theorem Inv.lset {its its':List Value}{n:Nat}{f:Array Value→Array Value}{t':Nat}(I:Inv X pins σ H s)(hH:H l=some (.lst xs))
 (e:s.heap.get? l=some { cls:=.type "list",data:=.seq its.toArray n }) (hf:f its.toArray=its'.toArray) (hv:Vals ys its') (hz:ys.length≤sizeLine) :
 Inv X pins σ (upd H l (.lst ys)) { s with heap:=s.heap.update l (Obj.mapSeq f),toks:=t' }:=by
 have q:=PySem.IsL.update e f
 rw[hf] at q
 refine I.write (x:=l) (e:=l) (by rw[hH];exact trivial) (.inl rfl) (fun b' u hb hu=>(Heap.get?_update_other s.heap (Obj.mapSeq f) (Ne.symm hb)).trans hu) ⟨_,q⟩ ?_
 exact⟨hz,its',_,hv,q⟩
theorem Inv.lnew {its:List Value}{t':Nat}(I:Inv X pins σ H s)(hv:Vals ys its)(hz:ys.length≤sizeLine) :
 Inv X pins σ (upd H s.heap.objs.size (.lst ys)) { s with heap:=s.heap.push { cls:=.type "list",data:=.seq its.toArray },toks:=t' } :=
 I.laid (fun _ _ q=>Heap.get?_push_of_some _ q) (Nat.le_refl _) ⟨hz,its,0,hv,Heap.get?_push_size _ rfl⟩
theorem Inv.fresh (I:Inv X pins σ H s):H s.heap.objs.size=none:=I.hok.fresh (Nat.le_refl _)
theorem Inv.lstM (I:Inv X pins σ H s) (hH:H l=some (.lst xs)):xs.length≤sizeLine∧∃(its:List Value) (n:Nat),Vals xs its∧xs.length=its.length∧s.heap.get? l=some { cls:=.type "list",data:=.seq its.toArray n }:=by
 obtain ⟨z,its,n,r,e⟩:=I.hok l _ hH
 exact⟨z,its,n,r,r.length,e⟩
theorem yvn {n:Nat}(h:n≤sizeLine):Builtin.List.listTooLong n=false:=by
 unfold Builtin.List.listTooLong
 exact decide_eq_false (by omega)
end
section
variable {X:Cx}
def yyc:V→List V→Hp→VK→Prop:=fun x vs H Q=>∃l xs y,x = .ref l∧vs=[y]∧H l=some (.lst xs)∧xs.length<sizeLine∧Q .non (upd H l (.lst (xs++[y])))
theorem ydd:MtM X "list.append" yyc:=by
 intro pins s σ H x vs v us Q I rx rv h
 obtain ⟨l,xs,y,rfl,rfl,hH,hz,q⟩:=h
 cases rx
 obtain ⟨u,rfl,ru⟩:=rv.one
 obtain ⟨z,its,n,r,hl,e⟩:=I.lstM hH
 refine call_meets F.slot_list_append ⟨_,e,rfl⟩ F.entry_list_append (F.args_list_append_2 _ _) (PySem.list_append l its.toArray n u (by rw[List.size_toArray];omega)) ⟨e,?_⟩
 refine⟨.non,_,I.lset (its':=its++[u]) hH e (by simp) (r.append (.cons ru .nil)) ?_,rfl,q⟩
 rw[List.length_append,List.length_singleton]
 omega
def zcp:R2:=fun x y H Q=>∃l b xs zs,x = .ref l∧y = .ref b∧H l=some (.lst xs)∧H b=some (.lst zs)∧xs.length+zs.length≤sizeLine∧∀p,H p=none→Q (.ref p) (upd H p (.lst (xs++zs)))
theorem yg8:OpR X (binaryOp .Add) zcp:=by
 intro pins s σ H x y v u Q I rx ry h
 obtain ⟨l,b,xs,zs,rfl,rfl,hH,hB,hz,q⟩:=h
 cases rx
 cases ry
 obtain ⟨z,its,n,r,hl,e⟩:=I.lstM hH
 obtain ⟨z2,its2,n2,r2,hl2,e2⟩:=I.lstM hB
 refine PySem.P.add_list e e2 ?_ (by rw[List.size_toArray,List.size_toArray];omega)
 have ea:its.toArray++its2.toArray=(its++its2).toArray:=by simp
 rw[ea]
 exact⟨.ref _,_,I.lnew (t':=s.toks) (r.append r2) (by rw[List.length_append];omega),rfl,q _ I.fresh⟩
def zcq:R2:=fun x y H Q=>∃l k xs,x = .ref l∧y = .int k∧H l=some (.lst xs)∧-(2 ^ 63)≤k∧k<2 ^ 63∧xs.length*k.toNat≤sizeLine∧
 ∀p,H p=none→Q (.ref p) (upd H p (.lst (List.replicate k.toNat xs).flatten))
theorem yyd {α:Type}(xs:List α)(k:Nat):(List.replicate k xs).flatten.length=k*xs.length:=by
 induction k with
 |zero=>simp
 |succ k ih=>rw[List.replicate_succ,List.flatten_cons,List.length_append,ih,Nat.succ_mul,Nat.add_comm]
theorem ys6:OpR X (binaryOp .Mult) zcq:=by
 intro pins s σ H x y v u Q I rx ry h
 obtain ⟨l,k,xs,rfl,rfl,hH,h1,h2,hz,q⟩:=h
 cases rx
 obtain ⟨t,rfl⟩:=ry
 obtain ⟨z,its,n,r,hl,e⟩:=I.lstM hH
 have hlen:its.toArray.size*k.toNat≤sizeLine:=by rw[List.size_toArray,← hl];exact hz
 have hcap:¬ its.toArray.size*k.toNat > (2 ^ 63-1) / 8:=by
  have:(sizeLine:Nat)≤(2 ^ 63-1) / 8:=by decide
  omega
 have hfit:¬ (!Builtin.List.listFitsIndex k)=true:=by
  rw[fitsIndex_both h1 h2]
  exact Bool.false_ne_true
 have hlong:¬ Builtin.List.listTooLong (its.toArray.size*k.toNat)=true:=by
  rw[yvn hlen]
  exact Bool.false_ne_true
 have hnew:List.foldl (fun x1 x2=>x1++x2) #[] (List.replicate (if its.toArray.isEmpty=true then 0 else k.toNat) its.toArray)=(List.replicate k.toNat its).flatten.toArray:=by
  have f0:∀m:Nat,List.foldl (fun x1 x2=>x1++x2) #[] (List.replicate m its.toArray)=(List.replicate m its).flatten.toArray:=fun m=>by
   have:=yni its m []
   rw[List.nil_append] at this
   exact this
  rw[f0]
  cases its with
  |nil=>simp
  |cons a r'=>rw[if_neg (by simp)]
 refine wpAny_binaryOp_repeat_ref (T := "list") (U := "int") (by decide) ⟨_,e,rfl⟩ (fun s'=>typeIs_int s' k t) noFill_list_mul F.fills_int_mul F.slot_int_rmul repeat_list F.slot_int_index.lookup
  (call_meets F.slot_int_rmul (typeIs_int s k t) F.entry_int_rmul (F.args_int_rmul_2 _ _) (int___rmul___int_list k t l its.toArray n)
   ⟨e,rfl,⟨_,e,rfl⟩,call_meets F.slot_list_mul ⟨_,e,rfl⟩ F.entry_list_mul (F.args_list_mul_2 _ _) (AutoListH.list___mul___list_int_3 l its.toArray n k t hfit hcap hlong) ⟨e,?_⟩⟩)
 rw[hnew]
 exact⟨.ref _,_,I.lnew (t':=s.toks) (r.rep k.toNat) (by rw[yyd,Nat.mul_comm];exact hz),rfl,q _ I.fresh⟩
end
section
variable {prog:Program}{w:World}{A:Around}{E:Value→Shared→Prop}{s:Shared}
end
section
variable {X:Cx}
end
end L2
namespace Att
open PySem PySem.W PySem.Calls PyProof.Rows
theorem yi4 {P:Params}{h:Heap}:∀(ns:List Int) (vs:List Value),WellAll P h vs (ns.map WData.int)→IntsAre vs ns:=by
 intro ns
 induction ns with
 |nil=>
  intro vs w
  rw[List.map_nil] at w
  cases w
  exact .nil
 |cons n ns ih=>
  intro vs w
  rw[List.map_cons] at w
  cases w with
  |cons a b=>
   cases a
   exact .cons _ _ (ih _ b)
theorem ys7 {l:OpenLaw}{n:Nat}(hn:l.most=some n){P:Params}{h:Heap}{args:List WData}{vals:List Value}
 (hpre:l.row.toRowW.claim.pre args=true) (hwl:WellAll P h vals args) :
 ∃a vs ns,vals=[Value.ref a]∧args=[WData.list (ns.map WData.int)]∧h.get? a=some { cls:=.type "list",data:=.seq vs.toArray }∧IntsAre vs ns∧ns.length≤n:=by
 have hsh:WShape.hasAll [] args [.list .int]=true:=(pre_splitW hpre).1
 have hc:l.pre.holds [] { args:=args } = true:=(pre_splitW hpre).2
 obtain ⟨d,r,rfl,h1,h2⟩:=hasAllW_cons hsh
 obtain rfl:=hasAllW_nil h2
 obtain ⟨xs,rfl,h3⟩:=hasW_list h1
 obtain ⟨ns,rfl⟩:=items_int h3
 have hlen:ns.length≤n:=by
  unfold OpenLaw.pre at hc
  have h4:(WTm.not (.lt (.lit (.int (n:Int))) (.len (.arg 0)))).holds [] { args:=[.list (ns.map .int)] } = true:=by
   have h4:=(holds_andW hc).1
   rw[hn] at h4
   exact h4
  have h5:=condW_of h4 (w_not (w_lt w_lit (w_len_list (w_arg rfl))))
  rw[List.length_map] at h5
  refine Nat.le_of_not_lt fun q=>?_
  have q':(n:Int)<((ns.length:Nat):Int):=by omega
  first
   |(rw[decide_eq_true q'] at h5;exact absurd h5 (by decide))
   |(simp at h5;omega)
 cases hwl with
 |cons w1 w2=>
  cases w2
  cases w1 with
  |list ho hall=>exact⟨_,_,ns,rfl,rfl,ho,yi4 ns _ hall,hlen⟩
theorem ys8 (l:OpenLaw)(args:List WData):l.row.toRowW.claim.post args (.bool true) args=true:=
 postW_of (r:=l.row.toRowW) (X:=(true == true))
  (show WShape.has [] (.bool true) .bool=true by first|rfl|decide|simp [WShape.has,WShape.arms,WShape.armsAll])
  (show (WTm.eq .res (.lit (.bool true))).value [] { args:=args,res:=some (.bool true),after:=args } = some (.bool (true == true)) from w_eq_bool (w_res rfl) w_lit) rfl
theorem attach_call {l:OpenLaw}{n:Nat}{q:Program}{loose:List Str}{XP:(Str→Option Value)→Heap→Prop}{YP:World→Heap→Prop}{d:DefRec}
 (hn:l.most=some n) (hdf:d.params.defaults=[])
 (call:∀(w:World) (s₀ s₁:Shared) (mg mb:Str→Option Value) (fa:Addr) (o:Obj) (pm cd doc:Value) (a:Addr) (vs:List Value) (ns:List Int),
  Ground q loose [] XP w s₀ mg mb s₁.heap→YP w s₁.heap→
  s₁.heap.get? fa=some o→o.data = .func (docDef d.name d.params d.body d.scope pm cd doc)→s₁.heap.CodeRec cd d.name→mg d.name=some (.ref fa)→
  s₁.heap.get? a=some { cls:=.type "list",data:=.seq vs.toArray }→IntsAre vs ns→ns.length≤n→s₁.gens = #[] →
  codeAny (model l.prog w) callerA (.call (.ref fa) ⟨[.ref a],[]⟩) (fun r s'=>r = .ok (.ret (.bool true))∧OldK s₁.heap s'.heap∧s'.os=s₁.os∧AllBare s'.gens) s₁) :
 WalkO q loose XP YP l.row.toRowW d [] (fun f vs=>PySem.call f vs):=by
 intro w s₀ s₁ mg mb G Y fa o pm cd doc dV kV ho hd hcd hD hmg hg args vals as hpre hlay hrd hwl hlo
 obtain rfl:dV = .none:=Dflts.none hD hdf
 obtain rfl:kV = .none:=Dflts.noKw hD
 obtain ⟨a,vs,ns,rfl,rfl,hobj,hints,hlen⟩:=ys7 hn hpre hwl
 refine enter_call (codeAny_mono (call w s₀ s₁ mg mb fa o pm cd doc a vs ns G Y ho (fd_plain hd) hcd hmg hobj hints hlen hg) fun r s' hq=>?_)
 obtain ⟨rfl,h2,h3,h4⟩:=hq
 exact⟨.inl ⟨.bool true,.bool true,[],rfl,fun _=>rfl,.bool true,ys8 l _,fun _=>⟨List.Pairwise.nil,fun _ hm=>(nomatch hm)⟩⟩,h2,h3,h4⟩
section
variable {prog:Program}{w:World}{A:Around}{E:Value→Shared→Prop}{s:Shared}{K:Frag}
end
end Att
namespace L2
open PySem PySem.Spec PyProof.Rows
theorem ynj:∀{vs:List Value}{ns:List Int},IntsAre vs ns→Vals (ns.map V.int) vs
 |_,_,.nil=>.nil
 |_,_,.cons n t h=>.cons ⟨t,rfl⟩ (ynj h)
def yap (s:Stmt):Arguments:=match s with
 |.FunctionDef _ a _ _ _ _ _ _ _ _=>a
 |_=>{ posonlyargs:=[],args:=[],vararg:=none,kwonlyargs:=[],kw_defaults:=[],kwarg:=none,defaults:=[] }
def yao (s:Stmt):List Stmt:=match s with
 |.FunctionDef _ _ b _ _ _ _ _ _ _=>b
 |_=>[]
def yac (s:Stmt):Scope:=match s with
 |.FunctionDef _ _ _ _ _ _ sc _ _ _=>sc
 |_=>{ kind:=.function,names:=[],isGenerator:=false,isCoroutine:=false }
abbrev CX0:CXT:=fun _ _ _ _ _ _=>False
abbrev E0:XK:=fun _ _ _=>False
theorem ya1 {X:Cx}:yi1 CX0 X E0:=fun _ _ _ _ _ _ _ h=>h.elim
structure Fun (K:PySem.W.Frag) (x qual:Str) (st:Stmt) (f:Addr) (fd:FuncData):Prop where
 ex:∃(oc:Value) (od:Option Addr) (kV doc pm:Value) (an:Option Addr) (cdv ct:Value) (osl:Array (Option Value)),
  fd=PySem.W.fnOf x qual (yap st) (yao st) (yac st) .none kV doc pm an cdv ct∧K.lookup f=some ⟨oc,od,.func fd,osl⟩∧PySem.W.codeIn K cdv qual=true
 kp:PySem.W.keepIn K (.ref f)=true
section
variable {P:Program}{w:World}{K:PySem.W.Frag}{mg:Str→Option Value}{base:Heap}
theorem Fun.ok {x qual:Str}{st:Stmt}{f:Addr}{fd:FuncData}{N ps:List Str}{k:Nat}{sp:Sp}(F:Fun K x qual st f fd)(S:FnScope N ps (yac st))(len:∀vs H Q E,sp vs H Q E→vs.length=ps.length)
 (hbody:∀(cdv:Value) (A:Around) (outer:List Env) (s:Shared) (H:Hp) (vs:List V) (Q:VK) (E:XK),Room k (A.deeper (envOfC qual (yac st) s.heap.objs.size f cdv))→sp vs H Q E→
  ∃t,PSs (ysk CX0 P w K mg base N qual (yac st) f cdv A outer s H E).nox (yao st) t∧t { nx:=fun _ H'=>Q .non H',rt:=Q } (ykg N vs) H):FnOk P w K mg base CX0 (k+1) f fd ps sp:=by
 obtain ⟨oc,od,kV,doc,pm,an,cdv,ct,osl,rfl,lk,hcd⟩:=F.ex
 refine yx8 lk hcd S len fun A outer s H vs Q E hr hsp=>?_
 obtain ⟨t,h,q⟩:=hbody cdv A outer s H vs Q E hr hsp
 exact⟨t,h.nox,q⟩
theorem Fun.binds {x qual:Str}{st:Stmt}{f:Addr}{fd:FuncData}{ps:List Str}(F:Fun K x qual st f fd)
 (h:∀(kV doc pm:Value) (an:Option Addr) (cdv ct:Value) (us:List Value),us.length=ps.length→bindArgs (PySem.W.fnOf x qual (yap st) (yao st) (yac st) .none kV doc pm an cdv ct) ⟨us,[]⟩=pure (ps.zip us)):Binds K fd ps []:=by
 obtain ⟨oc,od,kV,doc,pm,an,cdv,ct,osl,rfl,lk,hcd⟩:=F.ex
 exact .all (h kV doc pm an cdv ct)
theorem yaz {x qual:Str}{st:Stmt}{f:Addr}{oc:Value}{od an:Option Addr}{osl:Array (Option Value)}{kV doc pm cdv ct:Value}(l:K.lookup f=some ⟨oc,od,.func (PySem.W.fnOf x qual (yap st) (yao st) (yac st) .none kV doc pm an cdv ct),osl⟩)
 (c:PySem.W.codeIn K cdv qual=true) (k:PySem.W.keepIn K (.ref f)=true):Fun K x qual st f (PySem.W.fnOf x qual (yap st) (yao st) (yac st) .none kV doc pm an cdv ct):=⟨⟨oc,od,kV,doc,pm,an,cdv,ct,osl,rfl,l,c⟩,k⟩
end
theorem yz7 {A:Around}{k:Nat}(hr:Room k A):A.units+1<cLine:=Nat.lt_of_le_of_lt (Nat.add_le_add_left (by decide:1≤64) _) hr.units
theorem yau {n:Nat}(h:n≤1000):n<sizeLine:=Nat.lt_of_le_of_lt h (by decide)
section
variable {X:Cx}
theorem pv (i:Nat) {x:Str}{pos:Pos} (hN:X.N[i]? = some x:=by rfl) (hv:Vis X.env.scope x:=by first|exact Or.inl rfl|exact Or.inr (Or.inl rfl)|exact Or.inr (Or.inr rfl)) (hd:(x == ("__debug__" : Str))=false:=by decide)
 (hcd:(x == ("__classdict__" : Str))=false:=by decide):PE X (.Name x pos) (ycc i):=yzu hN hv hd hcd
end
theorem yct {A B:Prop}(h:B):if false=true then A else B:=by
 rw[if_neg Bool.false_ne_true]
 exact h
theorem ycl {A B:Prop}(h:A):if true=true then A else B:=by
 rw[if_pos rfl]
 exact h
theorem ys9 {c A B:Prop}[Decidable c](h1:c→A)(h2:¬ c→B):if c then A else B:=by
 by_cases h:c
 ·rw[if_pos h]
  exact h1 h
 ·rw[if_neg h]
  exact h2 h
def Same (H H':Hp):Prop:=∀b o,H b=some o→H' b=some o
theorem Same.refl (H:Hp):Same H H:=fun _ _ h=>h
theorem Same.trans {H H1 H2:Hp}(a:Same H H1)(b:Same H1 H2):Same H H2:=fun c o h=>b c o (a c o h)
theorem Same.free {H H':Hp}(e:Same H H'){l:Addr}(h:H' l=Option.none):H l=Option.none:=by
 cases q:H l with
 |none=>rfl
 |some o=>
  rw[e l o q] at h
  cases h
end L2
set_option maxHeartbeats 4000000
namespace L2
open PySem PySem.Spec PyProof.Rows
theorem yvo {P:Program}{w:World}{H:Hp}{h:Heap}{a:Addr}{o:HO}(x:ObjOk P w H h a o):∃ob,h.get? a=some ob:=by
 induction o with
 |lst xs=>obtain ⟨_,_,_,_,e⟩:=x;exact⟨_,e⟩
 |tup xs=>obtain ⟨_,_,_,ob,e,_⟩:=x;exact⟨_,e⟩
 |dK kvs=>obtain ⟨_,_,_,_,o,_,_,e,_⟩:=x;exact⟨_,e⟩
 |dT kvs=>obtain ⟨_,_,_,_,o,_,_,e,_⟩:=x;exact⟨_,e⟩
 |set S n=>obtain ⟨o,_,_,_,e,_⟩:=x;exact⟨_,e⟩
 |ins C dx fs=>obtain ⟨_,_,_,e,_⟩:=x;exact⟨_,e⟩
 |own y=>obtain ⟨_,e⟩:=x;exact⟨_,e⟩
 |xd fs=>obtain ⟨_,⟨_,_,_,e,_⟩,_⟩:=x;exact⟨_,e⟩
 |rng lo hi=>obtain ⟨_,_,_,e⟩:=x;exact⟨_,e⟩
 |frz ob u _=>obtain ⟨e,_⟩:=x;exact⟨_,e⟩
 |tbl ps=>exact⟨_,(show h.get? a=some _ from x)⟩
 |met f y=>exact⟨_,(show h.get? a=some _ from x)⟩
 |ext φ=>obtain ⟨_,e,_⟩:=x;exact e
 |cod q pos=>rcases x with e|⟨_,e,_⟩ <;> exact⟨_,e⟩
structure UnB (fs:List Addr) (H H':Hp) (h B h':Heap):Prop where
 keep:∀b o,h.get? b=some o→H b=none→b ∉ fs→B.get? b=some o
 slot:∀b o,h.get? b=some o→H b=none→b∈fs→∃sl,h'.get? b=some { o with slots:=sl }
 free:∀b o,h.get? b=some o→H b=none→H' b=none
 there:∀b o,h.get? b=some o→b∈fs∨∃o',B.get? b=some o'
 tups:∀b xs,H b=some (.tup xs)→H' b=some (.tup xs)
 frzs:∀b o u,H b=some (.frz o u)→H' b=some (.frz o u)
 tbls:∀b ps,H b=some (.tbl ps)→∃more,H' b=some (.tbl (ps++more))
def CXE (P:Program)(w:World):CXT:=fun outer H s E e s'=>∃(a:Addr) (cls a0:Value) (H':Hp) (B:Heap),e = .ref a∧s'.os=s.os∧AllBare s'.gens∧E cls none H'∧HOk P w H' B∧H' a=none∧s.heap.get? a=none∧
 Heap.FlyingW B outer a cls a0 s'.heap∧UnB (frs outer) H H' s.heap B s'.heap
theorem UnB.un {fs:List Addr}{H H':Hp}{h B h' h'':Heap}(u:UnB fs H H' h B h')(hB:B.StaysIn h'')(hs:h'.UpToSlots h'')(hf:∀b∈fs,∃o,h'.get? b=some o∧∀vs,o.data≠.fields vs):Un fs [] H H' h h'' where
 keep:=fun b o e n hb _=>hB b o (u.keep b o e n hb)
 slot:=fun b o e n hb _=>by
  obtain ⟨sl,e1⟩:=u.slot b o e n hb
  obtain ⟨o1,e2,nf⟩:=hf b hb
  rw[e1] at e2;cases e2
  obtain ⟨sl',e3⟩:=hs b _ e1 nf
  exact⟨sl',e3⟩
 free:=fun b o e n _=>u.free b o e n
 there:=fun b o e _=>by
  rcases u.there b o e with hb|⟨o',e'⟩
  ·obtain ⟨o1,e2,nf⟩:=hf b hb
   obtain ⟨sl',e3⟩:=hs b _ e2 nf
   exact⟨_,e3⟩
  ·exact⟨o',hB b o' e'⟩
 tups:=u.tups
 frzs:=u.frzs
 tbls:=u.tbls
section
variable {X:Cx}{pins:List (Addr×Obj)}{σ:St}{H:Hp}{s s':Shared}{E:XK}
theorem ynk {CX:CXT}{P:Program}{w:World}{K:PySem.W.Frag}{mg:Str→Option Value}{base:Heap}{N:List Str}{qual:Str}{scope:Scope}{f:Addr}{cd:Value}{A:Around}{outer:List Env}{s₀:Shared}{H₀:Hp}
 {pins:List (Addr×Obj)}{σ:St}{H:Hp}{s:Shared}{h':Heap}{e:Addr}{cls:Value}{args:List Value}
 (I:Inv (ysk (CXE P w) P w K mg base N qual scope f cd A outer s₀ H₀ E) pins σ H s) (hx:Heap.MadeExcOf s.heap h' e cls args) (hE:E cls none H) :
 (ysk (CXE P w) P w K mg base N qual scope f cd A outer s₀ H₀ E).xe (.ref e) { s with heap:=h' }:=by
 have hst:=I.stack
 have hlt:=I.lt
 have hnoex:∀b:Addr,b ∉ ([]:List Addr):=fun b z=>nomatch z
 show wpAny (model P w) (A.deeper (envOfC qual scope s₀.heap.objs.size f cd)) (leaving (envOfC qual scope s₀.heap.objs.size f cd) (.ref e)) (fun _ s''=>CXE P w outer H₀ s₀ E (.ref e) s'') (fun e' s''=>CXE P w outer H₀ s₀ E e' s'') { s with heap:=h' }
 refine wpAny_leaves_madeW (base:=PySem.W.hideAll s.heap (frs (envOfC qual scope s₀.heap.objs.size f cd::outer))) (h:=s.heap) (L:=s₀.heap.objs.size) I.ok.frames rfl (fun b o q=>PySem.W.of_hideAll _ q)
  (PySem.W.funFrames_hide hst fun env he b hb=>List.mem_filterMap.mpr ⟨env,he,hb⟩) hx fun h'' t fly _ _ upto=>?_
 have hsub:∀b,b∈frs outer→b∈frs (envOfC qual scope s₀.heap.objs.size f cd::outer):=fun b hb=>by
  obtain ⟨env,he,hf⟩:=List.mem_filterMap.mp hb
  exact List.mem_filterMap.mpr ⟨env,.tail _ he,hf⟩
 have hnot:∀b o,s₀.heap.get? b=some o→b ∉ frs outer→b ∉ frs (envOfC qual scope s₀.heap.objs.size f cd::outer):=fun b o q nb hb=>by
  rcases List.mem_cons.mp (I.stkSub b hb) with z|z
  ·exact absurd (Heap.lt_size q) (by rw[z];exact Nat.lt_irrefl _)
  ·exact nb z
 have hfree:∀b∈frs (envOfC qual scope s₀.heap.objs.size f cd::outer),H b=none:=I.stkFree
 have nohid:∀b u,H b=some u→b ∉ frs (envOfC qual scope s₀.heap.objs.size f cd::outer):=fun b u q hb=>by rw[hfree b hb] at q;cases q
 refine⟨e,cls,.ref t,H,_,rfl,I.os,I.bare,hE,fun b u q=>?_,?_,?_,fly,?_⟩
 ·refine(I.hok b u q).stay (fun c v hc r=>PySem.W.hideAll_get _ r ?_) (fun _ r=>r) fun _ _ r=>r
  rcases hc with z|z
  ·rw[z];exact nohid b u q
  ·exact nohid c _ z
 ·cases q:H e with
  |none=>rfl
  |some u=>
   obtain ⟨ob,e1⟩:=yvo (I.hok e u q)
   rw[hx.new] at e1;cases e1
 ·cases q:s₀.heap.get? e with
  |none=>rfl
  |some o=>
   obtain ⟨o',e1⟩:=I.base.there e o q (hnoex e)
   rw[hx.new] at e1;cases e1
 ·refine⟨fun b o q n nb=>PySem.W.hideAll_get _ (I.base.keep b o q n nb (hnoex b)) (hnot b o q nb),fun b o q n hb=>?_,fun b o q n=>I.base.free b o q n (hnoex b),fun b o q=>?_,I.base.tups,I.base.frzs,I.base.tbls⟩
  ·obtain ⟨sl,e1⟩:=I.base.slot b o q n hb (hnoex b)
   obtain ⟨_,ob,e2,nf⟩:=hst.mem (hsub b hb)
   rw[e1] at e2;cases e2
   have e3:=hx.keeps b _ e1
   obtain ⟨sl',e4⟩:=upto b _ e3 nf
   exact⟨sl',e4⟩
  ·by_cases hb:b∈frs outer
   ·exact .inl hb
   ·obtain ⟨o',e1⟩:=I.base.there b o q (hnoex b)
    exact .inr ⟨o',PySem.W.hideAll_get _ e1 (hnot b o q hb)⟩
theorem yvp {B h'':Heap}{a:Addr}{cls a0:Value}{H':Hp}(I:Inv X pins σ H s)(hos:s'.os=s.os)(hb:AllBare s'.gens)(hok:HOk X.prog X.w H' B)(fly:Heap.FlyingW B X.stack a cls a0 s'.heap)(u:UnB (frs X.stack) H H' s.heap B s'.heap)
 (hB:B.StaysIn h'') (hs:s'.heap.UpToSlots h''):Inv X pins σ H' { s' with heap:=h'' }:=by
 have un:=u.un hB hs fun b hb=>let ⟨_,o,e,nf⟩:=fly.2.2.1.mem hb;⟨o,e,nf⟩
 exact I.call' (s':={ s' with heap:=h'' }) (ch:=[]) hos un (hok.kept hB) hb fun b z=>nomatch z
theorem yeg {P:Program}{w:World}{K:PySem.W.Frag}{mg:Str→Option Value}{base:Heap}{N:List Str}{qual:Str}{scope:Scope}{f:Addr}{cd:Value}{A:Around}{outer:List Env}{s₀:Shared}{H₀:Hp}{E E':XK}
 (hE:∀cls H,E' cls none H→E cls none H):yi1 (CXE P w) (ysk (CXE P w) P w K mg base N qual scope f cd A outer s₀ H₀ E) E':=by
 intro pins σ H s e s' I h
 obtain ⟨a,cls,a0,H',B,rfl,hos,hb,hE',hok,hna,hfr,fly,u⟩:=h
 have hnoex:∀b:Addr,b ∉ ([]:List Addr):=fun b z=>nomatch z
 have hsub:∀b,b∈frs outer→b∈frs (envOfC qual scope s₀.heap.objs.size f cd::outer):=fun b hb=>by
  obtain ⟨env,he,hf⟩:=List.mem_filterMap.mp hb
  exact List.mem_filterMap.mpr ⟨env,.tail _ he,hf⟩
 have hnot:∀b o,s₀.heap.get? b=some o→b ∉ frs outer→b ∉ frs (envOfC qual scope s₀.heap.objs.size f cd::outer):=fun b o q nb hb=>by
  rcases List.mem_cons.mp (I.stkSub b hb) with z|z
  ·exact absurd (Heap.lt_size q) (by rw[z];exact Nat.lt_irrefl _)
  ·exact nb z
 show wpAny (model P w) (A.deeper (envOfC qual scope s₀.heap.objs.size f cd)) (leaving (envOfC qual scope s₀.heap.objs.size f cd) (.ref a)) (fun _ s''=>CXE P w outer H₀ s₀ E (.ref a) s'') (fun e' s''=>CXE P w outer H₀ s₀ E e' s'') s'
 refine wpAny_leaves_onW (L:=s₀.heap.objs.size) I.ok.frames rfl fly fun h'' fly' upto=>?_
 refine⟨a,cls,a0,H',B,rfl,hos.trans I.os,hb,hE cls H' hE',hok,hna,?_,fly',?_⟩
 ·cases q:s₀.heap.get? a with
  |none=>rfl
  |some o=>
   obtain ⟨o',e1⟩:=I.base.there a o q (hnoex a)
   rw[hfr] at e1;cases e1
 ·refine⟨fun b o q n nb=>u.keep b o (I.base.keep b o q n nb (hnoex b)) (I.base.free b o q n (hnoex b)) (hnot b o q nb),fun b o q n hb=>?_,fun b o q n=>?_,fun b o q=>?_,fun b xs q=>u.tups b xs (I.base.tups b xs q),fun b o x q=>u.frzs b o x (I.base.frzs b o x q),fun b ps q=>?_⟩
  ·obtain ⟨sl,e1⟩:=I.base.slot b o q n hb (hnoex b)
   obtain ⟨sl',e2⟩:=u.slot b _ e1 (I.base.free b o q n (hnoex b)) (hsub b hb)
   obtain ⟨_,ob,e3,nf⟩:=fly.2.2.1.mem (hsub b hb)
   rw[e2] at e3;cases e3
   obtain ⟨sl'',e4⟩:=upto b _ e2 nf
   exact⟨sl'',e4⟩
  ·obtain ⟨o',e1⟩:=I.base.there b o q (hnoex b)
   exact u.free b o' e1 (I.base.free b o q n (hnoex b))
  ·by_cases hb:b∈frs outer
   ·exact .inl hb
   ·obtain ⟨o',e1⟩:=I.base.there b o q (hnoex b)
    rcases u.there b o' e1 with z|z
    ·exact absurd z (hnot b o q hb)
    ·exact .inr z
  ·obtain ⟨m1,e1⟩:=I.base.tbls b ps q
   obtain ⟨m2,e2⟩:=u.tbls b _ e1
   exact⟨m1++m2,by rw[e2,Array.append_assoc]⟩
end
end L2
namespace L2
open PySem PySem.Spec PyProof.Rows PySem.Builtin.ObjectAttr PySem.Builtin.Getset_descriptor
structure XCls (K:PySem.W.Frag) (D:Addr):Prop where
 ga:PySem.W.findIn K (.ref D) "__getattribute__" = some (some (.builtin "BaseException.__getattribute__"))
 gt:PySem.W.findIn K (.ref D) "__getattr__" = some none
 cl:PySem.W.findIn K (.ref D) "__class__" = some (some (.builtin "object.__class__"))
 gg:PySem.W.specialIn K (.builtin "object.__class__") "__get__" = some (some (.builtin "getset_descriptor.__get__"))
 tk:PySem.W.takesIn K (.builtin "object.__class__")=some true
 mo:PySem.W.mroIn K D (.type "object")=some true
 sb:PySem.W.subIn K (.ref D) (.type "BaseException")=some true
 is:(PySem.W.clsIn K D).isSome=true
def IsX (a:Addr)(cls:Value):Heap→Prop:=fun h=>∃o vs,h.get? a=some o∧o.cls=cls∧o.data = .fields vs
section
variable {prog:Program}{w:World}{A:Around}{E:Value→Shared→Prop}{K:PySem.W.Frag}{x D:Addr}{s:Shared}
theorem yvq {M:Model}{h:Heap}{cls:Value}(I:IsX x cls h):PySem.W.Looks M h (typeOf (.ref x)) cls:=by
 obtain ⟨o,vs,h1,h2,_⟩:=I
 exact h2 ▸ (PySem.W.Looks.ld h1).andThen .now
theorem yz8 {R:Result→Shared→Prop}(X:K.In s.heap)(C:XCls K D)(I:IsX x (.ref D) s.heap)(hR:R (.ok (.ret (.ref D))) s) :
 codeAny (model prog w) A (.call (.builtin "getset_descriptor.__get__") ⟨[.builtin "object.__class__",.ref x,.ref D],[]⟩) R s:=by
 obtain ⟨hp,gs,dr,tt,os⟩:=s
 have T0:=yvq (M:=model prog w) I
 have T1:=PySem.W.looks_mroIn (M:=model prog w) X C.mo
 refine codeAny_call_builtin PySem.W.KF.slot_gs.plain PySem.W.KF.entry_gs (PySem.W.KF.slot_gs.check _ _ _ _ _ _ _ _ PySem.W.KF.type_class (PySem.W.KF.args_gs _ _ _) ?_)
 (unfold Builtin.«getset_descriptor.__get__»;unfold descrGet)
 rw[PySem.W.dga_obj];refine zwb0 (zwp0 ?_)
 (unfold descrGetter descrCheckInstance;unfold descrNameAndClass isInstance)
 simp only[PySem.W.KF.owner_class]
 repeat lk
 refine⟨Code.quiet_builtin _ (by decide +kernel),codeAny_builtin PySem.W.KF.entry_class ?_⟩
 (unfold Builtin.«object.__class__»;unfold shownTypeOf)
 repeat lk
 exact hR
theorem yye {M:Model}{h:Heap} (X:K.In h) (C:XCls K D):PySem.W.Looks M h (find (.ref x) (.ref D) "__class__") (.bind (.builtin "getset_descriptor.__get__") (.builtin "object.__class__")):=by
 intro A' Q' E' s' kk qq
 obtain ⟨hp,gs,dr,tt,os⟩:=s'
 have T1:=(PySem.W.looks_findIn (M:=M) X C.cl).keeps kk
 have T2:=(PySem.W.looks_specialIn (M:=M) X C.gg).keeps kk
 have T3:=(PySem.W.looks_takesIn (M:=M) X C.tk).keeps kk
 unfold find
 refine zwb0 (T1.at ?_)
 unfold getOf dataDescriptor?
 refine zwb0 (T2.at ?_)
 dsimp only
 refine zwb0 (zwb0 (T3.at ?_))
 rw[if_pos rfl]
 exact zwp0 (zwb0 (wpAny_rule (zwp0 qq)))
theorem yyf {Q:Option Value→Shared→Prop}(X:K.In s.heap)(C:XCls K D)(I:IsX x (.ref D) s.heap)
 (h:Q (some (.ref D)) { s with toks:=s.toks+1 }):wpAny (model prog w) A (getAttr? (.ref x) "__class__") Q E s:=by
 obtain ⟨hh,g,d,t,os⟩:=s
 have T0:=yvq (M:=model prog w) I
 have T1:=PySem.W.looks_findIn (M:=model prog w) X C.ga
 have T2:=PySem.W.looks_findIn (M:=model prog w) X C.gt
 have TI:PySem.W.Looks (model prog w) hh (isInstance (.ref x) (.type "BaseException")) true:=T0.andThen (PySem.W.looks_subIn X C.sb)
 have TF:=yye (x:=x) (M:=model prog w) X C
 have hkd:builtinKind "BaseException.__getattribute__" = some .slot:=by decide +kernel
 have hsp:splitId "BaseException.__getattribute__" = some ("BaseException","__getattribute__"):=by decide +kernel
 (unfold getAttr?;unfold getAttrBy? getAttrBy)
 refine zwb0 (wpAny_mkText (zwb0 (wpAny_attempt (wpAny_holding (zwb0 (T0.at (zwb0 (T1.at ?_))))))))
 show wpAny _ _ (getAttrByItsOwn (.ref x) _ (.ref D) (.builtin "BaseException.__getattribute__") false false) _ _ _
 unfold getAttrByItsOwn hookBefore
 refine zwb0 ?_
 show wpAny _ _ (typeLookup (.ref D) (Str.ofString "__getattr__")) _ _ _
 refine T2.at ?_
 refine zwb0 (wpAny_attempt (wpAny_holding ?_))
 show wpAny _ _ (boundAndCalled (.builtin "BaseException.__getattribute__") (.ref x) _) _ _ _
 unfold boundAndCalled
 refine zwb0 (wpAny_of_eq (F.attr_ValueError.ga.bind (.ref x)) ?_)
 have har:=F.args_bexc_ga (.ref x) (Value.str "__class__" t)
 refine wpAny_call (codeAny_call_builtin F.attr_ValueError.ga.plain F.entry_bexc_ga ?_)
 simp only[checkBuiltinCall,hkd,hsp]
 refine zwb0 (TI.at ?_)
 simp only[Bool.not_true,Bool.false_eq_true,if_false,if_true]
 refine wpAny_of_eq har ?_
 show wpAny _ _ (Builtin.«object.__getattribute__» ⟨[.ref x,.str "__class__" t],[]⟩) _ _ _
 unfold Builtin.«object.__getattribute__»
 refine zwb0 (zwp0 ?_)
 refine zwb0 (zwp0 ?_)
 refine zwb0 (T0.at ?_)
 refine zwb0 (TF.at ?_)
 show wpAny _ _ (holding [.builtin "object.__class__"] (call (.builtin "getset_descriptor.__get__") [.builtin "object.__class__",.ref x,.ref D]) >>= ret) _ _ _
 refine zwb0 (wpAny_holding (wpAny_call (yz8 X C I ?_)))
 exact zwp0 (PySem.W.handed_on rfl (zwp0 h))
theorem yvr (C:XCls K D):PySem.W.KitX K (.ref x) (.ref D) (IsX x (.ref D)) where
 ty:=fun _ _ _ I=>yvq I
 it:=fun M h X _=>by
  obtain ⟨cd,hc⟩:=Option.isSome_iff_exists.mp C.is
  unfold PySem.W.clsIn at hc
  split at hc
  ·rename_i ho
   intro A' Q' E' s' kk qq
   unfold isType loadHead
   exact zwb0 (wpAny_loadPart (kk _ _ (X _ _ ho)) (zwp0 qq))
  ·cases hc
 ne:=fun h tp dd its n sl X ht=>by
  obtain ⟨cd,hc⟩:=Option.isSome_iff_exists.mp C.is
  refine Bool.eq_false_iff.mpr fun z=>?_
  have e0:D=tp:=Value.ref.inj (beq_iff_eq.mp z)
  subst e0
  unfold PySem.W.clsIn at hc
  split at hc
  ·rename_i ho
   have z2:=(X _ _ ho).symm.trans ht
   cases z2
  ·cases hc
 ca:=fun X I k=>yyf X C I k
theorem yz9 {c:Value}{b:Bool}{Q:Value→Shared→Prop}(X:K.In s.heap)(C:XCls K D)(I:IsX x (.ref D) s.heap)(e:PySem.W.kitOne K (.ref D) c=some b)(h:∀tk,Q (.bool b) { s with toks:=tk }) :
 wpAny (model prog w) A (call (.builtin "isinstance") [.ref x,c]) Q E s:=PySem.W.kia_one (yvr C) X I e (fun z=>nomatch z) h
end
end L2
namespace L2
open PySem PySem.Spec PyProof.Rows
theorem yyg {K:PySem.W.Frag}{h:Heap}{C:Addr}{bmB:List Value}{newId:String}(X:K.In h)(q:PySem.W.excIn K C bmB newId=true) :
 ∃bm N nm qn bs hd sn sub ab col dd k0 k1 k2 k3 k5 mN,h.get? C=some (excClassObj nm qn C N bs bm hd sn sub ab col dd k0 k1 k2 k3 k5 newId)∧h.Ns N mN∧mN "__init__" = none∧OwnTail h bmB bm:=by
 unfold PySem.W.excIn at q
 split at q
 ·rename_i dd cd sl look
  split at q
  ·rename_i C2 bm k0 k1 k2 k3 n k5 hmro hsl
   simp only[Bool.and_eq_true,beq_iff_eq,Bool.not_eq_true'] at q
   obtain ⟨⟨⟨⟨⟨rfl,rfl⟩,hde⟩,htl⟩,hns⟩,hin⟩:=q
   obtain ⟨nm,bs,mro,ns,qn,hd,sn,sub,ab,col,del⟩:=cd
   dsimp only at hmro hde hns hin
   subst hmro hde
   have es:sl = #[k0,k1,k2,k3,some (.builtin n),k5]:=by
    obtain ⟨ls⟩:=sl
    have e1:ls=[k0,k1,k2,k3,some (.builtin n),k5]:=hsl
    rw[e1]
   subst es
   exact⟨bm,ns,nm,qn,bs,hd,sn,sub,ab,col,dd,k0,k1,k2,k3,k5,_,X _ _ look,.of_isNs (PySem.W.isNs_of_in X hns),PySem.W.nsMap_none_of_in X hns hin,PySem.W.tail_of_in X htl⟩
  ·cases q
 ·cases q
section
variable {X:Cx}
def zaa (C:Addr)(E:XK)(t:TA):TS:=fun D σ H=>t σ H fun vs H1=>vs.length≤sizeLine∧E (.ref C) none H1
def zab (X:Cx)(E:XK):Prop:=∀(pins:List (Addr×Obj)) (σ:St) (H:Hp) (s:Shared) (h':Heap) (e:Addr) (cls:Value) (args:List Value),Inv X pins σ H s→Heap.MadeExcOf s.heap h' e cls args→E cls none H→X.xe (.ref e) { s with heap:=h' }
theorem yg9 {P:Program}{w:World}{K:PySem.W.Frag}{mg:Str→Option Value}{base:Heap}{N:List Str}{qual:Str}{scope:Scope}{f:Addr}{cd:Value}{A:Around}{outer:List Env}{s₀:Shared}{H₀:Hp}{E:XK} :
 zab (ysk (CXE P w) P w K mg base N qual scope f cd A outer s₀ H₀ E) E:=fun _ _ _ _ _ _ _ _ I hx hE=>ynk (CX:=CXE P w) I hx hE
theorem yei {x:Str}{C:Addr}{B newId initId:String}{bmB:List Value}{e₀:Expr}{rest:List Expr}{np cpos pos:Pos}{t:TA}{E:XK}(hg:Gl X x)(hm:X.mg x=some (.ref C))(hq:PySem.W.excIn X.K C bmB newId=true)
 (FB:ExcBaseFacts B newId initId bmB) (hcalm:X.calm=true) (hxe:zab X E) (ha:PA X (e₀::rest) t) (hd:(x == ("__debug__" : Str))=false:=by decide)
 (he:starEach (e₀::rest) X.env=(false,eval e₀ X.env)::starEach rest X.env:=by rfl) (hpl:(backTo cpos (starEach rest X.env)).any (·.1)=false:=by rfl) :
 PS X (.Raise (some (.Call (.Name x np) (e₀::rest) [] cpos)) none pos) (zaa C E t):=by
 intro pins s σ H D I h
 obtain ⟨bm,N,nm,qn,bs,hdd,sn,sub,ab,col,dd,k0,k1,k2,k3,k5,mN,hC,hN,hni,T⟩:=yyg (bmB:=bmB) I.mod.kin hq
 refine wpAny_Raise_call_subT (C:=C) (N:=N) (bm:=bm) (nm:=nm) (q:=qn) (bs:=bs) (hdct:=hdd) (sn:=sn) (sub:=sub) (ab:=ab) (col:=col) (dd:=dd) (k0:=k0) (k1:=k1) (k2:=k2) (k3:=k3) (k5:=k5) FB (mN:=mN) (T.hasType FB.hasBase) (I.ok.hd hcalm)
  (by rw[he];show (false || (backTo cpos (starEach rest X.env)).any (·.1))=false;rw[hpl];rfl) hni (ylo I hg hm ⟨rfl,?_⟩ hd)
 have h1:=ha cpos pins s σ H _ I h
 rw[he] at h1 ⊢
 refine Calls.evalArgs_plain (thn h1 fun us s1 ⟨vs,H1,I1,r1,q1⟩=>?_)
 exact⟨rfl,(by rw[← r1.length];exact q1.1),I1.bk _ _ hC,hN.keeps I1.bk,T.keeps I1.bk,fun h' e hx=>hxe pins σ H1 s1 h' e _ _ I1 hx q1.2⟩
theorem Inv.track {pins:List (Addr×Obj)}{σ:St}{H:Hp}{s:Shared}{a:Addr}{o:HO}(I:Inv X pins σ H s)(hs:X.s₀.heap.get? a=none)(hn:H a=none)(hL:a≠X.env.locals)(hc:∀x c,X.env.cells.lookup x=some c→c≠a)
 (hp:∀p∈X.pn++pins,p.1≠a) (new:ObjOk X.prog X.w (upd H a o) s.heap a o):Inv X pins σ (upd H a o) s:=by
 have ne:∀b ob,X.s₀.heap.get? b=some ob→b≠a:=fun b ob e z=>by rw[z,hs] at e;cases e
 have nt:∀b u,H b=some u→b≠a:=fun b u e z=>by rw[z,hn] at e;cases e
 refine⟨I.ok,I.os,I.bare,⟨I.base.keep,I.base.slot,fun b ob e n hx=>by rw[yal (ne b ob e)];exact I.base.free b ob e n hx,I.base.there,fun b xs e=>?_,fun b ob xs e=>?_,fun b ps e=>?_⟩,I.loc,I.cell,by rw[yal hL.symm];exact I.free,fun x c e=>by rw[yal (hc x c e)];exact I.freeC x c e,fun p hp'=>?_,fun b u e=>?_,I.len⟩
 ·have e1:=I.base.tups b xs e
  rw[yal (nt b _ e1)];exact e1
 ·have e1:=I.base.frzs b ob xs e
  rw[yal (nt b _ e1)];exact e1
 ·obtain ⟨more,e1⟩:=I.base.tbls b ps e
  exact⟨more,by rw[yal (nt b _ e1)];exact e1⟩
 ·obtain ⟨e,n,r⟩:=I.pin p hp'
  exact⟨e,by rw[yal (hp p hp')];exact n,r⟩
 ·by_cases z:b=a
  ·subst z
   rw[yaa] at e
   cases e
   exact new
  ·rw[yal z] at e
   exact(I.hok b u e).stay (fun _ _ _ q=>q) (fun c q=>by rw[yal (nt c _ q)];exact q) fun c xs q=>by rw[yal (nt c _ q)];exact q
abbrev Cx.tryCx (X:Cx)(pn:List (Addr×Obj))(xe:Value→Shared→Prop):Cx:={ X with pn:=pn,xe:=xe }
abbrev Cx.suite (X:Cx)(e:Addr):Cx:={ X with A:=X.A.mark (some (.ref e)),calm:=false,xe:=fun _ _=>False }
theorem Cx.Ok.tryCx {pn:List (Addr×Obj)}{xe:Value→Shared→Prop}(ok:X.Ok):(X.tryCx pn xe).Ok:=
 ⟨ok.mod,ok.kind,ok.glob,ok.blt,ok.above,ok.inj,ok.has,ok.cab,ok.hd,ok.frames,ok.stk,ok.exf,ok.bs,ok.bsz,ok.noex,ok.exfs,ok.funs,ok.frf⟩
theorem Cx.Ok.suite {e:Addr}(ok:X.Ok):(X.suite e).Ok:=
 ⟨ok.mod,ok.kind,ok.glob,ok.blt,ok.above,ok.inj,ok.has,ok.cab,(fun z=>nomatch z),ok.frames,ok.stk,ok.exf,ok.bs,ok.bsz,ok.noex,ok.exfs,ok.funs,ok.frf⟩
theorem Inv.toTry {pins:List (Addr×Obj)}{σ:St}{H:Hp}{s:Shared}{xe:Value→Shared→Prop}(I:Inv X pins σ H s):Inv (X.tryCx (X.pn++pins) xe) [] σ H s:=
 ⟨I.ok.tryCx,I.os,I.bare,I.base,I.loc,I.cell,I.free,I.freeC,fun p hp=>I.pin p (by rw[List.append_nil] at hp;exact hp),I.hok,I.len⟩
theorem Inv.ofTry {pins:List (Addr×Obj)}{σ:St}{H:Hp}{s:Shared}{xe:Value→Shared→Prop}(ok:X.Ok)(I:Inv (X.tryCx (X.pn++pins) xe) [] σ H s):Inv X pins σ H s:=
 ⟨ok,I.os,I.bare,I.base,I.loc,I.cell,I.free,I.freeC,fun p hp=>I.pin p (by rw[List.append_nil];exact hp),I.hok,I.len⟩
theorem Inv.ofTry' {pins q:List (Addr×Obj)}{σ:St}{H:Hp}{s:Shared}{xe:Value→Shared→Prop}(ok:X.Ok)(I:Inv (X.tryCx (X.pn++pins) xe) q σ H s):Inv X pins σ H s:=
 ⟨ok,I.os,I.bare,I.base,I.loc,I.cell,I.free,I.freeC,fun p hp=>I.pin p (List.mem_append_left _ hp),I.hok,I.len⟩
theorem Inv.toSuite {pins:List (Addr×Obj)}{σ:St}{H:Hp}{s:Shared}{e:Addr}(I:Inv X pins σ H s):Inv (X.suite e) pins σ H s:=
 ⟨I.ok.suite,I.os,I.bare,I.base,I.loc,I.cell,I.free,I.freeC,I.pin,I.hok,I.len⟩
theorem Inv.ofSuite {pins:List (Addr×Obj)}{σ:St}{H:Hp}{s:Shared}{e:Addr}(ok:X.Ok)(I:Inv (X.suite e) pins σ H s):Inv X pins σ H s:=
 ⟨ok,I.os,I.bare,I.base,I.loc,I.cell,I.free,I.freeC,I.pin,I.hok,I.len⟩
theorem SP.ofTry {pins:List (Addr×Obj)}{D:Ends}{f:Flow}{s:Shared}{xe:Value→Shared→Prop}(ok:X.Ok)(h:SP (X.tryCx (X.pn++pins) xe) [] D f s):SP X pins D f s:=by
 cases f with
 |next=>obtain ⟨σ',H',I,q⟩:=h;exact⟨σ',H',I.ofTry ok,q⟩
 |brk=>obtain ⟨σ',H',I,q⟩:=h;exact⟨σ',H',I.ofTry ok,q⟩
 |cont=>obtain ⟨σ',H',I,q⟩:=h;exact⟨σ',H',I.ofTry ok,q⟩
 |ret u=>obtain ⟨v,σ',H',I,r,q⟩:=h;exact⟨v,σ',H',I.ofTry ok,r,q⟩
theorem Inv.nameGoes {pins:List (Addr×Obj)}{σ:St}{H:Hp}{s:Shared}{i:Nat}{n:Str}{pos:Pos}{M:Model}{A:Around}{E:Value→Shared→Prop}{Q:Unit→Shared→Prop}(I:Inv X pins σ H s)(hN:X.N.Nodup)(hi:X.N[i]? = some n)(hl:X.env.kindOf n=some .local)
 (h:∀s',Inv X pins (σ.set i none) H s'→Q () s'):wpAny M A (do bindName X.env n .none;unbindBehindTheSuite X.env n pos) Q E s:=by
 obtain ⟨m,hn,hloc⟩:=id I.loc
 have hcls:(X.env.scope.kind == .class || (X.env.scope.kind == .module&&X.env.locals != X.env.globals))=false:=by rw[I.ok.kind];rfl
 have hiσ:i<σ.length:=by rw[I.len];exact(List.getElem?_eq_some_iff.mp hi).1
 refine wpAny_nameGoes_keeps hl hn hcls fun h' v hn' hs=>?_
 have neL:∀b ob,X.s₀.heap.get? b=some ob→b≠X.env.locals:=fun b ob e=>Nat.ne_of_lt (Nat.lt_of_lt_of_le (Heap.lt_size e) I.ok.above)
 refine h _ ⟨I.ok,I.os,I.bare,⟨fun b o e nn hb hx=>?_,fun b o e nn hb hx=>?_,I.base.free,fun b o e hx=>?_,I.base.tups,I.base.frzs,I.base.tbls⟩,⟨_,hn',fun j y w' e1 e2 e3=>?_⟩,fun y c e=>?_,I.free,I.freeC,fun p hp=>?_,fun b u e=>?_,by simpa using I.len⟩
 ·exact(hs.2 b (neL b o e)).trans (I.base.keep b o e nn hb hx)
 ·obtain ⟨sl,e1⟩:=I.base.slot b o e nn hb hx
  exact⟨sl,(hs.2 b (neL b o e)).trans e1⟩
 ·obtain ⟨o',e1⟩:=I.base.there b o e hx
  exact⟨o',(hs.2 b (neL b o e)).trans e1⟩
 ·by_cases hj:j=i
  ·subst hj
   rw[List.getElem?_set_self hiσ] at e2
   cases e2
  ·rw[List.getElem?_set_ne (Ne.symm hj)] at e2
   obtain ⟨u,r,l⟩:=hloc j y w' e1 e2 e3
   refine⟨u,r,?_⟩
   rcases l with ⟨k,e⟩ | ⟨k,c,e,z⟩
   ·refine .inl ⟨k,?_⟩
    have:y≠n:=fun z=>hj (yln hN e1 (z ▸ hi))
    simp [this,e]
   ·exact .inr ⟨k,c,e,z.sameBut hs (I.cne y c e)⟩
 ·obtain ⟨w',z⟩:=I.cell y c e
  exact⟨w',z.sameBut hs (I.cne y c e)⟩
 ·obtain ⟨e,nn,ne,nf,d⟩:=I.pin p hp
  exact⟨(hs.2 p.1 ne).trans e,nn,ne,nf,d⟩
 ·refine(I.hok b u e).stay (fun c w' hc q=>(hs.2 c ?_).trans q) (fun _ q=>q) fun _ _ q=>q
  rintro rfl
  have hf:=I.free
  rcases hc with z|z
  ·rw[z,e] at hf;cases hf
  ·rw[z] at hf;cases hf
end
def yhp (env:Env):List (Str×NameKind)→List (Str×Addr)→List (Str×Addr)
 |[],cs=>cs
 |(n,k)::r,cs=>yhp env r (if k == .free then (n,(env.cells.lookup n).getD 0)::cs else cs)
theorem yha {scope:Scope}{env:Env}(h:∀y∈scope.names,y.2 = .free→∃c,env.cells.lookup y.1=some c):closureFor scope env=pure (yhp env scope.names []):=by
 have all:∀(l:List (Str×NameKind)) (cs:List (Str×Addr)),(∀y∈l,y.2 = .free→∃c,env.cells.lookup y.1=some c)→
  (forIn l cs fun (x:Str×NameKind) r=>(if (x.2 == NameKind.free)=true then do let a ← cellOf env x.1;pure (ForInStep.yield ((x.1,a)::r)) else pure (ForInStep.yield r):Sem (ForInStep (List (Str×Addr)))))=pure (yhp env l cs):=by
  intro l
  induction l with
  |nil=>intro cs _;rfl
  |cons x r ih=>
   intro cs hl
   obtain ⟨n,k⟩:=x
   rw[List.forIn_cons]
   by_cases hk:(k == NameKind.free)=true
   ·obtain ⟨c,hc⟩:=hl (n,k) (.head _) (by simpa using hk)
    have e:cellOf env n=pure c:=by unfold cellOf;rw[show env.cells.lookup n=some c from hc]
    simp only[hk,if_true,e,pure_bind]
    rw[ih _ fun y hy=>hl y (.tail _ hy)]
    show _=pure (yhp env r (if k == .free then _ else _))
    rw[if_pos hk,show env.cells.lookup n=some c from hc]
    rfl
   ·simp only[hk,Bool.false_eq_true,if_false,pure_bind]
    rw[ih _ fun y hy=>hl y (.tail _ hy)]
    show _=pure (yhp env r (if k == .free then _ else _))
    rw[if_neg hk]
 unfold closureFor
 have:=all scope.names [] h
 simp only[bind_pure] at this ⊢
 exact this
theorem ylw {env:Env}:∀(l:List (Str×NameKind)) (cs:List (Str×Addr)) {p:Str×Addr},p∈yhp env l cs→p∈cs∨((p.1,NameKind.free)∈l∧p.2=(env.cells.lookup p.1).getD 0)
 |[],cs,p,h=>.inl h
 |(n,k)::r,cs,p,h=>by
  unfold yhp at h
  rcases ylw r _ h with z|⟨z1,z2⟩
  ·split at z
   ·rename_i hk
    have hk':k = .free:=by simpa using hk
    rcases List.mem_cons.mp z with rfl|z
    ·exact .inr ⟨by rw[hk'];exact .head _,rfl⟩
    ·exact .inl z
   ·exact .inl z
  ·exact .inr ⟨.tail _ z1,z2⟩
theorem yk0 {env:Env}:∀(l:List (Str×NameKind)) (cs:List (Str×Addr)) {p:Str×Addr},p∈cs→p∈yhp env l cs
 |[],cs,p,h=>h
 |(n,k)::r,cs,p,h=>by
  unfold yhp
  refine yk0 r _ ?_
  split
  ·exact .tail _ h
  ·exact h
theorem yhb {env:Env}:∀(l:List (Str×NameKind)) (cs:List (Str×Addr)) {x:Str},(x,NameKind.free)∈l→(x,(env.cells.lookup x).getD 0)∈yhp env l cs
 |(n,k)::r,cs,x,h=>by
  unfold yhp
  rcases List.mem_cons.mp h with e|h
  ·cases e
   refine yk0 r _ ?_
   rw[if_pos (by decide)]
   exact .head _
  ·exact yhb r _ h
theorem yde {α:Type}:∀{l:List (Str×α)}{x:Str}{v:α},(x,v)∈l→∃u,l.lookup x=some u
 |(n,k)::r,x,v,h=>by
  by_cases e:x=n
  ·exact⟨k,by rw[List.lookup_cons,e];simp⟩
  ·rcases List.mem_cons.mp h with z|z
   ·cases z;exact absurd rfl e
   ·obtain ⟨u,hu⟩:=yde z
    exact⟨u,by rw[List.lookup_cons];rw[show (x == n)=false from by simpa using e];exact hu⟩
def ya4 (X:Cx)(N':List Str)(scope:Scope)(C:Addr)(s:Shared)(H:Hp)(fp:List Addr):Cx where
 prog:=X.prog
 w:=X.w
 K:=X.K
 mg:=X.mg
 base:=X.base
 A:=X.A
 N:=N'
 s₀:=s
 H₀:=H
 env:=compEnvC scope (yhp X.env scope.names []) C X.env
 outer:=X.stack
 stack:=X.stack
 ex:=fp
 fn:=fun _=>false
 calm:=true
 pn:=[]
 xe:=fun _ _=>False
structure CompScope (X:Cx) (N':List Str) (ix:List (Option Nat)) (scope:Scope):Prop where
 kind:scope.kind = .function
 nocell:∀y∈scope.names,y.2≠.cell
 loc:∀y∈scope.names,y.2 = .local→scope.names.lookup y.1=some .local
 nd:N'.Nodup
 len:ix.length=N'.length
 free:∀y∈scope.names,y.2 = .free→X.env.kindOf y.1=some .cell
 out:∀(k j:Nat) (x:Str),N'[k]? = some x→ix[k]? = some (some j)→X.N[j]? = some x∧(x,NameKind.free)∈scope.names∧(relabel scope X.env).names.lookup x=some .cell
def yb1 (ix:List (Option Nat))(σ:St):St:=ix.map fun o=>o.bind fun j=>(σ[j]?).join
theorem yid {scope:Scope}{env:Env}{x:Str}{k:NameKind}(hc:∀y∈scope.names,y.2≠.cell)(h:(relabel scope env).names.lookup x=some k)(hk:k = .cell∨k = .free):(x,NameKind.free)∈scope.names:=by
 have m:=PySem.mem_of_lookup h
 unfold relabel at m
 obtain ⟨⟨n,k0⟩,h1,h2⟩:=List.mem_map.mp m
 dsimp only at h2
 split at h2
 ·rename_i q
  cases h2
  have:k0 = .free:=by
   simp only[Bool.and_eq_true,beq_iff_eq] at q
   exact q.1.1
  rw[this] at h1
  exact h1
 ·cases h2
  rcases hk with rfl|rfl
  ·exact absurd rfl (hc _ h1)
  ·exact h1
section
variable {X:Cx}{N':List Str}{ix:List (Option Nat)}{scope:Scope}
theorem ygh {pins:List (Addr×Obj)}{σ:St}{H:Hp}{s:Shared}(I:Inv X pins σ H s)(S:CompScope X N' ix scope){x:Str}{c:Addr}(h:(yhp X.env scope.names []).lookup x=some c):X.env.cells.lookup x=some c:=by
 rcases ylw _ _ (PySem.mem_of_lookup h) with z|⟨z1,z2⟩
 ·cases z
 ·obtain ⟨c',hc⟩:=I.ok.has x (.inl (S.free _ z1 rfl))
  dsimp only at z2
  rw[hc] at z2
  rw[hc,z2]
  rfl
theorem yir {pins:List (Addr×Obj)}{σ:St}{H:Hp}{s:Shared}{h':Heap}{tk:Nat}{fp:List Addr}(I:Inv X pins σ H s)(hcalm:X.calm=true)(S:CompScope X N' ix scope)(hf:∀b∈fp,ygv X pins H b)(hlt:∀b∈fp,b<s.heap.objs.size)
 (hns:h'.Ns s.heap.objs.size (fun _=>none)) (hk:∀b o,s.heap.get? b=some o→h'.get? b=some o):Inv (ya4 X N' scope s.heap.objs.size s H fp) [] (yb1 ix σ) H { s with heap:=h',toks:=tk }:=by
 have noL:H s.heap.objs.size=none:=I.hok.fresh (Nat.le_refl _)
 refine⟨⟨I.ok.mod,S.kind,I.ok.glob,I.ok.blt,Nat.le_refl _,fun x y c h1 h2=>I.ok.inj x y c (ygh I S h1) (ygh I S h2),fun x hx=>?_,(fun x c z=>nomatch z),fun _=>I.ok.hd hcalm,I.ok.frames,.inl rfl,fun b hb=>⟨Nat.ne_of_lt (hlt b hb),fun x c h=>?_⟩,I.bs,Nat.le_trans I.ok.bsz I.sz,fun b o q hb=>?_,fun b hb=>?_,I.stack,I.stkFree⟩,
  rfl,I.bare,Un.kept hk,⟨_,hns,fun k x v h1 h2 h3=>?_⟩,fun x c h=>?_,noL,fun x c h=>I.freeC x c (ygh I S h),(fun p hp=>absurd (show p∈([]:List (Addr×Obj)) from hp) (by simp)),I.hok.kept hk,?_⟩
 ·have hx':(relabel scope X.env).names.lookup x=some .cell∨(relabel scope X.env).names.lookup x=some .free:=hx
  have m:(x,NameKind.free)∈scope.names:=by
   rcases hx' with z|z
   ·exact yid S.nocell z (.inl rfl)
   ·exact yid S.nocell z (.inr rfl)
  exact yde (yhb (env:=X.env) scope.names [] m)
 ·exact(hf b hb).2.2.2.2.1 x c (ygh I S h)
 ·rcases (hf b hb).2.2.2.1 with z|z
  ·exact I.ok.noex b o q z
  ·exact absurd (Nat.lt_of_lt_of_le (Heap.lt_size (I.ok.bs b o q).1) z) (Nat.lt_irrefl _)
 ·intro z
  rcases List.mem_cons.mp (I.stkSub b z) with e|e
  ·exact(hf b hb).2.1 e
  ·exact(hf b hb).2.2.1 e
 ·have e2:(yb1 ix σ)[k]? = some (some v):=h2
  unfold yb1 at e2
  rw[List.getElem?_map] at e2
  cases e3:ix[k]? with
  |none=>rw[e3] at e2;cases e2
  |some o=>
   rw[e3] at e2
   cases o with
   |none=>cases e2
   |some j=>
    obtain ⟨n1,n2,n3⟩:=S.out k j x h1 e3
    have e4:σ[j]? = some (some v):=by
     have:(σ[j]?).join=some v:=Option.some.inj e2
     cases e5:σ[j]? with
     |none=>rw[e5] at this;cases this
     |some w=>rw[e5] at this;exact congrArg some this
    have kc:=S.free _ n2 rfl
    obtain ⟨m,hn,hl⟩:=I.loc
    obtain ⟨u,r,l⟩:=hl j x v n1 e4 (.inr (.inl kc))
    refine⟨u,r,?_⟩
    rcases l with ⟨z,_⟩ | ⟨_,c,hc,hcell⟩
    ·dsimp only at kc
     rw[kc] at z;cases z
    ·obtain ⟨c',hc'⟩:=yde (yhb (env:=X.env) scope.names [] n2)
     have ec:=ygh I S hc'
     rw[hc] at ec
     cases ec
     exact .inr ⟨.inl n3,c,hc',hcell.keeps hk⟩
 ·obtain ⟨v,q⟩:=I.cell x c (ygh I S h)
  exact⟨v,q.keeps hk⟩
 ·unfold yb1
  rw[List.length_map]
  exact S.len
end
def yow (X:Cx)(ifs:List Expr)(t:TT):Prop:=
 ∀(pins:List (Addr×Obj)) (s:Shared) (σ:St) (H:Hp) (Q:Bool→Hp→Prop),Inv X pins σ H s→t σ H Q→
  wpAny (model X.prog X.w) X.A (forIn ifs true fun c r=>if r=true then do let ok ← isTrue c X.env (eval c X.env);pure (ForInStep.yield ok) else pure (ForInStep.yield r)) (TP X pins σ Q) X.xe s
def ykh:TT:=fun _ H Q=>Q true H
theorem ybs {X:Cx}:yow X [] ykh:=fun pins s σ H Q I h=>zwp0 ⟨H,I,h⟩
theorem ye2 {X:Cx}{c:Expr}{t:TT}(h:PT X c t):yow X [c] t:=fun pins s σ H Q I q=>wpAny_tests_one (h pins s σ H Q I q)
def zac (ix:List (Option Nat))(wi:TI)(g:TG)(ti:TT)(te:TE):TE:=fun σ H Q=>wi σ H fun J H1=>∀D,H1 D=none→∃W:Nat→Nat→Hp→Prop,(∃m,W 0 m (upd H1 D (.lst [])))∧∀i m H,W i m H→
 (J.stop i H∧Q (.ref D) H)∨(J.go i H∧∀x H',J.yld i H x H'→g x (yb1 ix σ) H' fun σ2 H2=>(∀(k:Nat) v,(yb1 ix σ)[k]? = some (some v)→σ2[k]? = some (some v))∧ti σ2 H2 fun b H3=>
  if b=true then te σ2 H3 fun y H4=>∃zs,H4 D=some (.lst zs)∧zs.length<sizeLine∧∃m',m' < m∧W (i+1) m' (upd H4 D (.lst (zs++[y]))) else ∃m',m' < m∧W (i+1) m' H3)
section
variable {X:Cx}{N':List Str}{ix:List (Option Nat)}{scope:Scope}{elt tg iter:Expr}{ifs:List Expr}{pos:Pos}{wi:TI}{g:TG}{ti:TT}{te:TE}
def ylx (X:Cx)(pins:List (Addr×Obj))(σ:St)(Q:VK)(acc:Value)(C:Addr)(r:Result)(s':Shared):Prop:=
 ∃D H',acc = .ref D∧(∃f,r = .ok f)∧Inv X pins σ H' s'∧ygv X pins H' C∧(∃m,s'.heap.Ns C m)∧Q (.ref D) H'
theorem yta {X':Cx}{σ₀:St}{H:Hp}{s:Shared}{Q:VK}{it D:Addr}{fp:List Addr}{tn:Nat→Heap→Prop}{J:It}{W:Nat→Nat→Hp→Prop}{m0:Nat}(I:Inv X' [] σ₀ H s)(hcalm:X'.calm=true)(hxe:X'.xe=fun _ _=>False)
 (T:Turn X'.prog X'.w X'.K tg J fp it tn) (st:tn 0 s.heap) (hf:∀b∈fp,ygv X' [] H b) (hg:PG X' tg g) (hi:yow X' ifs ti) (he:PE X' elt te) (w0:W 0 m0 H)
 (turn:∀i m H,W i m H→(J.stop i H∧Q (.ref D) H)∨(J.go i H∧∀x H',J.yld i H x H'→g x σ₀ H' fun σ2 H2=>(∀(k:Nat) v,σ₀[k]? = some (some v)→σ2[k]? = some (some v))∧ti σ2 H2 fun b H3=>
  if b=true then te σ2 H3 fun y H4=>∃zs,H4 D=some (.lst zs)∧zs.length<sizeLine∧∃m',m' < m∧W (i+1) m' (upd H4 D (.lst (zs++[y]))) else ∃m',m' < m∧W (i+1) m' H3)) :
 codeAny (model X'.prog X'.w) X'.A (.compStart (.ListComp elt [⟨tg,iter,ifs,0⟩] scope pos) 0 (.ref it) (.ref D) X'.env) (fun r s'=>(∃f,r = .ok f)∧∃H',Inv X' [] σ₀ H' s'∧Q (.ref D) H') s:=by
 have stat:∀{H':Hp},(∀b∈fp,H' b=none)→∀b∈fp,ygv X' [] H' b:=fun hn b hb=>⟨hn b hb,(hf b hb).2⟩
 have loop:codeAny (model X'.prog X'.w) X'.A (.compLoop (.ListComp elt [⟨tg,iter,ifs,0⟩] scope pos) 0 (.ref it) (.ref D) X'.env) (fun r s'=>(∃f,r = .ok f)∧∃H',Inv X' [] σ₀ H' s'∧Q (.ref D) H') s:=by
  refine codeAny_loop rfl (fun n s'=>∃i H',Inv X' [] σ₀ H' s'∧tn i s'.heap∧(∀b∈fp,H' b=none)∧W i n H') ?_ m0 ⟨0,H,I,st,fun b hb=>(hf b hb).1,w0⟩
  rintro n s1 ⟨i,H1,I1,st1,fr1,w1⟩
  show wpAny _ X'.A ((compTurn (.ListComp elt [⟨tg,iter,ifs,0⟩] scope pos) 0 (.ref it) (.ref D) X'.env).onRaise (fun x=>do noteFrame x X'.env;theTreesLotGoes x)) _ _ s1
  refine wpAny_noted ?_
  have noE:∀{α:Type}{t:Sem α}{P:α→Shared→Prop}{F:Value→Shared→Prop}{s:Shared},wpAny (model X'.prog X'.w) X'.A t P X'.xe s→wpAny (model X'.prog X'.w) X'.A t P F s:=fun h=>wpAny_mono h (fun _ _ x=>x) fun e s' x=>by rw[hxe] at x;exact x.elim
  rw[compTurn_list]
  refine zwb0 (wpAny_standAt (zwb0 ?_))
  rcases turn i n H1 w1 with ⟨stop,qn⟩ | ⟨go,step⟩
  ·refine thn (T.done X' rfl rfl rfl hcalm i [] s1 σ₀ H1 _ I1 (stat fr1) st1 stop) fun r s2 ⟨hr,I2⟩=>?_
   subst hr
   exact zwp0 ⟨⟨_,rfl⟩,H1,I2,qn⟩
  ·refine thn (T.item X' rfl rfl rfl hcalm i [] s1 σ₀ H1 _ I1 (stat fr1) st1 go) fun r s2 ⟨u,hr,h2⟩=>?_
   subst hr
   refine zwb0 (thn h2 fun _ s3 ⟨x,H3,I3,r3,y3,st3,fr3⟩=>?_)
   have I3':=I3.pinned (stat fr3) (T.obj _ _ st3)
   refine zwb0 (noE (thn (hg _ s3 σ₀ H3 x u _ I3' r3 (step x H3 y3)) fun _ s4 ⟨σ4,H4,I4,hk4,q4⟩=>?_))
   refine zwb0 (noE (thn (hi _ s4 σ4 H4 _ I4 q4) fun ok s5 ⟨H5,I5,q5⟩=>?_))
   have again':∀{s7:Shared}{H7:Hp}{m':Nat},Inv X' ([]++yg5 fp s3.heap) σ4 H7 s7→m' < n→W (i+1) m' H7→∃m,m<n∧∃i H',Inv X' [] σ₀ H' s7∧tn i s7.heap∧(∀b∈fp,H' b=none)∧W i m H':=fun {s7 H7 m'} I7 hm w7=>by
    refine⟨m',hm,i+1,H7,I7.unpinned.weak (by rw[I3.len,I7.len]) hk4,T.keep _ _ _ st3 fun b hb o e=>(I7.pin (b,o) (List.mem_append_right _ (List.mem_append_right _ (ybu hb e)))).1,fun b hb=>?_,w7⟩
    obtain ⟨o,e,d⟩:=T.obj _ _ st3 b hb
    exact(I7.pin (b,o) (List.mem_append_right _ (List.mem_append_right _ (ybu hb e)))).2.1
   cases ok with
   |false=>
    obtain ⟨m',hm,w7⟩:=q5
    exact zwp0 ⟨rfl,again' I5 hm w7⟩
   |true=>
    refine zwb0 (zwb0 (noE (thn (he _ s5 σ4 H5 _ I5 q5) fun y s6 ⟨yv,H6,I6,r6,zs,hD,hz,m',hm,w7⟩=>?_)))
    refine zwb0 (noE (thn (ydd (X:=X') _ s6 σ4 H6 (.ref D) [yv] (.ref D) [y] (fun v H7=>H7=upd H6 D (.lst (zs++[yv]))) I6 rfl (.cons r6 .nil) ⟨D,zs,yv,rfl,rfl,hD,hz,rfl⟩) fun v s7 ⟨vv,H7,I7,_,e7⟩=>?_))
    subst e7
    exact zwp0 (zwp0 ⟨rfl,again' I7 hm w7⟩)
 refine codeAny_compStart_list loop (T.self _ 0 s _ _ st loop)
theorem yk1 {pins:List (Addr×Obj)}{σ:St}{H:Hp}{s:Shared}{Q:VK}{it:Addr}{fp:List Addr}{tn:Nat→Heap→Prop}{J:It}{E:Value→Shared→Prop}(I:Inv X pins σ H s)(hcalm:X.calm=true)(S:CompScope X N' ix scope)
 (T:Turn X.prog X.w X.K tg J fp it tn) (st:tn 0 s.heap) (hf:∀b∈fp,ygv X pins H b)
 (hg:∀C s H fp,PG (ya4 X N' scope C s H fp) tg g) (hi:∀C s H fp,yow (ya4 X N' scope C s H fp) ifs ti) (he:∀C s H fp,PE (ya4 X N' scope C s H fp) elt te)
 (h:∀D,H D=none→∃W:Nat→Nat→Hp→Prop,(∃m,W 0 m (upd H D (.lst [])))∧∀i m H,W i m H→
  (J.stop i H∧Q (.ref D) H)∨(J.go i H∧∀x H',J.yld i H x H'→g x (yb1 ix σ) H' fun σ2 H2=>(∀(k:Nat) v,(yb1 ix σ)[k]? = some (some v)→σ2[k]? = some (some v))∧ti σ2 H2 fun b H3=>
   if b=true then te σ2 H3 fun y H4=>∃zs,H4 D=some (.lst zs)∧zs.length<sizeLine∧∃m',m' < m∧W (i+1) m' (upd H4 D (.lst (zs++[y]))) else ∃m',m' < m∧W (i+1) m' H3)) :
 wpAny (model X.prog X.w) X.A (newList []) (fun acc s3=>wpAny (model X.prog X.w) X.A (newFunctionEnv scope X.env.globals (yhp X.env scope.names []) [] X.env.qual none .none (some X.env)) (fun cenv s4=>
  codeAny (model X.prog X.w) X.A (.compStart (.ListComp elt [⟨tg,iter,ifs,0⟩] scope pos) 0 (.ref it) acc { cenv with scope:=relabel scope X.env }) (ylx X pins σ Q acc cenv.locals) s4) E s3) E s:=by
 refine wpAny_newList ?_
 have fresh0:H s.heap.objs.size=none:=I.hok.fresh (Nat.le_refl _)
 have I3:Inv X pins σ (upd H s.heap.objs.size (.lst [])) { s with heap:=s.heap.push { cls:=.type "list",data:=.seq ([]:List Value).toArray } } :=
  I.laid (t':=s.toks) (fun b u e=>Heap.get?_push_of_some _ e) (Nat.le_refl _) ⟨by show 0≤sizeLine;exact Nat.zero_le _,[],0,.nil,Heap.get?_push_size _ rfl⟩
 obtain ⟨W,⟨m0,w0⟩,turn⟩:=h s.heap.objs.size fresh0
 generalize hD:s.heap.objs.size=D at *
 have lt0:∀b∈fp,b<s.heap.objs.size:=fun b hb=>by obtain ⟨o,e,_⟩:=T.obj 0 _ st b hb;exact Heap.lt_size e
 have hf3:∀b∈fp,ygv X pins (upd H D (.lst [])) b:=fun b hb=>by
  have nb:b≠D:=by rw[← hD];exact Nat.ne_of_lt (lt0 b hb)
  obtain ⟨f0,fr⟩:=hf b hb
  exact⟨by rw[yal nb];exact f0,fr⟩
 have st3:tn 0 (s.heap.push { cls:=.type "list",data:=.seq ([]:List Value).toArray }):=T.keep _ _ _ st fun b hb o e=>Heap.get?_push_of_some _ e
 revert I3 st3
 generalize (s.heap.push { cls:=.type "list",data:=.seq ([]:List Value).toArray })=h3
 intro I3 st3
 have lt3:∀b∈fp,b<h3.objs.size:=fun b hb=>by obtain ⟨o,e,_⟩:=T.obj 0 _ st3 b hb;exact Heap.lt_size e
 refine wpAny_newFunctionEnv S.nocell (fun x hx=>nomatch hx) (fun h4 hns hsb=>?_) S.kind
 have k4:∀b o,h3.get? b=some o→h4.get? b=some o:=fun b o e=>(hsb.2 b (Nat.ne_of_lt (Heap.lt_size e))).trans (Heap.get?_push_of_some _ e)
 have J4:Inv (ya4 X N' scope h3.objs.size { s with heap:=h3 } (upd H D (.lst [])) fp) [] (yb1 ix σ) (upd H D (.lst [])) { s with heap:=h4,toks:=s.toks+([]:List (Str×Value)).length }:=
  yir (s:={ s with heap:=h3 }) (tk:=s.toks+([]:List (Str×Value)).length) I3 hcalm S hf3 lt3 hns k4
 have st4:tn 0 ({ s with heap:=h4,toks:=s.toks+([]:List (Str×Value)).length }:Shared).heap:=T.keep _ _ _ st3 fun b hb o e=>k4 b o e
 have fr4:∀b∈fp,upd H D (.lst []) b=none:=fun b hb=>(hf3 b hb).1
 revert J4 st4
 generalize ({ s with heap:=h4,toks:=s.toks+([]:List (Str×Value)).length }:Shared)=s4
 intro J4 st4
 have hf4:∀b∈fp,ygv (ya4 X N' scope h3.objs.size { s with heap:=h3 } (upd H D (.lst [])) fp) [] (upd H D (.lst [])) b:=fun b hb=>
  ⟨fr4 b hb,Nat.ne_of_lt (lt3 b hb),J4.ok.exfs b hb,.inl hb,fun x c e=>(J4.ok.exf b hb).2 x c e,fun p hp=>nomatch hp⟩
 refine codeAny_mono (yta (X':=ya4 X N' scope h3.objs.size { s with heap:=h3 } (upd H D (.lst [])) fp) (Q:=Q) (D:=D) J4 rfl rfl T st4 hf4 (hg _ _ _ _) (hi _ _ _ _) (he _ _ _ _) w0 turn) fun r s' ⟨hr,H',J',q'⟩=>?_
 refine⟨D,H',rfl,hr,I3.call' J'.os J'.base J'.hok J'.bare fun b hb=>?_,?_,?_,q'⟩
 ·obtain ⟨_,f1,_,f3,f4,f5⟩:=hf3 b hb
  exact⟨f3,f1,f4,f5⟩
 ·exact I3.fpOk (H':=H') (Nat.le_refl _) J'.free
 ·obtain ⟨m,hn,_⟩:=J'.loc
  exact⟨m,hn⟩
end
section
variable {X:Cx}{N':List Str}{ix:List (Option Nat)}{scope:Scope}{elt tg iter:Expr}{ifs:List Expr}{pos:Pos}{wi:TI}{g:TG}{ti:TT}{te:TE}
theorem yd7 {pins:List (Addr×Obj)}{σ:St}{H:Hp}{s:Shared}(I:Inv X pins σ H s)(S:CompScope X N' ix scope):closureFor scope X.env=pure (yhp X.env scope.names []):=
 yha fun y hy e=>I.ok.has y.1 (.inl (S.free y hy e))
theorem yc0 (hcalm:X.calm=true)(S:CompScope X N' ix scope)(hit:PI X tg iter wi)
 (hg:∀C s H fp,PG (ya4 X N' scope C s H fp) tg g) (hi:∀C s H fp,yow (ya4 X N' scope C s H fp) ifs ti) (he:∀C s H fp,PE (ya4 X N' scope C s H fp) elt te)
 (hs:∀x,foldedSetIterable iter X.env x=pure x:=by intro _;rfl):PE X (.ListComp elt [⟨tg,iter,ifs,0⟩] scope pos) (zac ix wi g ti te):=by
 intro pins s σ H Q I h
 rw[eval_ListComp]
 refine wpAny_comprehension_free (use:=none) rfl hs (yd7 I S) S.kind S.loc (thn (hit pins s σ H _ I h) fun v s1 h1=>thn h1 fun itv s2 h2=>?_)
 obtain ⟨it,fp,tn,J,H2,rfl,I2,T,st2,f2,q2⟩:=h2
 refine thn (yk1 (E:=X.xe) (elt:=elt) (iter:=iter) (pos:=pos) I2 hcalm S T st2 f2 hg hi he q2) fun acc s3 h3=>thn h3 fun cenv s4 h4=>codeAny_mono h4 fun r s' hr=>?_
 obtain ⟨D,H',rfl,⟨f,rfl⟩,I',⟨g0,g1,_,g3,g4,g5⟩,⟨m,hm⟩,q'⟩:=hr
 exact⟨m,hm,fun h' hsb=>⟨.ref D,H',I'.turned (t':=s'.toks) (fun b o hb e=>(hsb.2 b hb).trans e) g0 g1 g3 g4 g5,rfl,q'⟩⟩
theorem yel {i:Nat}{y:Str}{py spos:Pos}(hN:X.N.Nodup)(hy:X.N[i]? = some y)(hly:Loc X.env.scope y)(hcalm:X.calm=true)(S:CompScope X N' ix scope)(hit:PI X tg iter wi)
 (hg:∀C s H fp,PG (ya4 X N' scope C s H fp) tg g) (hi:∀C s H fp,yow (ya4 X N' scope C s H fp) ifs ti) (he:∀C s H fp,PE (ya4 X N' scope C s H fp) elt te)
 (hsw:swapsWith (.ListComp elt [⟨tg,iter,ifs,0⟩] scope pos) (some (.Name y py)) spos.line X.env=pure true:=by rfl) (hs:∀x,foldedSetIterable iter X.env x=pure x:=by intro _;rfl)
 (hf:X.fn y=true∨X.env.scope.names.lookup y=some .local:=by first|exact .inl rfl|exact .inr rfl|assumption) :
 PS X (.Assign [.Name y py] (.ListComp elt [⟨tg,iter,ifs,0⟩] scope pos) spos) (zbq (zac ix wi g ti te) (ybg i)):=by
 intro pins s σ H D I h
 rw[exec_Assign_Name_used _ _ _ _ hsw]
 refine zwb0 (wpAny_standAt (zwb0 ?_))
 show wpAny _ X.A (do let _ ← comprehension (.ListComp elt [⟨tg,iter,ifs,0⟩] scope pos) scope X.env _ (newList []) false (eval iter X.env) (some (assign (.Name y py) X.env))) _ _ s
 refine zwb0 (thn (wpAny_comprehension_free (use:=some (assign (.Name y py) X.env)) (Q:=fun _ s'=>SP X pins D .next s') rfl hs (yd7 I S) S.kind S.loc (thn (hit pins s σ H _ I h) fun v s1 h1=>thn h1 fun itv s2 h2=>?_)) fun _ s' hq=>zwp0 (zwp0 hq))
 obtain ⟨it,fp,tn,J,H2,rfl,I2,T,st2,f2,q2⟩:=h2
 refine thn (yk1 (E:=X.xe) (Q:=fun x H1=>ybg i x σ H1 D.nx) (elt:=elt) (iter:=iter) (pos:=pos) I2 hcalm S T st2 f2 hg hi he q2) fun acc s3 h3=>thn h3 fun cenv s4 h4=>codeAny_mono h4 fun r s' hr=>?_
 obtain ⟨A,H',rfl,⟨f,rfl⟩,I',⟨g0,g1,g2,g3,g4,g5⟩,⟨m,hm⟩,q'⟩:=hr
 show wpAny _ X.A (assign (.Name y py) X.env (.ref A)) _ _ _
 refine wpAny_assign_Name (ym7 I' hN hy hly (v:=.ref A) rfl (fun s5 I5 ⟨a,hsb,ha⟩=>?_) hf)
 have na:cenv.locals≠a:=by
  rcases ha with z|z
  ·rw[z];exact g1
  ·exact(g4 y a z).symm
 exact⟨m,hm.sameBut hsb na,fun h' hsb'=>⟨_,H',I5.turned (t':=s5.toks) (fun b o hb e=>(hsb'.2 b hb).trans e) g0 g1 g3 g4 g5,q'⟩⟩
end
end L2
namespace L2
open PySem PySem.Spec PyProof.Rows PySem.Builtin.SmallTypes
def SqI (h:Heap)(b:Bool)(it a:Addr)(k:Nat):Prop:=match b with
 |true=>h.IsListIter it a k
 |false=>h.IsTupleIter it a k
def SqH (h:Heap)(b:Bool)(a:Addr)(its:Array Value):Prop:=match b with
 |true=>h.IsList a its
 |false=>h.IsTuple a its
theorem SqI.ext {h h':Heap}{b:Bool}{it a c:Addr}{k:Nat}(x:SqI h b it a k)(e:Heap.ExtBut c h h')(n:it≠c):SqI h' b it a k:=by
 cases b with
 |true=>exact Heap.IsListIter.at (h:=h) x fun o q=>e it o n q
 |false=>exact Heap.IsTupleIter.at (h:=h) x fun o q=>e it o n q
theorem SqI.keep {h h':Heap}{b:Bool}{it a:Addr}{k:Nat}(x:SqI h b it a k)(e:∀o,h.get? it=some o→h'.get? it=some o):SqI h' b it a k:=by
 cases b with
 |true=>exact Heap.IsListIter.at (h:=h) x e
 |false=>exact Heap.IsTupleIter.at (h:=h) x e
theorem SqH.ext {h h':Heap}{b:Bool}{a c:Addr}{its:Array Value}(x:SqH h b a its)(e:Heap.ExtBut c h h')(n:a≠c):SqH h' b a its:=by
 cases b with
 |true=>exact Heap.IsList.at (h:=h) x fun o q=>e a o n q
 |false=>
  obtain ⟨o,h1,h2⟩:=(show h.IsTuple a its from x)
  exact(show h'.IsTuple a its from ⟨o,e a o n h1,h2⟩)
theorem SqI.obj {h:Heap}{b:Bool}{it a:Addr}{k:Nat}(x:SqI h b it a k):∃o,h.get? it=some o∧∃vs,o.data = .fields vs:=by
 cases b with
 |true=>obtain ⟨o,h1,_,h3⟩:=(show h.IsListIter it a k from x);exact⟨o,h1,_,h3⟩
 |false=>obtain ⟨o,h1,_,h3⟩:=(show h.IsTupleIter it a k from x);exact⟨o,h1,_,h3⟩
section
variable {prog:Program}{w:World}{A:Around}{E:Value→Shared→Prop}{s:Shared}
theorem yrl {it t:Addr}{i:Nat}{its:Array Value}{x:Value}{Q:Value→Shared→Prop}(hi:s.heap.IsTupleIter it t i)(ht:s.heap.IsTuple t its)(hx:its[i]? = some x)
 (hq:∀h',h'.IsTupleIter it t (i+1)→Heap.SameBut it s.heap h'→Q x { s with heap:=h' }):wpAny (model prog w) A (nextOf (.ref it)) Q E s:=by
 obtain ⟨oi,e1,ec,ed⟩:=id hi
 obtain ⟨ot,e2,_,nt,et⟩:=ht
 (unfold nextOf;refine zwb0 (wpAny_callSpecial?_slot (name:=Str.ofString "__next__") hi.typeIs F.slot_tuple_iterator_next (wpAny_call_entry F.slot_tuple_iterator_next hi.typeIs F.entry_tuple_iterator_next ?_ (F.args_tuple_iterator_next_1 _))))
 (show wpAny _ _ (field (.ref it) 0 >>= _) _ _ s;refine zwb0 (wpAny_field e1 ed (x:=.ref t) rfl ?_))
 (show wpAny _ _ (if (Value.ref t == Value.none)=true then _ else _) _ _ s;rw[if_neg (show ¬ ((Value.ref t == Value.none)=true) from Bool.false_ne_true)])
 (show wpAny _ _ (field (.ref it) 1 >>= _) _ _ s;refine zwb0 (wpAny_field e1 ed (x:=.int i 0) rfl ?_))
 (show wpAny _ _ (seqItems? (.ref t) >>= _) _ _ s;refine zwb0 (wpAny_seqItems e2 et ?_))
 simp only[Int.toNat_natCast,hx]
 refine zwb0 (wpAny_setField e1 ed (by simp) (zwp0 ⟨x,rfl,zwp0 (hq _ ?_ (Heap.SameBut.update ..))⟩))
 exact⟨_,Heap.get?_update_self _ e1 (Obj.isFreed_of_fields (Obj.data_mapFields ed _)),(Obj.cls_mapFields ..).trans ec,by rw[Obj.data_mapFields ed];simp [rawInt]⟩
theorem ytb {it t:Addr}{i:Nat}{its:Array Value}{Q:Value→Shared→Prop}(hh:A.handled=none)(hi:s.heap.IsTupleIter it t i)(ht:s.heap.IsTuple t its)(hx:its[i]? = none)
 (hE:∀h' e,Heap.ExtBut it s.heap h'→(∃o,h'.get? e=some o∧o.cls = .type "StopIteration")→E (.ref e) { s with heap:=h' }):wpAny (model prog w) A (nextOf (.ref it)) Q E s:=by
 obtain ⟨oi,e1,ec,ed⟩:=id hi
 obtain ⟨ot,e2,_,nt,et⟩:=ht
 (unfold nextOf;refine zwb0 (wpAny_callSpecial?_slot (name:=Str.ofString "__next__") hi.typeIs F.slot_tuple_iterator_next (wpAny_call_entry F.slot_tuple_iterator_next hi.typeIs F.entry_tuple_iterator_next ?_ (F.args_tuple_iterator_next_1 _))))
 (show wpAny _ _ (field (.ref it) 0 >>= _) _ _ s;refine zwb0 (wpAny_field e1 ed (x:=.ref t) rfl ?_))
 (show wpAny _ _ (if (Value.ref t == Value.none)=true then _ else _) _ _ s;rw[if_neg (show ¬ ((Value.ref t == Value.none)=true) from Bool.false_ne_true)])
 (show wpAny _ _ (field (.ref it) 1 >>= _) _ _ s;refine zwb0 (wpAny_field e1 ed (x:=.int i 0) rfl ?_))
 (show wpAny _ _ (seqItems? (.ref t) >>= _) _ _ s;refine zwb0 (wpAny_seqItems e2 et ?_))
 simp only[Int.toNat_natCast,hx]
 refine zwb0 (wpAny_rule (zwb0 (wpAny_setField e1 ed (by simp) ?_)))
 (show wpAny _ _ (newExc (.type "StopIteration") [] >>= _) _ _ _;refine zwb0 ?_)
 (simp only[newExc,newTuple];refine zwb0 (wpAny_newObj_type ?_ (by size_fits)))
 refine zwb0 (m:=firstArgMember _ _) (wpAny_of_eq (a:=Value.none) (by rfl) ?_)
 refine wpAny_newObj_type ?_ (by size_fits)
 (simp only[raiseNew];refine zwb0 (wpAny_handled ?_))
 rw[show A.in1.handled=none from hh]
 refine zwb0 (zwp0 (wpAny_throw ?_))
 exact hE _ _ (((Heap.SameBut.update ..).extBut.push _).push _) ⟨_,Heap.get?_push_size _ rfl,rfl⟩
theorem yo2 {b:Bool}{it a:Addr}{i:Nat}{its:Array Value}{x:Value}{Q:Value→Shared→Prop}(hi:SqI s.heap b it a i)(ha:SqH s.heap b a its)(hx:its[i]? = some x)
 (hq:∀h',SqI h' b it a (i+1)→Heap.SameBut it s.heap h'→Q x { s with heap:=h' }):wpAny (model prog w) A (nextOf (.ref it)) Q E s:=by
 cases b with
 |true=>exact wpAny_nextOf_list_item hi ha hx hq
 |false=>exact yrl hi ha hx hq
theorem yxm {b:Bool}{it a:Addr}{i:Nat}{its:Array Value}{Q:Value→Shared→Prop}(hh:A.handled=none)(hi:SqI s.heap b it a i)(ha:SqH s.heap b a its)(hx:its[i]? = none)
 (hE:∀h' e,Heap.ExtBut it s.heap h'→(∃o,h'.get? e=some o∧o.cls = .type "StopIteration")→E (.ref e) { s with heap:=h' }):wpAny (model prog w) A (nextOf (.ref it)) Q E s:=by
 cases b with
 |true=>exact wpAny_nextOf_list_end hh hi ha hx hE
 |false=>exact ytb hh hi ha hx hE
variable {z TI TO i1 i2 l1 l2:Addr}{b1 b2:Bool}{k1 k2:Nat}{xs ys:Array Value}{x y a b:Value}
theorem ytc {Q:Value→Shared→Prop}(D:ZipApart z TI TO i1 i2 l1 l2)(hz:IsZip s.heap z TI TO .none)(hTI:IsPair s.heap TI (.ref i1) (.ref i2))(hTO:IsPair s.heap TO a b)
 (h1:SqI s.heap b1 i1 l1 k1) (h2:SqI s.heap b2 i2 l2 k2) (hl1:SqH s.heap b1 l1 xs) (hl2:SqH s.heap b2 l2 ys) (hx:xs[k1]? = some x) (hy:ys[k2]? = some y)
 (hq:∀h',IsZip h' z TI TO (rawInt s.heap.objs.size)→IsPair h' TO x y→SqI h' b1 i1 l1 (k1+1)→SqI h' b2 i2 l2 (k2+1)→IsPair h' s.heap.objs.size x y→h'.objs.size=s.heap.objs.size+1→
  (∀c o,c≠z→c≠TO→c≠i1→c≠i2→s.heap.get? c=some o→h'.get? c=some o)→Q (.ref s.heap.objs.size) { s with heap:=h' }) :
 wpAny (model prog w) A (Builtin.«zip.__next__» ⟨[.ref z],[]⟩) (fun fin s'=>∃v,fin = .done (.ret v)∧Q v s') E s:=by
 (show wpAny _ _ (field (.ref z) 2 >>= _) _ _ _;refine zwb0 (wpAny_field hz rfl (x:=.bool false) rfl ?_))
 (show wpAny _ _ (field (.ref z) 3 >>= _) _ _ _;refine zwb0 (wpAny_field hz rfl (x:=.ref TI) rfl (zwb0 (wpAny_seqItems hTI rfl ?_))))
 (show wpAny _ _ (ownedTupleIsFree (.ref z) >>= _) _ _ _;refine zwb0 ?_)
 (unfold ownedTupleIsFree;refine zwb0 (wpAny_field hz rfl (x:=.none) rfl (zwp0 ?_)))
 (simp only[if_true];refine zwb0 (wpAny_rule (zwb0 (wpAny_field hz rfl (x:=.ref TO) rfl ?_))))
 refine zwb0 (wpAny_setField_rec hz (by simp) fun g1 z1 s1=>?_)
 replace z1:IsZip g1 z TI TO .ellipsis:=z1
 (refine zwb0 ?_;simp only[List.zipIdx_cons,List.zipIdx_nil,List.forIn_cons,List.forIn_nil])
 (refine zwb0 (zwb0 (wpAny_onRaise ?_));show wpAny _ _ (nextOf (.ref i1) >>= _) _ _ _)
 refine zwb0 (yo2 (h1.ext s1.extBut D.i1z) (hl1.ext s1.extBut D.l1z) hx fun g2 p2 s2=>zwp0 ?_)
 have t2:IsPair g2 TO a b:=s2.extBut _ _ D.TOi1 (s1.extBut _ _ D.TOz hTO)
 refine zwb0 (wpAny_seqItems t2 rfl (zwb0 (wpAny_updateSeq_pair t2 fun g3 t3 s3=>?_)))
 replace t3:IsPair g3 TO x b:=t3
 (refine zwb0 (wpAny_letGo (zwp0 ?_));refine zwb0 (zwb0 (wpAny_onRaise ?_));show wpAny _ _ (nextOf (.ref i2) >>= _) _ _ _)
 refine zwb0 (yo2 (((h2.ext s1.extBut D.i2z).ext s2.extBut D.i12.symm).ext s3.extBut D.TOi2.symm) (((hl2.ext s1.extBut D.l2z).ext s2.extBut D.l2i1).ext s3.extBut D.l2TO) hy fun g4 p4 s4=>zwp0 ?_)
 have t4:IsPair g4 TO x b:=s4.extBut _ _ D.TOi2 t3
 refine zwb0 (wpAny_seqItems t4 rfl (zwb0 (wpAny_updateSeq_pair t4 fun g5 t5 s5=>?_)))
 replace t5:IsPair g5 TO x y:=t5
 (refine zwb0 (wpAny_letGo (zwp0 (zwp0 ?_)));refine zwb0 (wpAny_seqItems t5 rfl (zwb0 (wpAny_newTuple ?_))))
 have ez:g5.objs.size=s.heap.objs.size:=by rw[s5.1,s4.1,s3.1,s2.1,s1.1]
 have z5:IsZip g5 z TI TO .ellipsis:=s5.extBut _ _ D.TOz.symm (s4.extBut _ _ D.i2z.symm (s3.extBut _ _ D.TOz.symm (s2.extBut _ _ D.i1z.symm z1)))
 have kp:∀c o,c≠z→c≠TO→c≠i1→c≠i2→s.heap.get? c=some o→g5.get? c=some o:=fun c o c1 c2 c3 c4 e=>s5.extBut _ _ c2 (s4.extBut _ _ c4 (s3.extBut _ _ c2 (s2.extBut _ _ c3 (s1.extBut _ _ c1 e))))
 have p1:SqI g5 b1 i1 l1 (k1+1):=((p2.ext s3.extBut D.TOi1.symm).ext s4.extBut D.i12).ext s5.extBut D.TOi1.symm
 have p5:SqI g5 b2 i2 l2 (k2+1):=p4.ext s5.extBut D.TOi2.symm
 have q1:i1<g5.objs.size:=let ⟨_,e,_⟩:=p1.obj;Heap.lt_size e
 have q2:i2<g5.objs.size:=let ⟨_,e,_⟩:=p5.obj;Heap.lt_size e
 (show wpAny _ _ (ownedTupleHandOut (.ref z) (.ref g5.objs.size) >>= _) _ _ _;refine zwb0 ?_;unfold ownedTupleHandOut)
 have z6:IsZip (g5.push { cls:=.type "tuple",data:=.seq #[x,y] }) z TI TO .ellipsis:=Heap.get?_push_of_some _ z5
 refine zwb0 (wpAny_setField_rec z6 (by simp) fun g7 z7 s7=>?_)
 replace z7:IsZip g7 z TI TO (rawInt g5.objs.size):=z7
 refine wpAny_setField_rec z7 (by simp) fun g8 z8 s8=>?_
 replace z8:IsZip g8 z TI TO (rawInt g5.objs.size):=z8
 have up:∀c o,c≠z→g5.get? c=some o→g8.get? c=some o:=fun c o c1 e=>s8.extBut _ _ c1 (s7.extBut _ _ c1 (Heap.get?_push_of_some _ e))
 have nT:g5.objs.size≠z:=Nat.ne_of_gt (Heap.lt_size z5)
 have T8:IsPair g8 g5.objs.size x y:=s8.extBut _ _ nT (s7.extBut _ _ nT (Heap.get?_push_size _ rfl))
 have e8:g8.objs.size=g5.objs.size+1:=by rw[s8.1,s7.1,Heap.size_push]
 refine zwp0 ⟨_,rfl,?_⟩
 rw[ez] at z8 T8 e8 ⊢
 exact hq g8 z8 (up _ _ D.TOz t5) (p1.keep fun o e=>up _ o D.i1z e) (p5.keep fun o e=>up _ o D.i2z e) T8 e8 fun c o c1 c2 c3 c4 e=>up c o c1 (kp c o c1 c2 c3 c4 e)
theorem yvs {Q:Fin→Shared→Prop}(hh:A.handled=none)(D:ZipApart z TI TO i1 i2 l1 l2)(hz:IsZip s.heap z TI TO .none)(hTI:IsPair s.heap TI (.ref i1) (.ref i2))(hTO:IsPair s.heap TO a b)
 (h1:SqI s.heap b1 i1 l1 k1) (h2:SqI s.heap b2 i2 l2 k2) (hl1:SqH s.heap b1 l1 xs) (hl2:SqH s.heap b2 l2 ys) (hend:xs[k1]? = none∨ys[k2]? = none)
 (hE:∀h' e,(∀c o,c≠z→c≠TO→c≠i1→c≠i2→s.heap.get? c=some o→h'.get? c=some o)→(∃o,h'.get? e=some o∧o.cls = .type "StopIteration")→E (.ref e) { s with heap:=h' }) :
 wpAny (model prog w) A (Builtin.«zip.__next__» ⟨[.ref z],[]⟩) Q E s:=by
 (show wpAny _ _ (field (.ref z) 2 >>= _) _ _ _;refine zwb0 (wpAny_field hz rfl (x:=.bool false) rfl ?_))
 (show wpAny _ _ (field (.ref z) 3 >>= _) _ _ _;refine zwb0 (wpAny_field hz rfl (x:=.ref TI) rfl (zwb0 (wpAny_seqItems hTI rfl ?_))))
 (show wpAny _ _ (ownedTupleIsFree (.ref z) >>= _) _ _ _;refine zwb0 ?_)
 (unfold ownedTupleIsFree;refine zwb0 (wpAny_field hz rfl (x:=.none) rfl (zwp0 ?_)))
 (simp only[if_true];refine zwb0 (wpAny_rule (zwb0 (wpAny_field hz rfl (x:=.ref TO) rfl ?_))))
 refine zwb0 (wpAny_setField_rec hz (by simp) fun g1 z1 s1=>?_)
 replace z1:IsZip g1 z TI TO .ellipsis:=z1
 (refine zwb0 ?_;simp only[List.zipIdx_cons,List.zipIdx_nil,List.forIn_cons,List.forIn_nil])
 (refine zwb0 (zwb0 (wpAny_onRaise ?_));show wpAny _ _ (nextOf (.ref i1) >>= _) _ _ _)
 cases ex:xs[k1]? with
 |none=>
  refine zwb0 (yxm hh (h1.ext s1.extBut D.i1z) (hl1.ext s1.extBut D.l1z) ex fun g2 e s2 ⟨oe,he,ce⟩=>?_)
  have z2:IsZip g2 z TI TO .ellipsis:=s2 _ _ D.i1z.symm z1
  have nez:e≠z:=fun q=>by subst q;rw[z2] at he;cases he;simp at ce
  exact wpAny_setField_rec z2 (by simp) fun g3 _ s3=>hE g3 e (fun c o c1 _ c3 _ q=>s3.extBut _ _ c1 (s2 _ _ c3 (s1.extBut _ _ c1 q))) ⟨oe,s3.extBut _ _ nez he,ce⟩
 |some x=>
  have ey:ys[k2]? = none:=by rcases hend with q|q;rw[ex] at q;cases q;exact q
  refine zwb0 (yo2 (h1.ext s1.extBut D.i1z) (hl1.ext s1.extBut D.l1z) ex fun g2 p2 s2=>zwp0 ?_)
  have t2:IsPair g2 TO a b:=s2.extBut _ _ D.TOi1 (s1.extBut _ _ D.TOz hTO)
  refine zwb0 (wpAny_seqItems t2 rfl (zwb0 (wpAny_updateSeq_pair t2 fun g3 t3 s3=>?_)))
  (refine zwb0 (wpAny_letGo (zwp0 ?_));refine zwb0 (zwb0 (wpAny_onRaise ?_));show wpAny _ _ (nextOf (.ref i2) >>= _) _ _ _)
  refine zwb0 (yxm hh (((h2.ext s1.extBut D.i2z).ext s2.extBut D.i12.symm).ext s3.extBut D.TOi2.symm) (((hl2.ext s1.extBut D.l2z).ext s2.extBut D.l2i1).ext s3.extBut D.l2TO) ey fun g4 e s4 ⟨oe,he,ce⟩=>?_)
  have z4:IsZip g4 z TI TO .ellipsis:=s4 _ _ D.i2z.symm (s3.extBut _ _ D.TOz.symm (s2.extBut _ _ D.i1z.symm z1))
  have nez:e≠z:=fun q=>by subst q;rw[z4] at he;cases he;simp at ce
  exact wpAny_setField_rec z4 (by simp) fun g5 _ s5=>hE g5 e (fun c o c1 c2 c3 c4 q=>s5.extBut _ _ c1 (s4 _ _ c4 (s3.extBut _ _ c2 (s2.extBut _ _ c3 (s1.extBut _ _ c1 q))))) ⟨oe,s5.extBut _ _ nez he,ce⟩
end
def ytd:Bool→String
 |true => "list_iterator"
 |false => "tuple_iterator"
abbrev zg1 (h:Heap)(b1:Bool)(l1:Addr):Heap:=h.push { cls:=.type (ytd b1),data:=.fields #[.ref l1,.int 0 0] }
abbrev zg2 (h:Heap)(b1 b2:Bool)(l1 l2:Addr):Heap:=(zg1 h b1 l1).push { cls:=.type (ytd b2),data:=.fields #[.ref l2,.int 0 0] }
abbrev zg3 (h:Heap) (b1 b2:Bool) (l1 l2:Addr):Heap:=(zg2 h b1 b2 l1 l2).push { cls:=.type "tuple",data:=.seq #[.ref h.objs.size,.ref (zg1 h b1 l1).objs.size] }
abbrev zg4 (h:Heap) (b1 b2:Bool) (l1 l2:Addr):Heap:=(zg3 h b1 b2 l1 l2).push { cls:=.type "tuple",data:=.seq #[.none,.none] }
abbrev zg5 (h:Heap) (b1 b2:Bool) (l1 l2:Addr):Heap:=(zg4 h b1 b2 l1 l2).push { cls:=.type "zip",data:=.fields #[.none,.bool false,.bool false,.ref (zg2 h b1 b2 l1 l2).objs.size,.ref (zg3 h b1 b2 l1 l2).objs.size] }
theorem yvt (b1 b2:Bool)(l1 l2:Addr)(xs ys:Array Value) :
 Meets (Builtin.«zip.__new__» ⟨[.type "zip",.ref l1,.ref l2],[]⟩) (fun _ R s=>SqH s.heap b1 l1 xs∧SqH s.heap b2 l2 ys ∧
  R (.ok (.ret (.ref (zg4 s.heap b1 b2 l1 l2).objs.size))) { s with heap:=zg5 s.heap b1 b2 l1 l2 }):=
 .of_wp fun prog w A R s h=>by
  obtain ⟨hp,g,d,tk,os⟩:=s;obtain ⟨q1,q2,h⟩:=h
  have hsub:=sub_zip
  cases b1 with
  |true=>
   have g1:Heap.IsList (Shared.heap ⟨hp,g,d,tk,os⟩) l1 xs:=q1
   cases b2 with
   |true=>
    have g2:Heap.IsList (Shared.heap ⟨hp.push { cls:=.type "list_iterator",data:=.fields #[.ref l1,.int 0 0] },g,d,tk,os⟩) l2 ys:=Heap.IsList.push (show hp.IsList l2 ys from q2) _
    wp_walk using wpAny_pyIter_list g1,wpAny_pyIter_list g2
    exact⟨_,rfl,h⟩
   |false=>
    have g2:Heap.IsTuple (Shared.heap ⟨hp.push { cls:=.type "list_iterator",data:=.fields #[.ref l1,.int 0 0] },g,d,tk,os⟩) l2 ys:=Heap.IsTuple.push (show hp.IsTuple l2 ys from q2) _
    wp_walk using wpAny_pyIter_list g1,wpAny_pyIter_tuple g2
    exact⟨_,rfl,h⟩
  |false=>
   have g1:Heap.IsTuple (Shared.heap ⟨hp,g,d,tk,os⟩) l1 xs:=q1
   cases b2 with
   |true=>
    have g2:Heap.IsList (Shared.heap ⟨hp.push { cls:=.type "tuple_iterator",data:=.fields #[.ref l1,.int 0 0] },g,d,tk,os⟩) l2 ys:=Heap.IsList.push (show hp.IsList l2 ys from q2) _
    wp_walk using wpAny_pyIter_tuple g1,wpAny_pyIter_list g2
    exact⟨_,rfl,h⟩
   |false=>
    have g2:Heap.IsTuple (Shared.heap ⟨hp.push { cls:=.type "tuple_iterator",data:=.fields #[.ref l1,.int 0 0] },g,d,tk,os⟩) l2 ys:=Heap.IsTuple.push (show hp.IsTuple l2 ys from q2) _
    wp_walk using wpAny_pyIter_tuple g1,wpAny_pyIter_tuple g2
    exact⟨_,rfl,h⟩
theorem yte {h:Heap}{b:Bool}{it a:Addr}(e:h.get? it=some { cls:=.type (ytd b),data:=.fields #[.ref a,.int 0 0] }):SqI h b it a 0:=by
 cases b with
 |true=>exact(show h.IsListIter it a 0 from ⟨_,e,rfl,rfl⟩)
 |false=>exact(show h.IsTupleIter it a 0 from ⟨_,e,rfl,rfl⟩)
section
variable {prog:Program}{w:World}{A:Around}{E:Value→Shared→Prop}{s:Shared}
theorem ytf {b1 b2:Bool}{l1 l2:Addr}{xs ys:Array Value}{Q:Value→Shared→Prop}(q1:SqH s.heap b1 l1 xs)(q2:SqH s.heap b2 l2 ys)
 (hq:∀h',IsZip h' (s.heap.objs.size+4) (s.heap.objs.size+2) (s.heap.objs.size+3) .none→IsPair h' (s.heap.objs.size+2) (.ref s.heap.objs.size) (.ref (s.heap.objs.size+1))→IsPair h' (s.heap.objs.size+3) .none .none→
  SqI h' b1 s.heap.objs.size l1 0→SqI h' b2 (s.heap.objs.size+1) l2 0→(∀c o,s.heap.get? c=some o→h'.get? c=some o)→Q (.ref (s.heap.objs.size+4)) { s with heap:=h' }) :
 wpAny (model prog w) A (call (.type "zip") [.ref l1,.ref l2]) Q E s:=by
 refine callType_new F.called_zip (by decide) (F.typeCall_zip_2 _ _) (F.newCall_zip_2 _ _) (fun obj=>F.args_object_init_3 obj _ _) F.entry_zip_new (yvt b1 b2 l1 l2 xs ys) ⟨q1,q2,?_⟩
 have n1:(zg1 s.heap b1 l1).objs.size=s.heap.objs.size+1:=Heap.size_push ..
 have n2:(zg2 s.heap b1 b2 l1 l2).objs.size=s.heap.objs.size+2:=by rw[Heap.size_push,n1]
 have n3:(zg3 s.heap b1 b2 l1 l2).objs.size=s.heap.objs.size+3:=by rw[Heap.size_push,n2]
 have n4:(zg4 s.heap b1 b2 l1 l2).objs.size=s.heap.objs.size+4:=by rw[Heap.size_push,n3]
 have p5:(zg5 s.heap b1 b2 l1 l2).get? (zg4 s.heap b1 b2 l1 l2).objs.size=some _:=Heap.get?_push_size _ rfl
 have p4:(zg5 s.heap b1 b2 l1 l2).get? (zg3 s.heap b1 b2 l1 l2).objs.size=some _:=Heap.get?_push_of_some _ (Heap.get?_push_size _ rfl)
 have p3:(zg5 s.heap b1 b2 l1 l2).get? (zg2 s.heap b1 b2 l1 l2).objs.size=some _:=Heap.get?_push_of_some _ (Heap.get?_push_of_some _ (Heap.get?_push_size _ rfl))
 have p2:(zg5 s.heap b1 b2 l1 l2).get? (zg1 s.heap b1 l1).objs.size=some _:=Heap.get?_push_of_some _ (Heap.get?_push_of_some _ (Heap.get?_push_of_some _ (Heap.get?_push_size _ rfl)))
 have p1:(zg5 s.heap b1 b2 l1 l2).get? s.heap.objs.size=some _:=Heap.get?_push_of_some _ (Heap.get?_push_of_some _ (Heap.get?_push_of_some _ (Heap.get?_push_of_some _ (Heap.get?_push_size _ rfl))))
 rw[n2,n3,n4] at p5
 rw[n1,n2] at p3
 rw[n3] at p4
 rw[n1] at p2
 show _∧_
 rw[n4]
 exact⟨⟨_,p5,rfl⟩,hq _ p5 p3 p4 (yte p1) (yte p2) fun c o e=>Heap.get?_push_of_some _ (Heap.get?_push_of_some _ (Heap.get?_push_of_some _ (Heap.get?_push_of_some _ (Heap.get?_push_of_some _ e))))⟩
variable {z TI TO i1 i2 l1 l2:Addr}{b1 b2:Bool}{k1 k2:Nat}{xs ys:Array Value}{x y a b:Value}
theorem ynl {Q:Option Value→Shared→Prop}(D:ZipApart z TI TO i1 i2 l1 l2)(hz:IsZip s.heap z TI TO .none)(hTI:IsPair s.heap TI (.ref i1) (.ref i2))(hTO:IsPair s.heap TO a b)
 (h1:SqI s.heap b1 i1 l1 k1) (h2:SqI s.heap b2 i2 l2 k2) (hl1:SqH s.heap b1 l1 xs) (hl2:SqH s.heap b2 l2 ys) (hx:xs[k1]? = some x) (hy:ys[k2]? = some y)
 (hq:∀h',IsZip h' z TI TO (rawInt s.heap.objs.size)→IsPair h' TO x y→SqI h' b1 i1 l1 (k1+1)→SqI h' b2 i2 l2 (k2+1)→IsPair h' s.heap.objs.size x y→
  (∀c o,c≠z→c≠TO→c≠i1→c≠i2→s.heap.get? c=some o→h'.get? c=some o)→Q (some (.ref s.heap.objs.size)) { s with heap:=h' }):wpAny (model prog w) A (pyNext (.ref z)) Q E s:=by
 have ty:s.TypeIs (.ref z) "zip" := ⟨_,hz,rfl⟩
 (unfold pyNext;exact zwb0 (wpAny_attempt (wpAny_callSpecial?_slot (name:=Str.ofString "__next__") ty F.slot_zip_next (wpAny_call_entry F.slot_zip_next ty F.entry_zip_next (ytc D hz hTI hTO h1 h2 hl1 hl2 hx hy fun h' a1 a2 a3 a4 a5 _ a7=>zwp0 (hq h' a1 a2 a3 a4 a5 a7)) (F.args_zip_next_1 _)))))
theorem yo3 {Q:Option Value→Shared→Prop}(hh:A.handled=none)(D:ZipApart z TI TO i1 i2 l1 l2)(hz:IsZip s.heap z TI TO .none)(hTI:IsPair s.heap TI (.ref i1) (.ref i2))(hTO:IsPair s.heap TO a b)
 (h1:SqI s.heap b1 i1 l1 k1) (h2:SqI s.heap b2 i2 l2 k2) (hl1:SqH s.heap b1 l1 xs) (hl2:SqH s.heap b2 l2 ys) (hend:xs[k1]? = none∨ys[k2]? = none)
 (hq:∀h',(∀c o,c≠z→c≠TO→c≠i1→c≠i2→s.heap.get? c=some o→h'.get? c=some o)→Q none { s with heap:=h' }):wpAny (model prog w) A (pyNext (.ref z)) Q E s:=by
 have ty:s.TypeIs (.ref z) "zip" := ⟨_,hz,rfl⟩
 (unfold pyNext;refine zwb0 (wpAny_attempt (wpAny_callSpecial?_slot (name:=Str.ofString "__next__") ty F.slot_zip_next (wpAny_call_entry F.slot_zip_next ty F.entry_zip_next (yvs hh D hz hTI hTO h1 h2 hl1 hl2 hend fun h' e hk ⟨o,ho,hc⟩=>?_) (F.args_zip_next_1 _)))))
 exact zwb0 (wpAny_isInstance (T := "StopIteration") (b:=true) ⟨o,ho,hc⟩ isSubtype_stop (zwp0 (hq _ hk)))
end
end L2
namespace L2
open PySem PySem.Spec PyProof.Rows
def SqB (K:PySem.W.Frag)(H:Hp)(b:Bool)(a:Addr)(xs:List V):Prop:=match b with
 |true=>SqL K H a xs
 |false=>SqT K H a xs
section
variable {X:Cx}{pins:List (Addr×Obj)}{σ:St}{H:Hp}{s:Shared}
theorem Inv.sqB {b:Bool}{a:Addr}{xs:List V}(I:Inv X pins σ H s)(h:SqB X.K H b a xs):∃its:List Value,Vals xs its∧SqH s.heap b a its.toArray:=by
 cases b with
 |true=>obtain ⟨its,r,p,_⟩:=I.list h;exact⟨its,r,p.isList⟩
 |false=>obtain ⟨its,r,p,_⟩:=I.tuple h;exact⟨its,r,p⟩
theorem Inv.sqB_inj {b:Bool}{a:Addr}{xs ys:List V}(I:Inv X pins σ H s)(h:SqB X.K H b a xs)(h':SqB X.K H b a ys):xs=ys:=by
 cases b with
 |true=>exact I.list_inj h h'
 |false=>exact I.tuple_inj h h'
theorem Inv.turnedL {h':Heap}{t':Nat}{ch:List Addr}(I:Inv X pins σ H s)(hf:∀b∈ch,ygv X pins H b)(k:∀b o,b ∉ ch→s.heap.get? b=some o→h'.get? b=some o):Inv X pins σ H { s with heap:=h',toks:=t' }:=by
 have nt:∀b u,H b=some u→b ∉ ch:=fun b u e z=>by rw[(hf b z).1] at e;cases e
 have hL:X.env.locals ∉ ch:=fun z=>(hf _ z).2.1 rfl
 refine I.step (g':=s.gens) (d':=s.drawn) (ch:=ch) (fun b hb=>⟨(hf b hb).2.2.2.1,(hf b hb).2.1,(hf b hb).2.2.2.2.1,(hf b hb).2.2.2.2.2⟩) (fun b o _ _ hc e _=>k b o hc e) (fun b o _ _ hc e _=>⟨o.slots,k b o hc e⟩) (fun _ _ _ _ n=>n)
  (fun b o hc e=>⟨o,k b o hc e⟩) (fun _ _ e=>e) (fun _ _ _ e=>e) (fun b ps e=>⟨#[],by rw[e];simp⟩) (fun m hm=>?_) (fun b u e=>?_) I.bare
 ·obtain ⟨o,es,ep,ho,r⟩:=hm
  exact⟨o,es,ep,k _ o hL ho,r⟩
 ·refine(I.hok b u e).stay (fun c v hc q=>k c v ?_ q) (fun _ q=>q) fun _ _ q=>q
  rcases hc with z|z
  ·rw[z];exact nt b u e
  ·exact nt c _ z
theorem Inv.trackNew {h':Heap}{t':Nat}{a:Addr}{o:HO}(I0:Inv X pins σ H s)(I:Inv X pins σ H { s with heap:=h',toks:=t' })(ha:s.heap.objs.size≤a)(new:ObjOk X.prog X.w (upd H a o) h' a o):Inv X pins σ (upd H a o) { s with heap:=h',toks:=t' }:=by
 refine I.track (Heap.get?_none_of_le (Nat.le_trans I0.sz ha)) (I0.hok.fresh ha) (Nat.ne_of_gt (Nat.lt_of_lt_of_le I0.lt ha)) (fun x c e z=>?_) (fun p hp z=>?_) new
 ·obtain ⟨v,q⟩:=I0.cell x c e
  exact absurd (Nat.lt_of_lt_of_le q.lt (by rw[z];exact ha)) (Nat.lt_irrefl _)
 ·exact absurd (Nat.lt_of_lt_of_le (Heap.lt_size (I0.pin p hp).1) (by rw[z];exact ha)) (Nat.lt_irrefl _)
end
def Itz (K:PySem.W.Frag)(b1 b2:Bool)(l1 l2:Addr):It:=
 ⟨fun i H=>∃xs ys x y,SqB K H b1 l1 xs∧SqB K H b2 l2 ys∧xs[i]? = some x∧ys[i]? = some y,
  fun i H v H'=>∃p x y,v = .ref p∧H p=none∧H' = upd H p (.tup [x,y])∧∀xs ys,SqB K H b1 l1 xs→SqB K H b2 l2 ys→xs[i]? = some x∧ys[i]? = some y,
  fun i H=>∃xs ys,SqB K H b1 l1 xs∧SqB K H b2 l2 ys∧(xs.length≤i∨ys.length≤i)⟩
def zby (z TI TO i1 i2 l1 l2:Addr)(b1 b2:Bool)(i:Nat)(h:Heap):Prop:=IsZip h z TI TO .none∧IsPair h TI (.ref i1) (.ref i2)∧(∃a b,IsPair h TO a b)∧SqI h b1 i1 l1 i∧SqI h b2 i2 l2 i
theorem yvu {P:Program}{w:World}{K:PySem.W.Frag}{es:List Expr}{x1:Nat}{tp:Pos}{z TI TO i1 i2 l1 l2:Addr}{b1 b2:Bool}(D:ZipApart z TI TO i1 i2 l1 l2) :
 Turn P w K (.Tuple es x1 tp) (Itz K b1 b2 l1 l2) [z,TI,TO,i1,i2] z (zby z TI TO i1 i2 l1 l2 b1 b2) where
 mem:=by simp
 obj:=fun i h ⟨t1,t2,⟨a,b,t3⟩,t4,t5⟩ c hc=>by
  simp only[List.mem_cons,List.not_mem_nil,or_false] at hc
  rcases hc with rfl|rfl|rfl|rfl|rfl
  ·exact⟨_,t1,fun v q=>by cases q⟩
  ·exact⟨_,t2,fun v q=>by cases q⟩
  ·exact⟨_,t3,fun v q=>by cases q⟩
  ·obtain ⟨o,e,vs,d⟩:=t4.obj;exact⟨o,e,fun v q=>by rw[d] at q;cases q⟩
  ·obtain ⟨o,e,vs,d⟩:=t5.obj;exact⟨o,e,fun v q=>by rw[d] at q;cases q⟩
 keep:=fun i h h' ⟨t1,t2,⟨a,b,t3⟩,t4,t5⟩ k=>⟨k z (by simp) _ t1,k TI (by simp) _ t2,⟨a,b,k TO (by simp) _ t3⟩,t4.keep fun o e=>k i1 (by simp) o e,t5.keep fun o e=>k i2 (by simp) o e⟩
 item:=by
  intro X hP hw hK hc i pins s σ H E I hf st hg
  subst hP hw hK
  obtain ⟨t1,t2,⟨a,b,t3⟩,t4,t5⟩:=st
  obtain ⟨xs,ys,x,y,q1,q2,e1,e2⟩:=hg
  obtain ⟨us,r1,p1⟩:=I.sqB q1
  obtain ⟨vs,r2,p2⟩:=I.sqB q2
  obtain ⟨u,eu,ru⟩:=r1.get e1
  obtain ⟨v,ev,rv⟩:=r2.get e2
  refine ynl (x:=u) (y:=v) D t1 t2 t3 t4 t5 p1 p2 (by simpa using eu) (by simpa using ev) fun h' a1 a2 a3 a4 a5 a7=>?_
  refine⟨_,rfl,wpAny_letOwnedTupleGo_zip a1 fun h'' c1 c2=>?_⟩
  have nz:s.heap.objs.size≠z:=Nat.ne_of_gt (Heap.lt_size t1)
  have I1:Inv X pins σ H { s with heap:=h'',toks:=s.toks }:=I.turnedL hf fun c o hc q=>by
   simp only[List.mem_cons,List.not_mem_nil,or_false,not_or] at hc
   exact c2.extBut c o hc.1 (a7 c o hc.1 hc.2.2.1 hc.2.2.2.1 hc.2.2.2.2 q)
  have I2:=I.trackNew (t':=s.toks) (o:=.tup [x,y]) I1 (Nat.le_refl _) ⟨by show 2≤sizeLine;decide,[u,v],.cons ru (.cons rv .nil),⟨_,c2.extBut _ _ nz a5,rfl,_,rfl⟩⟩
  have fr:H s.heap.objs.size=none:=I.hok.fresh (Nat.le_refl _)
  refine⟨.ref s.heap.objs.size,_,I2,rfl,⟨s.heap.objs.size,x,y,rfl,fr,rfl,fun xs' ys' q1' q2'=>⟨by rw[I.sqB_inj q1' q1];exact e1,by rw[I.sqB_inj q2' q2];exact e2⟩⟩,⟨c1,c2.extBut _ _ D.TIz (a7 TI _ D.TIz D.TITO D.TIi1 D.TIi2 t2),⟨u,v,c2.extBut _ _ D.TOz a2⟩,a3.ext c2.extBut D.i1z,a4.ext c2.extBut D.i2z⟩,fun c hc=>?_⟩
  obtain ⟨o,eo⟩ : ∃o,s.heap.get? c=some o:=by
   simp only[List.mem_cons,List.not_mem_nil,or_false] at hc
   rcases hc with rfl|rfl|rfl|rfl|rfl
   ·exact⟨_,t1⟩
   ·exact⟨_,t2⟩
   ·exact⟨_,t3⟩
   ·obtain ⟨o,e,_⟩:=t4.obj;exact⟨o,e⟩
   ·obtain ⟨o,e,_⟩:=t5.obj;exact⟨o,e⟩
  rw[yal (Nat.ne_of_lt (Heap.lt_size eo))]
  exact(hf c hc).1
 done:=by
  intro X hP hw hK hc i pins s σ H E I hf st hg
  subst hP hw hK
  obtain ⟨t1,t2,⟨a,b,t3⟩,t4,t5⟩:=st
  obtain ⟨xs,ys,q1,q2,hl⟩:=hg
  obtain ⟨us,r1,p1⟩:=I.sqB q1
  obtain ⟨vs,r2,p2⟩:=I.sqB q2
  have n1:=r1.length
  have n2:=r2.length
  refine yo3 (I.ok.hd hc) D t1 t2 t3 t4 t5 p1 p2 ?_ fun h' kk=>⟨rfl,I.turnedL (t':=s.toks) hf fun c o hc q=>?_⟩
  ·rcases hl with z|z
   ·exact .inl (by simp;omega)
   ·exact .inr (by simp;omega)
  ·simp only[List.mem_cons,List.not_mem_nil,or_false,not_or] at hc
   exact kk c o hc.1 hc.2.2.1 hc.2.2.2.1 hc.2.2.2.2 q
 self:=fun _ _ _ _ _ st h=>wpAny_pyIter_zip st.1 h
section
variable {X:Cx}{es:List Expr}{x1:Nat}{tp:Pos}
def zc7 (K:PySem.W.Frag)(ta:TA):TI:=fun σ H R=>ta σ H fun vs H1=>∃b1 b2 l1 l2 xs ys,vs=[.ref l1,.ref l2]∧SqB K H1 b1 l1 xs∧SqB K H1 b2 l2 ys∧R (Itz K b1 b2 l1 l2) H1
theorem yqe {a b:Expr}{ta:TA}{p pos:Pos} (hg:Gl X "zip") (hm:X.mg "zip" = none) (ha:PA X [a,b] ta) (hs:starEach [a,b] X.env=[(false,eval a X.env),(false,eval b X.env)]:=by rfl) (hs2:starEach [b] X.env=[(false,eval b X.env)]:=by rfl) :
 PI X (.Tuple es x1 tp) (.Call (.Name "zip" p) [a,b] [] pos) (zc7 X.K ta):=by
 intro pins s σ H R I h
 refine Call_ (yiz I hg hm boot_zip (PyProof.Rows.callWith_type1 (thn (ha pos pins s σ H _ I h) fun us s1 ⟨vs,H1,I1,r1,q1⟩=>?_) (by rw[hs,hs2]) (by rw[hs2];rfl)))
 obtain ⟨b1,b2,l1,l2,xs,ys,rfl,q1,q2,q⟩:=q1
 obtain ⟨u,v,rfl,ru,rv⟩:=r1.two
 cases ru;cases rv
 obtain ⟨us1,_,p1⟩:=I1.sqB q1
 obtain ⟨us2,_,p2⟩:=I1.sqB q2
 have n1:l1<s1.heap.objs.size:=by
  cases b1 with
  |true=>obtain ⟨o,e,_⟩:=(show s1.heap.IsList l1 _ from p1);exact Heap.lt_size e
  |false=>obtain ⟨o,e,_⟩:=(show s1.heap.IsTuple l1 _ from p1);exact Heap.lt_size e
 have n2:l2<s1.heap.objs.size:=by
  cases b2 with
  |true=>obtain ⟨o,e,_⟩:=(show s1.heap.IsList l2 _ from p2);exact Heap.lt_size e
  |false=>obtain ⟨o,e,_⟩:=(show s1.heap.IsTuple l2 _ from p2);exact Heap.lt_size e
 refine ytf p1 p2 fun h' a1 a2 a3 a4 a5 kk=>?_
 refine wpAny_pyIter_zip a1 ?_
 have I2:Inv X pins σ H1 { s1 with heap:=h',toks:=s1.toks }:=I1.kept kk
 refine⟨_,[s1.heap.objs.size+4,s1.heap.objs.size+2,s1.heap.objs.size+3,s1.heap.objs.size,s1.heap.objs.size+1],_,_,H1,rfl,I2,yvu (zipApart_new n1 n2),⟨a1,a2,⟨_,_,a3⟩,a4,a5⟩,fun c hc=>?_,q⟩
 have hge:s1.heap.objs.size≤c:=by
  simp only[List.mem_cons,List.not_mem_nil,or_false] at hc
  rcases hc with rfl|rfl|rfl|rfl|rfl <;> omega
 exact I1.fpOk (H':=H1) hge (I1.hok.fresh hge)
end
section
variable {X:Cx}
theorem yhq:∀{bs:List Bool}{us:List Value},Vals (bs.map V.bl) us→us=bs.map Value.bool
 |[],_,.nil=>rfl
 |b::r,_,.cons x t=>by rw[show _=Value.bool b from x,yhq t];rfl
theorem ytg {bs:List Bool}:(List.range bs.length).all (fun i=>bs.getD i false)=bs.all id:=by
 rw[Bool.eq_iff_iff,List.all_eq_true,List.all_eq_true]
 constructor
 ·intro h b hb
  obtain ⟨i,hi,rfl⟩:=List.mem_iff_getElem.mp hb
  have:=h i (List.mem_range.mpr hi)
  simpa [List.getD_eq_getElem?_getD,hi] using this
 ·intro h i hi
  have hi':=List.mem_range.mp hi
  have:=h _ (List.getElem_mem hi')
  simpa [List.getD_eq_getElem?_getD,hi'] using this
theorem yth {bs:List Bool}:(List.range bs.length).any (fun i=>bs.getD i false)=bs.any id:=by
 rw[Bool.eq_iff_iff,List.any_eq_true,List.any_eq_true]
 constructor
 ·rintro ⟨i,hi,h⟩
  have hi':=List.mem_range.mp hi
  exact⟨_,List.getElem_mem hi',by simpa [List.getD_eq_getElem?_getD,hi'] using h⟩
 ·rintro ⟨b,hb,h⟩
  obtain ⟨i,hi,rfl⟩:=List.mem_iff_getElem.mp hb
  exact⟨i,List.mem_range.mpr hi,by simpa [List.getD_eq_getElem?_getD,hi] using h⟩
theorem yqf {bs:List Bool}{i:Nat}{v:Value}(h:(bs.map Value.bool).toArray[i]? = some v):v = .bool (bs.getD i false):=by
 have h':(bs.map Value.bool)[i]? = some v:=by simpa using h
 rw[List.getElem?_map] at h'
 cases e:bs[i]? with
 |none=>rw[e] at h';cases h'
 |some b=>
  rw[e] at h'
  rw[List.getD_eq_getElem?_getD,e]
  exact(Option.some.inj h').symm
theorem ynm (hc:X.calm=true):ygw X (.builtin "all") (fun xs H Q=>∃(p:Addr) (bs:List Bool),xs=[.ref p]∧SqL X.K H p (bs.map V.bl)∧Q (.bl (bs.all id)) H):=by
 intro pins s σ H xs us Q I r h
 obtain ⟨p,bs,rfl,hq,q⟩:=h
 obtain ⟨u,rfl,ru⟩:=r.one
 cases ru
 obtain ⟨its,rv,pl,hz⟩:=I.list hq
 have e:=yhq rv
 subst e
 have nl:p≠s.heap.objs.size:=by obtain ⟨o,e,_⟩:=pl.isList;exact Nat.ne_of_lt (Heap.lt_size e)
 refine call_all_walk (wpAny_pyIter_list pl.isList ?_)
 refine⟨s.heap.objs.size,_,_,_,_,_,fun i=>bs.getD i false,rfl,Walks.list (A:=X.A.in1) (I.ok.hd hc) s.heap.objs.size p nl (bs.map Value.bool).toArray,⟨⟨_,Heap.get?_push_size _ rfl,rfl,rfl⟩,pl.isList.push _⟩,?_,fun h' tk k=>?_⟩
 ·intro i v s' Q' E' hP hq'
  rw[yqf hP]
  exact zwp0 hq'
 ·have e2:(bs.map Value.bool).toArray.size=bs.length:=by simp
  rw[e2,ytg]
  refine⟨.bl _,H,I.kept (t':=tk) (h':=h') fun b o e=>k b o ?_ (Heap.get?_push_of_some _ e),rfl,q⟩
  intro z
  have z':b=s.heap.objs.size:=by simpa using z
  exact absurd (Heap.lt_size e) (by rw[z'];exact Nat.lt_irrefl _)
theorem yti (hc:X.calm=true):ygw X (.builtin "any") (fun xs H Q=>∃(p:Addr) (bs:List Bool),xs=[.ref p]∧SqL X.K H p (bs.map V.bl)∧Q (.bl (bs.any id)) H):=by
 intro pins s σ H xs us Q I r h
 obtain ⟨p,bs,rfl,hq,q⟩:=h
 obtain ⟨u,rfl,ru⟩:=r.one
 cases ru
 obtain ⟨its,rv,pl,hz⟩:=I.list hq
 have e:=yhq rv
 subst e
 have nl:p≠s.heap.objs.size:=by obtain ⟨o,e,_⟩:=pl.isList;exact Nat.ne_of_lt (Heap.lt_size e)
 refine call_any_walk (wpAny_pyIter_list pl.isList ?_)
 refine⟨s.heap.objs.size,_,_,_,_,_,fun i=>bs.getD i false,rfl,Walks.list (A:=X.A.in1) (I.ok.hd hc) s.heap.objs.size p nl (bs.map Value.bool).toArray,⟨⟨_,Heap.get?_push_size _ rfl,rfl,rfl⟩,pl.isList.push _⟩,?_,fun h' tk k=>?_⟩
 ·intro i v s' Q' E' hP hq'
  rw[yqf hP]
  exact zwp0 hq'
 ·have e2:(bs.map Value.bool).toArray.size=bs.length:=by simp
  rw[e2,yth]
  refine⟨.bl _,H,I.kept (t':=tk) (h':=h') fun b o e=>k b o ?_ (Heap.get?_push_of_some _ e),rfl,q⟩
  intro z
  have z':b=s.heap.objs.size:=by simpa using z
  exact absurd (Heap.lt_size e) (by rw[z'];exact Nat.lt_irrefl _)
theorem ynn {x:V}:∀{xs:List V}{us:List Value},Vals xs us→xs.all yho=true→us.countP (eqU x)=xs.countP fun y=>eqV y x
 |_,_,.nil,_=>rfl
 |y::xs,u::us,.cons r t,f=>by
  rw[List.all_cons,Bool.and_eq_true] at f
  rw[List.countP_cons,List.countP_cons,yqd r f.1,ynn t f.2]
def zad:V→List V→Hp→VK→Prop:=fun x vs H Q=>∃l xs y,x = .ref l∧vs=[y]∧H l=some (.lst xs)∧yho y=true∧xs.all yho=true∧Q (.int ((xs.countP fun z=>eqV z y:Nat):Int)) H
theorem yvv:MtM X "list.count" zad:=by
 intro pins s σ H x vs v us Q I rx rv h
 obtain ⟨l,xs,y,rfl,rfl,hH,fy,fs,q⟩:=h
 cases rx
 obtain ⟨u,rfl,ru⟩:=rv.one
 obtain ⟨z,its,n,r,hl,e⟩:=I.lstM hH
 refine call_meets F.slot_list_count ⟨_,e,rfl⟩ F.entry_list_count (F.args_list_count_2 _ _) (SeqAt.list_countAt l its.toArray n none #[] u (eqU y)) ⟨e,fun w hw=>ylu ru fy r fs w (by simpa using hw),?_⟩
 refine⟨.int _,H,I.tok _,⟨_,rfl⟩,?_⟩
 rw[show its.toArray.toList=its by simp,ynn r fs]
 exact q
def zae:V→List V→Hp→VK→Prop:=fun x vs H Q=>∃l xs y j,x = .ref l∧vs=[y]∧H l=some (.lst xs)∧yho y=true∧xs.all yho=true∧(∃z,xs[j]? = some z∧eqV z y=true)∧(∀m z,m<j→xs[m]? = some z→eqV z y=false)∧Q (.int (j:Nat)) H
theorem yvw:MtM X "list.index" zae:=by
 intro pins s σ H x vs v us Q I rx rv h
 obtain ⟨l,xs,y,j,rfl,rfl,hH,fy,fs,⟨zj,ej,hj⟩,hno,q⟩:=h
 cases rx
 obtain ⟨u,rfl,ru⟩:=rv.one
 obtain ⟨z,its,n,r,hl,e⟩:=I.lstM hH
 have fl:∀(m:Nat) w,xs[m]? = some w→yho w=true:=fun m w em=>List.all_eq_true.mp fs w (List.mem_of_getElem? em)
 obtain ⟨uj,euj,ruj⟩:=r.get ej
 obtain ⟨hlt,eget⟩:=List.getElem?_eq_some_iff.mp euj
 have hs63:(sizeLine:Nat)<2 ^ 62:=by decide
 refine call_meets F.slot_list_index ⟨_,e,rfl⟩ F.entry_list_index (F.args_list_index_2 _ _)
  (SeqAt.list_indexAt l its.toArray n none #[] u (eqU y) j (by simpa using hlt) (by omega) ?_ ?_) ⟨e,fun w hw=>ylu ru fy r fs w (by simpa using hw),⟨.int _,H,I.tok _,⟨_,rfl⟩,q⟩⟩
 ·show eqU y (its.toArray[j]'(by simpa using hlt))=true
  rw[List.getElem_toArray,eget,yqd ruj (fl j zj ej)]
  exact hj
 ·intro m hm hmj
  have hm':m<xs.length:=by rw[hl];simpa using hm
  have em:xs[m]? = some xs[m]:=List.getElem?_eq_getElem hm'
  obtain ⟨um,eum,rum⟩:=r.get em
  obtain ⟨hlt',eget'⟩:=List.getElem?_eq_some_iff.mp eum
  rw[List.getElem_toArray,eget',yqd rum (fl m _ em)]
  exact hno m _ hmj em
def zbz (i j:Int):Prop:=0<j∧j<18446744073709551616
theorem yqg:OpR X (binaryOp .FloorDiv) (rI zbz fun i j=>.int (i / j)):=opI fun i j _ _ _ _ _ hc q=>by
 have hj:j.natAbs.log2<9000:=by
  have h0:j.natAbs≠0:=by have:=hc.1;omega
  have h1:j.natAbs<2 ^ 64:=by
   have h2:=hc.1
   have h3:j<2 ^ 64:=hc.2
   omega
  have:=(Nat.log2_lt h0).mpr h1
  omega
 have e:i / j=i.fdiv j:=(Int.fdiv_eq_ediv_of_nonneg i (Int.le_of_lt hc.1)).symm
 rw[e] at q
 exact floordiv_int (by have:=hc.1;omega) q (.inl (PyProof.noPylong_of_log2 hj))
def zcr:V→Option Value
 |.ty n=>some (.type n)
 |.ref a=>some (.ref a)
 |_=>none
theorem yvx {c:V}{u w:Value}(r:RelV c u)(h:zcr c=some w):u=w:=by
 cases c with
 |ty n=>cases h;exact r
 |ref a=>cases h;exact r
 |_=>cases h
def zc8 (K:PySem.W.Frag):List V→Hp→VK→Prop:=fun xs H Q=>∃a c D w b,xs=[.ref a,c]∧zcr c=some w∧H a=some (.ext (IsX a (.ref D)))∧XCls K D∧PySem.W.kitOne K (.ref D) w=some b∧Q (.bl b) H
theorem yej:ygw X (.builtin "isinstance") (zc8 X.K):=by
 intro pins s σ H xs us Q I r h
 obtain ⟨a,c,D,w,b,rfl,hw,hH,hx,e,q⟩:=h
 obtain ⟨u,v,rfl,ru,rv⟩:=r.two
 rw[yvx rv hw]
 cases ru
 obtain ⟨p,_,_⟩:=I.hok a _ hH
 exact yz9 I.kIn hx p e fun tk=>⟨.bl b,H,I.tok tk,rfl,q⟩
end
section
variable {X:Cx}{pins:List (Addr×Obj)}{σ:St}{H:Hp}{s:Shared}
end
theorem yad {H:Hp}{p:Addr}(h:H p=none)(o:HO):Same H (upd H p o):=fun b u q=>by rw[yal (yak q h)];exact q
def ytj:Expr→Bool
 |.Starred ..=>false
 |_=>true
theorem yrm {e:Expr}{es:List Expr}{env:Env}(h:ytj e=true):starEach (e::es) env=(false,eval e env)::starEach es env:=by
 cases e <;> first|rfl|cases h
theorem yaj {X:Cx}{e:Expr}{es:List Expr}{te:TE}{t:TA}(ha:PE X e te)(hr:PA X es t)(hn:ytj e=true:=by rfl):PA X (e::es) (ybn te t):=yx6 ha hr (yrm hn)
inductive EqB (K:PySem.W.Frag) (H:Hp):Nat→V→V→Bool→Prop
 |flat {n:Nat}{x y:V} (hx:yho x=true) (hy:yho y=true):EqB K H n x y (eqV x y)
 |same {n:Nat}{p:Addr}:EqB K H n (.ref p) (.ref p) true
 |tup {n:Nat}{a b:Addr}{xs ys:List V} (e:Nat→Bool) (hn:a≠b) (h1:SqT K H a xs) (h2:SqT K H b ys) (he:∀j x y,xs[j]? = some x→ys[j]? = some y→EqB K H n x y (e j)):EqB K H (n+1) (.ref a) (.ref b) ((List.range (min xs.length ys.length)).all e&&xs.length == ys.length)
 |lst {n:Nat}{a b:Addr}{xs ys:List V} (e:Nat→Bool) (hn:a≠b) (hl:xs.length=ys.length) (h1:SqL K H a xs) (h2:SqL K H b ys) (he:∀j x y,xs[j]? = some x→ys[j]? = some y→EqB K H n x y (e j)):EqB K H (n+1) (.ref a) (.ref b) ((List.range xs.length).all e)
 |lsn {n:Nat}{a b:Addr}{xs ys:List V} (hl:xs.length≠ys.length) (h1:SqL K H a xs) (h2:SqL K H b ys):EqB K H (n+1) (.ref a) (.ref b) false
theorem yi5 {A:Around}:A.in1.units=A.units+1:=rfl
section
variable {X:Cx}{pins:List (Addr×Obj)}{σ:St}{H:Hp}{s:Shared}
theorem yhr {A:Around}{n:Nat}{xs ys:List V}{us vs:List Value}{e:Nat→Bool}(rx:Vals xs us)(ry:Vals ys vs)(h:∀j x y u v,xs[j]? = some x→ys[j]? = some y→RelV x u→RelV y v→SeqAt.EqAt A s u v (e j)) :
 ∀j (h1:j<us.toArray.size) (h2:j<vs.toArray.size),SeqAt.EqAt A s us.toArray[j] vs.toArray[j] (e j):=fun j h1 h2=>by
 have l1:=rx.length
 have l2:=ry.length
 have g1:j<xs.length:=by simp at h1;omega
 have g2:j<ys.length:=by simp at h2;omega
 obtain ⟨u,eu,ru⟩:=rx.get (List.getElem?_eq_getElem g1)
 obtain ⟨v,ev,rv⟩:=ry.get (List.getElem?_eq_getElem g2)
 have e1:us.toArray[j]=u:=by
  have:=List.getElem?_eq_some_iff.mp eu
  obtain ⟨_,e⟩:=this
  simpa using e
 have e2:vs.toArray[j]=v:=by
  have:=List.getElem?_eq_some_iff.mp ev
  obtain ⟨_,e⟩:=this
  simpa using e
 rw[e1,e2]
 exact h j _ _ u v (List.getElem?_eq_getElem g1) (List.getElem?_eq_getElem g2) ru rv
theorem EqB.eqAt (I:Inv X pins σ H s){n:Nat}{x y:V}{b:Bool}(h:EqB X.K H n x y b):∀(A:Around) (u v:Value),A.units+n<cLine→RelV x u→RelV y v→SeqAt.EqAt A s u v b:=by
 induction h with
 |flat hx hy=>exact fun A u v _ rx ry=>yxl rx ry hx hy
 |same=>intro A u v _ rx ry;cases rx;cases ry;exact SeqAt.EqAt.same _
 |@tup n a b xs ys e hn h1 h2 he ih=>
  intro A u v hu rx ry
  cases rx;cases ry
  obtain ⟨us,r1,p1,_⟩:=I.tuple h1
  obtain ⟨vs,r2,p2,_⟩:=I.tuple h2
  refine SeqAt.EqAt.of_refs hn ?_
  have:=SeqAt.RcAt.tuples (s:=s) (A:=A) (e:=e) p1 p2 (by omega) (yhr (n:=n) r1 r2 fun j x y u v e1 e2 ru rv=>ih j x y e1 e2 A.in1 u v (by rw[yi5];omega) ru rv)
  have l1:=r1.length
  have l2:=r2.length
  simpa [l1,l2] using this
 |@lst n a b xs ys e hn hl h1 h2 he ih=>
  intro A u v hu rx ry
  cases rx;cases ry
  obtain ⟨us,r1,p1,_⟩:=I.list h1
  obtain ⟨vs,r2,p2,_⟩:=I.list h2
  have l1:=r1.length
  have l2:=r2.length
  refine SeqAt.EqAt.of_refs hn ?_
  have:=SeqAt.RcAt.lists (s:=s) (A:=A) (e:=e) p1.isList p2.isList (by simp;omega) (by omega) (yhr (n:=n) r1 r2 fun j x y u v e1 e2 ru rv=>ih j x y e1 e2 A.in1 u v (by rw[yi5];omega) ru rv)
  simpa [l1,l2] using this
 |@lsn n a b xs ys hl h1 h2=>
  intro A u v hu rx ry
  cases rx;cases ry
  have hn:a≠b:=fun z=>by subst z;exact hl (by rw[I.list_inj h1 h2])
  obtain ⟨us,r1,p1,_⟩:=I.list h1
  obtain ⟨vs,r2,p2,_⟩:=I.list h2
  have l1:=r1.length
  have l2:=r2.length
  refine SeqAt.EqAt.of_refs hn ?_
  exact SeqAt.RcAt.lists_lengths (s:=s) (A:=A) p1.isList p2.isList (by simp;omega) (by omega)
def zaf (K:PySem.W.Frag)(neg:Bool):R2:=fun x y H Q=>∃a b xs ys,x = .ref a∧y = .ref b∧SqL K H a xs∧SqL K H b ys∧
 ((xs.length≠ys.length∧Q (.bl neg) H)∨(xs.length=ys.length∧∃(n:Nat) (e:Nat→Bool),n≤32∧(∀j x y,xs[j]? = some x→ys[j]? = some y→EqB K H n x y (e j))∧Q (.bl (neg != (List.range xs.length).all e)) H))
theorem zag (hu:X.A.units+64<cLine):OpR X (compareOp .Eq) (zaf X.K false):=by
 intro pins s σ H x y v u Q I rx ry h
 obtain ⟨a,b,xs,ys,rfl,rfl,h1,h2,h⟩:=h
 cases rx;cases ry
 obtain ⟨us,r1,p1,_⟩:=I.list h1
 obtain ⟨vs,r2,p2,_⟩:=I.list h2
 have l1:=r1.length
 have l2:=r2.length
 rcases h with ⟨hl,q⟩ | ⟨hl,n,e,hn,he,q⟩
 ·exact SeqAt.RcAt.lists_lengths (s:=s) (A:=X.A) p1.isList p2.isList (by simp;omega) (by omega) _ _ _ _ ⟨.bl _,H,I,rfl,q⟩
 ·refine SeqAt.RcAt.lists (s:=s) (A:=X.A) (e:=e) p1.isList p2.isList (by simp;omega) (by omega) (yhr (n:=n) r1 r2 fun j x y u v e1 e2 ru rv=>(he j x y e1 e2).eqAt I _ u v (by rw[yi5];omega) ru rv) _ _ _ _ ⟨.bl _,H,I,rfl,?_⟩
  simpa [l1] using q
end
structure Cal (P:Program) (w:World) (K:PySem.W.Frag) (mg:Str→Option Value) (base:Heap) (CX:CXT) (k:Nat) (x:Str) (ps:List Str) (sp:Sp):Prop where
 ex:∃(f:Addr) (fd:FuncData),FnOk P w K mg base CX k f fd ps sp∧Binds K fd ps []∧PySem.W.keepIn K (.ref f)=true∧mg x=some (.ref f)
theorem yam {X:Cx}{CX:CXT}{k j:Nat}{ps:List Str}{sp:Sp}{E:XK}{x:Str}{p pos:Pos}{e:Expr}{es:List Expr}{t:TA}(F:Cal X.prog X.w X.K X.mg X.base CX k x ps sp)(hr:Room j X.A)(hg:Gl X x)(hx:yi1 CX X E)(ha:PA X (e::es) t)
 (hk:k≤j:=by decide) (hdb:(x == ("__debug__" : Str))=false:=by decide) (he:starEach (e::es) X.env=(false,eval e X.env)::starEach es X.env:=by rfl) (hpl:(backTo pos (starEach es X.env)).any (·.1)=false:=by rfl) :
 PE X (.Call (.Name x p) (e::es) [] pos) (ykf sp [] E t):=by
 obtain ⟨f,fd,h1,h2,h3,h4⟩:=F.ex
 exact yx7 (h1.mono hk) hr hg h4 h3 h2 .nil hx ha hdb he hpl
def Ite (K:PySem.W.Frag)(l:Addr):It:=
 ⟨fun i H=>∃xs x,SqL K H l xs∧xs[i]? = some x,
  fun i H v H'=>∃p x,v = .ref p∧H p=none∧H' = upd H p (.tup [.int i,x])∧∀xs,SqL K H l xs→xs[i]? = some x,
  fun i H=>∃xs,SqL K H l xs∧xs.length≤i⟩
def zb0 (e it l:Addr)(i:Nat)(h:Heap):Prop:=(∃old,IsEnum h e it i old)∧h.IsListIter it l i
theorem ytk {P:Program}{w:World}{K:PySem.W.Frag}{es:List Expr}{x1:Nat}{tp:Pos}{e it l:Addr}(ne:e≠it):Turn P w K (.Tuple es x1 tp) (Ite K l) [e,it] e (zb0 e it l) where
 mem:=by simp
 obj:=fun i h ⟨⟨old,t1⟩,t2⟩ c hc=>by
  simp only[List.mem_cons,List.not_mem_nil,or_false] at hc
  rcases hc with rfl|rfl
  ·exact⟨_,t1,fun v q=>by cases q⟩
  ·obtain ⟨o,h1,_,h3⟩:=t2;exact⟨o,h1,fun v q=>by rw[h3] at q;cases q⟩
 keep:=fun i h h' ⟨⟨old,t1⟩,t2⟩ k=>⟨⟨old,k e (by simp) _ t1⟩,Heap.IsListIter.at (h:=h) t2 fun o q=>k it (by simp) o q⟩
 item:=by
  intro X hP hw hK hc i pins s σ H E I hf st hg
  subst hP hw hK
  obtain ⟨⟨old,t1⟩,t2⟩:=st
  obtain ⟨xs,x,q1,e1⟩:=hg
  obtain ⟨us,r1,p1,_⟩:=I.list q1
  obtain ⟨u,eu,ru⟩:=r1.get e1
  refine wpAny_pyNext_enum_item t1 t2 p1.isList (x:=u) (by simpa using eu) ne fun h' a1 a2 a3 a4 a5=>?_
  refine⟨_,rfl,wpAny_letOwnedTupleGo_enum a1 fun h'' c1 c2=>?_⟩
  have nz:s.heap.objs.size≠e:=Nat.ne_of_gt (Heap.lt_size t1)
  have I1:Inv X pins σ H { s with heap:=h'',toks:=s.toks+1 }:=I.turnedL hf fun c o hc q=>by
   simp only[List.mem_cons,List.not_mem_nil,or_false,not_or] at hc
   exact c2.extBut c o hc.1 (a5 c o hc.1 hc.2 q)
  have I2:=I.trackNew (t':=s.toks+1) (o:=.tup [.int i,x]) I1 (Nat.le_refl _) ⟨by show 2≤sizeLine;decide,[.int i s.toks,u],.cons ⟨_,rfl⟩ (.cons ru .nil),⟨_,c2.extBut _ _ nz a3,rfl,_,rfl⟩⟩
  have fr:H s.heap.objs.size=none:=I.hok.fresh (Nat.le_refl _)
  refine⟨.ref s.heap.objs.size,_,I2,rfl,⟨s.heap.objs.size,x,rfl,fr,rfl,fun xs' q1'=>by rw[I.list_inj q1' q1];exact e1⟩,⟨⟨_,c1⟩,Heap.IsListIter.at (h:=h') a2 fun o q=>c2.extBut it o (Ne.symm ne) q⟩,fun c hc=>?_⟩
  obtain ⟨o,eo⟩ : ∃o,s.heap.get? c=some o:=by
   simp only[List.mem_cons,List.not_mem_nil,or_false] at hc
   rcases hc with rfl|rfl
   ·exact⟨_,t1⟩
   ·obtain ⟨o,h1,_⟩:=t2;exact⟨o,h1⟩
  rw[yal (Nat.ne_of_lt (Heap.lt_size eo))]
  exact(hf c hc).1
 done:=by
  intro X hP hw hK hc i pins s σ H E I hf st hg
  subst hP hw hK
  obtain ⟨⟨old,t1⟩,t2⟩:=st
  obtain ⟨xs,q1,hl⟩:=hg
  obtain ⟨us,r1,p1,_⟩:=I.list q1
  have n1:=r1.length
  refine wpAny_pyNext_enum_end (I.ok.hd hc) t1 t2 p1.isList (by simp;omega) fun h' kk=>⟨rfl,I.turnedL (t':=s.toks) hf fun c o hc q=>?_⟩
  simp only[List.mem_cons,List.not_mem_nil,or_false,not_or] at hc
  exact kk c o hc.2 q
 self:=fun _ _ _ _ _ st h=>by
  obtain ⟨⟨old,t1⟩,_⟩:=st
  exact wpAny_pyIter_enum t1 h
section
variable {X:Cx}{es:List Expr}{x1:Nat}{tp:Pos}
def zc9 (K:PySem.W.Frag)(ta:TA):TI:=fun σ H R=>ta σ H fun vs H1=>∃l xs,vs=[.ref l]∧SqL K H1 l xs∧R (Ite K l) H1
theorem yi6 {a:Expr}{ta:TA}{p pos:Pos} (hg:Gl X "enumerate") (hm:X.mg "enumerate" = none) (ha:PA X [a] ta) (hs:starEach [a] X.env=[(false,eval a X.env)]:=by rfl) :
 PI X (.Tuple es x1 tp) (.Call (.Name "enumerate" p) [a] [] pos) (zc9 X.K ta):=by
 intro pins s σ H R I h
 refine Call_ (yiz I hg hm boot_enumerate (PyProof.Rows.callWith_type1 (thn (ha pos pins s σ H _ I h) fun us s1 ⟨vs,H1,I1,r1,q1⟩=>?_) hs rfl))
 obtain ⟨l,xs,rfl,q1,q⟩:=q1
 cases r1 with
 |cons r rr=>
  cases rr
  cases r
  obtain ⟨us1,_,p1,_⟩:=I1.list q1
  refine call_enumerate_list p1.isList fun h' a1 a2 _ kk=>?_
  refine wpAny_pyIter_enum a1 ?_
  have I2:Inv X pins σ H1 { s1 with heap:=h',toks:=s1.toks }:=I1.kept kk
  refine⟨_,[s1.heap.objs.size+1,s1.heap.objs.size],_,_,H1,rfl,I2,ytk (Nat.succ_ne_self _),⟨⟨_,a1⟩,a2⟩,fun c hc=>?_,q⟩
  have hge:s1.heap.objs.size≤c:=by
   simp only[List.mem_cons,List.not_mem_nil,or_false] at hc
   rcases hc with rfl|rfl <;> omega
  exact I1.fpOk (H':=H1) hge (I1.hok.fresh hge)
theorem yly {K:PySem.W.Frag}{a:Addr}{xs:List V}{g:TG}{tb:TS}{D:Ends}{σ:St}{H:Hp}(Pv:Nat→St→Hp→Prop)(h0:Pv 0 σ H)(hl:∀i σ H,i≤xs.length→Pv i σ H→SqL K H a xs)
 (hs:∀i x σ H p,xs[i]? = some x→Pv i σ H→H p=none→g (.ref p) σ (upd H p (.tup [.int i,x])) fun σ2 H2=>tb { D with nx:=Pv (i+1),ct:=Pv (i+1),bk:=D.nx } σ2 H2) (hd:∀σ H,Pv xs.length σ H→D.nx σ H) :
 ∃W:Nat→Nat→St→Hp→Prop,(∃m,W 0 m σ H)∧∀i m σ H,W i m σ H→
  ((Ite K a).stop i H∧D.nx σ H)∨((Ite K a).go i H∧∃N:St→Hp→Prop,(∀σ' H',N σ' H'→∃m',m' < m∧W (i+1) m' σ' H')∧∀x H',(Ite K a).yld i H x H'→g x σ H' fun σ2 H2=>tb { D with nx:=N,ct:=N,bk:=D.nx } σ2 H2):=by
 refine⟨fun i m σ H=>m=xs.length-i∧i≤xs.length∧Pv i σ H,⟨xs.length,by simp,Nat.zero_le _,h0⟩,?_⟩
 rintro i m σ H ⟨rfl,hi,p⟩
 have q:=hl i σ H hi p
 by_cases hlt:i<xs.length
 ·refine .inr ⟨⟨xs,xs[i],q,by simp [hlt]⟩,Pv (i+1),fun σ' H' p'=>⟨xs.length-(i+1),by omega,rfl,hlt,p'⟩,fun x H' y=>?_⟩
  obtain ⟨c,x',rfl,hc,rfl,y⟩:=y
  exact hs i x' σ _ c (y xs q) p hc
 ·have e:i=xs.length:=by omega
  subst e
  exact .inl ⟨⟨xs,q,Nat.le_refl _⟩,hd σ H p⟩
theorem yo4 {K:PySem.W.Frag}{b1 b2:Bool}{a b:Addr}{xs ys:List V}{g:TG}{tb:TS}{D:Ends}{σ:St}{H:Hp}(Pv:Nat→St→Hp→Prop)(h0:Pv 0 σ H)(hl:∀i σ H,i≤min xs.length ys.length→Pv i σ H→SqB K H b1 a xs∧SqB K H b2 b ys)
 (hs:∀i x y σ H p,xs[i]? = some x→ys[i]? = some y→Pv i σ H→H p=none→g (.ref p) σ (upd H p (.tup [x,y])) fun σ2 H2=>tb { D with nx:=Pv (i+1),ct:=Pv (i+1),bk:=D.nx } σ2 H2) (hd:∀σ H,Pv (min xs.length ys.length) σ H→D.nx σ H) :
 ∃W:Nat→Nat→St→Hp→Prop,(∃m,W 0 m σ H)∧∀i m σ H,W i m σ H→
  ((Itz K b1 b2 a b).stop i H∧D.nx σ H)∨((Itz K b1 b2 a b).go i H∧∃N:St→Hp→Prop,(∀σ' H',N σ' H'→∃m',m' < m∧W (i+1) m' σ' H')∧∀x H',(Itz K b1 b2 a b).yld i H x H'→g x σ H' fun σ2 H2=>tb { D with nx:=N,ct:=N,bk:=D.nx } σ2 H2):=by
 refine⟨fun i m σ H=>m=min xs.length ys.length-i∧i≤min xs.length ys.length∧Pv i σ H,⟨min xs.length ys.length,by simp,Nat.zero_le _,h0⟩,?_⟩
 rintro i m σ H ⟨rfl,hi,p⟩
 obtain ⟨q1,q2⟩:=hl i σ H hi p
 by_cases hlt:i<min xs.length ys.length
 ·refine .inr ⟨⟨xs,ys,xs[i]'(by omega),ys[i]'(by omega),q1,q2,by simp,by simp⟩,Pv (i+1),fun σ' H' p'=>⟨min xs.length ys.length-(i+1),by omega,rfl,hlt,p'⟩,fun x H' y=>?_⟩
  obtain ⟨c,x',y',rfl,hc,rfl,y⟩:=y
  obtain ⟨e1,e2⟩:=y xs ys q1 q2
  exact hs i x' y' σ _ c e1 e2 p hc
 ·have e:i=min xs.length ys.length:=by omega
  subst e
  exact .inl ⟨⟨xs,ys,q1,q2,by omega⟩,hd σ H p⟩
end
def yqh (scope D:Scope):List (Str×NameKind):=scope.names.map fun (n,k)=>if (k == .free&&D.kind == .function&&D.names.lookup n == some .cell) then (n,.cell) else (n,k)
def yxn (N N':List Str)(ix:List (Option Nat))(scope D:Scope):Bool:=
 (scope.kind == .function)&&(scope.names.all fun y=>(y.2 == .local&&scope.names.lookup y.1 == some .local) || (y.2 == .free&&D.names.lookup y.1 == some .cell) || (y.2 != .local&&y.2 != .free&&y.2 != .cell))&&decide N'.Nodup&&(ix.length == N'.length) &&
 ((List.range N'.length).all fun k=>match ix[k]?,N'[k]? with
  |some (some j),some x=>N[j]? == some x&&scope.names.contains (x,.free)&&(yqh scope D).lookup x == some .cell
  |_,_=>true)
theorem yaw {X:Cx}{N':List Str}{ix:List (Option Nat)}{scope:Scope}{N:List Str}{D:Scope}(h:yxn N N' ix scope D=true)(hN:X.N=N:=by rfl)(hD:X.env.scope=D:=by rfl):CompScope X N' ix scope:=by
 unfold yxn at h
 simp only[Bool.and_eq_true,decide_eq_true_eq] at h
 obtain ⟨⟨⟨⟨h1,h2⟩,h3⟩,h4⟩,h5⟩:=h
 have hall:=List.all_eq_true.mp h2
 refine⟨by simpa using h1,fun y hy=>?_,fun y hy e=>?_,h3,by simpa using h4,fun y hy e=>?_,fun k j x e1 e2=>?_⟩
 ·have:=hall y hy
  intro z
  rw[z] at this
  simp at this
 ·have:=hall y hy
  rw[e] at this
  simpa using this
 ·have:=hall y hy
  rw[e] at this
  have q:D.names.lookup y.1=some .cell:=by simpa using this
  show X.env.scope.names.lookup y.1=some .cell
  rw[hD];exact q
 ·have hk:k<N'.length:=(List.getElem?_eq_some_iff.mp e1).1
  have:=List.all_eq_true.mp h5 k (List.mem_range.mpr hk)
  rw[e1,e2] at this
  simp only[Bool.and_eq_true,beq_iff_eq] at this
  obtain ⟨⟨a1,a2⟩,a3⟩:=this
  refine⟨by rw[hN];exact a1,by simpa using a2,?_⟩
  show (yqh scope X.env.scope).lookup x=some .cell
  rw[hD];exact a3
def zb1 (i k:Nat)(E:XK)(tb:TS)(th:Addr→TS):TS:=fun D σ H=>tb D σ H∧∀(C a:Addr) (H1:Hp),E (.ref C) none H1→H1 a=none→
 th a { nx:=fun σ' H'=>D.nx (σ'.set i none) H',rt:=D.rt,bk:=fun σ' H'=>D.bk (σ'.set i none) H',ct:=fun σ' H'=>D.ct (σ'.set i none) H' } ((List.replicate k none).set i (some (.ref a))) (upd H1 a (.ext (IsX a (.ref C))))
section
variable {X:Cx}
theorem yyh {body:List Stmt}{b₀:Stmt}{suite:List Stmt}{x n:Str}{C:Addr}{i:Nat}{E:XK}{tb:TS}{th:Addr→TS}{np hpos pos:Pos}(hN:X.N.Nodup)(hi:X.N[i]? = some n)(hl:X.env.scope.names.lookup n=some .local)
 (hfr:X.env.frame=some X.env.locals) (hstk:X.stack=X.env::X.outer) (hg:Gl X x) (hm:X.mg x=some (.ref C)) (hcalm:X.calm=true) (hex:X.ex=[]) (hx:∀cls H,E cls none H→(∃D,cls = .ref D)∧PySem.W.exmOne X.K cls (.ref C)=some true)
 (hb:∀pn xe,yi1 (CXE X.prog X.w) (X.tryCx pn xe) E→PSs (X.tryCx pn xe) body tb) (hs:∀e,PSs (X.suite e) (b₀::suite) (th e)) (hd:(x == ("__debug__" : Str))=false:=by decide) :
 PS X (.Try body [.ExceptHandler (some (.Name x np)) (some n) (b₀::suite) hpos] [] [] pos) (zb1 i X.N.length E tb th):=by
 intro pins s σ H D I ⟨h1,h2⟩
 refine wpAny_Try_except ?_
 refine wpAny_mono (hb (X.pn++pins) _ ?_ [] s σ H D I.toTry h1) (fun f s1 q=>?_) fun e s1 q=>q
 ·-- what an exception finds here
  intro pins' σ' H' s0 e s' J hcx
  obtain ⟨a,cls,a0,H1,B,rfl,hos,hbare,hE,hok,hna,hnew,fly,u⟩:=hcx
  obtain ⟨⟨D1,rfl⟩,hmatch⟩:=hx cls H1 hE
  have land:∀(h'':Heap) (tk:Nat),B.StaysIn h''→s'.heap.UpToSlots h''→Inv X pins (List.replicate X.N.length none) H1 { s' with heap:=h'',toks:=tk }:=fun h'' tk b1 b2=>by
   have J1:=(yvp J hos hbare hok fly u b1 b2).tok tk
   exact(J1.ofTry' I.ok).weak (by rw[List.length_replicate];exact J1.len.symm) fun k v e=>by
    rw[List.getElem?_replicate] at e
    split at e <;> cases e
  have fly':Heap.FlyingW B (X.env::X.outer) a (.ref D1) a0 s'.heap:=by rw[← hstk];exact fly
  refine wpAny_looks_onW (L:=X.env.locals) (by rw[I.ok.frames,hstk]) hfr fly' fun h4 held4 up4=>?_
  refine wpAny_landsW held4 fun h5 fly5 up5=>?_
  have J5:=land h5 s'.toks fly5.1 (up4.trans up5)
  obtain ⟨o5,vs5,e5,c5,d5,_⟩:=fly5.first
  refine wpAny_handleBy_cons (codeAny_handlers_test (ylo (X:=X.suite a) (pins:=pins) (σ:=List.replicate X.N.length none) (H:=H1) J5.toSuite hg hm ?_ hd)) (by intro q;cases q)
  refine(PySem.W.exm_one (M:=model X.prog X.w) J5.kIn (yvq ⟨o5,vs5,e5,c5,d5⟩) hmatch).here ?_
  refine codeAny_handlers_suite_as ?_
  refine lands_againW fly5 fun h6 fly6 up6=>?_
  have J6:=land h6 s'.toks fly6.1 ((up4.trans up5).trans up6)
  obtain ⟨o6,vs6,e6,c6,d6,_⟩:=fly6.first
  have ne0:∀b ob,s0.heap.get? b=some ob→b≠a:=fun b ob q z=>by rw[z,hnew] at q;cases q
  have JT:Inv X pins (List.replicate X.N.length none) (upd H1 a (.ext (IsX a (.ref D1)))) { s' with heap:=h6,toks:=s'.toks }:=by
   refine J6.track ?_ hna (fun z=>?_) (fun y c q z=>?_) (fun p hp z=>?_) ⟨⟨o6,vs6,e6,c6,d6⟩,⟨o6,e6⟩,fun g1 g2 ⟨o,vs,y1,y2,y3⟩ k=>⟨o,vs,k o y1,y2,y3⟩⟩
   ·cases q:X.s₀.heap.get? a with
    |none=>rfl
    |some ob=>
     obtain ⟨ob',q1⟩:=J.base.there a ob q (by rw[show (X.tryCx _ _).ex=[] from hex];intro z;cases z)
     exact absurd rfl (ne0 a ob' q1)
   ·obtain ⟨m,⟨ob,_,_,q,_⟩,_⟩:=J.loc
    exact ne0 _ ob q z.symm
   ·obtain ⟨v,ob,q1,_⟩:=J.cell y c q
    exact ne0 c ob q1 z
   ·exact ne0 p.1 p.2 (J.pin p (List.mem_append_left _ hp)).1 z
  refine yiq (X:=X) (i:=i) (v:=.ref a) JT hN hi (.inl hl) rfl (fun s7 J7=>?_) (.inr hl)
  refine wpAny_mono (hs a pins s7 _ _ _ J7.toSuite (h2 D1 a H1 hE hna)) (fun f s8 q8=>?_) fun _ _ z=>z.elim
  cases f with
  |next=>
   obtain ⟨σ8,H8,J8,q⟩:=q8
   exact(J8.ofSuite I.ok).nameGoes hN hi hl fun s9 J9=>⟨_,H8,J9,q⟩
  |brk=>
   obtain ⟨σ8,H8,J8,q⟩:=q8
   exact(J8.ofSuite I.ok).nameGoes hN hi hl fun s9 J9=>⟨_,H8,J9,q⟩
  |cont=>
   obtain ⟨σ8,H8,J8,q⟩:=q8
   exact(J8.ofSuite I.ok).nameGoes hN hi hl fun s9 J9=>⟨_,H8,J9,q⟩
  |ret v=>
   obtain ⟨v8,σ8,H8,J8,r8,q⟩:=q8
   exact(J8.ofSuite I.ok).nameGoes hN hi hl fun s9 J9=>⟨v8,_,H8,J9,r8,q⟩
 ·cases f with
  |next=>exact wpAny_execs_nil (SP.ofTry I.ok q)
  |brk=>exact SP.ofTry I.ok q
  |cont=>exact SP.ofTry I.ok q
  |ret v=>exact SP.ofTry I.ok q
end
section
variable {K:PySem.W.Frag}{c d:Addr}{b:Bool}{v:Value}
theorem yan (h:PySem.W.mroIn K c v=some b):(PySem.W.clsIn K c).isSome=true:=by
 unfold PySem.W.mroIn at h
 cases e:PySem.W.clsIn K c with
 |none=>rw[e] at h;cases h
 |some x=>rfl
theorem zah {t:Value} (h0:(t == .ref d)=false) (h1:(PySem.W.clsIn K d).isSome=true) (h2:PySem.W.typeIn K (.ref d)=some (.type "type")) (h3:PySem.W.subIn K t (.ref d)=some b):PySem.W.kitOne K t (.ref d)=some b:=by
 unfold PySem.W.kitOne
 rw[if_neg (by rw[h0];decide)]
 show (if ((PySem.W.clsIn K d).isSome&&PySem.W.typeIn K (.ref d) == some (.type "type"))=true then PySem.W.subIn K t (.ref d) else none)=some b
 rw[h1,h2,if_pos (by simp)]
 exact h3
theorem ye3:PySem.W.kitOne K (.ref c) (.ref c)=some true:=by
 unfold PySem.W.kitOne
 rw[if_pos (by simp)]
theorem ya0 (hs:PySem.W.mroIn K c (.ref c)=some true) (h1:(PySem.W.clsIn K d).isSome=true) (h2:PySem.W.typeIn K (.ref d)=some (.type "type")) (h3:PySem.W.mroIn K c (.ref d)=some false):PySem.W.kitOne K (.ref c) (.ref d)=some false:=by
 refine zah ?_ h1 h2 h3
 refine Bool.eq_false_iff.mpr fun z=>?_
 have e:c=d:=Value.ref.inj (beq_iff_eq.mp z)
 subst e
 rw[hs] at h3
 cases h3
theorem yie {T:String}(hm:PySem.W.kitMeta T=true)(h:PySem.W.mroIn K c (.type T)=some b):PySem.W.kitOne K (.ref c) (.type T)=some b:=by
 unfold PySem.W.kitOne
 rw[if_neg (by intro z;cases beq_iff_eq.mp z)]
 show (if PySem.W.kitMeta T=true then PySem.W.subIn K (.ref c) (.type T) else none)=some b
 rw[if_pos hm]
 exact h
theorem yif (h0:PySem.W.subIn K (.ref d) (.type "BaseException")=some true) (h1:(PySem.W.clsIn K d).isSome=true) (h2:PySem.W.typeIn K (.ref d)=some (.type "type")) (h3:PySem.W.mroIn K c (.ref d)=some b):PySem.W.exmOne K (.ref c) (.ref d)=some b:=by
 unfold PySem.W.exmOne
 rw[if_pos (by rw[h0];simp)]
 show (if ((PySem.W.clsIn K d).isSome&&PySem.W.typeIn K (.ref d) == some (.type "type"))=true then PySem.W.subIn K (.ref c) (.ref d) else none)=some b
 rw[h1,h2,if_pos (by simp)]
 exact h3
theorem yfz:PySem.W.kitMeta "ValueError" = true:=by decide +kernel
end
theorem Fun.okE {P:Program}{w:World}{K:PySem.W.Frag}{mg:Str→Option Value}{base:Heap}{x qual:Str}{st:Stmt}{f:Addr}{fd:FuncData}{N ps:List Str}{k:Nat}{sp:Sp}(F:Fun K x qual st f fd)(S:FnScope N ps (yac st))
 (len:∀vs H Q E,sp vs H Q E→vs.length=ps.length)
 (hbody:∀(cdv:Value) (A:Around) (outer:List Env) (s:Shared) (H:Hp) (vs:List V) (Q:VK) (E:XK),Room k (A.deeper (envOfC qual (yac st) s.heap.objs.size f cdv))→sp vs H Q E→
  ∃t,PSs (ysk (CXE P w) P w K mg base N qual (yac st) f cdv A outer s H E) (yao st) t∧t { nx:=fun _ H'=>Q .non H',rt:=Q } (ykg N vs) H):FnOk P w K mg base (CXE P w) (k+1) f fd ps sp:=by
 obtain ⟨oc,od,kV,doc,pm,an,cdv,ct,osl,rfl,lk,hcd⟩:=F.ex
 exact yx8 lk hcd S len fun A outer s H vs Q E hr hsp=>hbody cdv A outer s H vs Q E hr hsp
theorem yeh {t u:TS}{D:Ends}{σ:St}{H:Hp}(R:St→Hp→Prop)(h1:∀D':Ends,(∀σ' H',R σ' H'→D'.nx σ' H')→D'.rt=D.rt→t D' σ H)(h2:∀σ' H',R σ' H'→u D σ' H'):zbn t u D σ H:=h1 { D with nx:=u D } h2 rfl
theorem yyi:bootBuiltins "ValueError" = some (.type "ValueError"):=by decide +kernel
structure Bn (mg:Str→Option Value):Prop where
 len:mg "len" = none
 list:mg "list" = none
 isi:mg "isinstance" = none
 bool:mg "bool" = none
 int:mg "int" = none
 str:mg "str" = none
 tuple:mg "tuple" = none
 all:mg "all" = none
 any:mg "any" = none
 zip:mg "zip" = none
 range:mg "range" = none
 max:mg "max" = none
 min:mg "min" = none
 enumerate:mg "enumerate" = none
 sum:mg "sum" = none
 sorted:mg "sorted" = none
 verr:mg "ValueError" = none
def KeepBut (a:Addr)(H H':Hp):Prop:=∀b o,b≠a→H b=some o→H' b=some o
theorem KeepBut.refl {a:Addr}{H:Hp}:KeepBut a H H:=fun _ _ _ h=>h
theorem KeepBut.trans {a:Addr}{H H1 H2:Hp}(x:KeepBut a H H1)(y:KeepBut a H1 H2):KeepBut a H H2:=fun b o n h=>y b o n (x b o n h)
theorem KeepBut.upd {a:Addr}{H H1:Hp}{o:HO}(x:KeepBut a H H1):KeepBut a H (L2.upd H1 a o):=fun b u n h=>by rw[yal n];exact x b u n h
theorem KeepBut.new {a p:Addr}{H H1:Hp}{o:HO}(x:KeepBut a H H1)(hp:H1 p=none):KeepBut a H (L2.upd H1 p o):=fun b u n h=>by
 have:=x b u n h
 rw[yal (yak this hp)];exact this
theorem KeepBut.young {a p:Addr}{H H1:Hp}{o:HO}(x:KeepBut a H H1)(hp:H p=none):KeepBut a H (L2.upd H1 p o):=fun b u n h=>by
 rw[yal (yak h hp)];exact x b u n h
theorem KeepBut.of_same {a:Addr}{H H1:Hp}(x:Same H H1):KeepBut a H H1:=fun b o _ h=>x b o h
theorem KeepBut.none {a p:Addr}{H H':Hp}(k:KeepBut a H H')(n:p≠a)(h:H' p=Option.none):H p=Option.none:=by
 cases q:H p with
 |none=>rfl
 |some o=>rw[k p o n q] at h;cases h
theorem Same.young {p:Addr}{H H1:Hp}{o:HO}(x:Same H H1)(hp:H p=none):Same H (L2.upd H1 p o):=fun b u h=>by
 rw[yal (yak h hp)];exact x b u h
def zcs (H:Hp)(a c:Addr)(ns:List Int)(i x y z:Int):Prop:=H a=some (.lst [.ref c,.int i,.int x,.int y,.int z])∧H c=some (.lst (ns.map V.int))∧c≠a∧0≤i∧0≤y∧y<1000000007
def DrawAt (H:Hp)(a c:Addr):Prop:=∃ns i x y z,zcs H a c ns i x y z
theorem DrawAt.new {H:Hp}{a c p:Addr}{o:HO}(d:DrawAt H a c)(hp:H p=none):DrawAt (L2.upd H p o) a c:=by
 obtain ⟨ns,i,x,y,z,h1,h2,r⟩:=d
 exact⟨ns,i,x,y,z,by rw[yal (yak h1 hp)];exact h1,by rw[yal (yak h2 hp)];exact h2,r⟩
theorem DrawAt.upd {H:Hp}{a c p:Addr}{o:HO}(d:DrawAt H a c)(na:p≠a)(nc:p≠c):DrawAt (L2.upd H p o) a c:=by
 obtain ⟨ns,i,x,y,z,h1,h2,r⟩:=d
 exact⟨ns,i,x,y,z,by rw[yal na.symm];exact h1,by rw[yal nc.symm];exact h2,r⟩
theorem DrawAt.same {H H':Hp}{a c:Addr}(d:DrawAt H a c)(s:Same H H'):DrawAt H' a c:=by
 obtain ⟨ns,i,x,y,z,h1,h2,r⟩:=d
 exact⟨ns,i,x,y,z,s _ _ h1,s _ _ h2,r⟩
theorem DrawAt.there {H:Hp}{a c:Addr}(d:DrawAt H a c):∃o,H a=some o:=by
 obtain ⟨ns,i,x,y,z,h1,_⟩:=d
 exact⟨_,h1⟩
theorem DrawAt.ne {H:Hp}{a c p:Addr}(d:DrawAt H a c)(hp:H p=none):p≠a:=by
 obtain ⟨o,e⟩:=d.there
 exact(yak e hp).symm
theorem DrawAt.nc {H:Hp}{a c p:Addr}(d:DrawAt H a c)(hp:H p=none):p≠c:=by
 obtain ⟨ns,i,x,y,z,_,h2,_⟩:=d
 exact(yak h2 hp).symm
theorem DrawAt.neT {H:Hp}{a c p:Addr}{xs:List V}(d:DrawAt H a c)(hp:H p=some (.tup xs)):p≠a:=by
 obtain ⟨_,_,_,_,_,h,_⟩:=d
 exact yo0 hp h (by intro z;cases z)
def yo5 (K:PySem.W.Frag):Sp:=fun vs H Q _=>∃(a:Addr) (ns:List Int),vs=[.ref a]∧SqL K H a (ns.map V.int)∧ns.length≤63∧∀l c H',H l=none→H c=none→Same H H'→DrawAt H' l c→Q (.ref l) H'
def yig:Sp:=fun vs H Q _=>∃(a c:Addr) (m:Int),vs=[.ref a,.int m]∧DrawAt H a c∧0<m∧m<18446744073709551616∧∀r H',0≤r→r<m→DrawAt H' a c→KeepBut a H H'→Q (.int r) H'
def ytl:Sp:=fun vs H Q _=>∃a c:Addr,vs=[.ref a]∧DrawAt H a c∧∀r H',0≤r→r≤400→DrawAt H' a c→KeepBut a H H'→Q (.int r) H'
def yvy:Sp:=fun vs H Q _=>∃a c:Addr,vs=[.ref a]∧DrawAt H a c∧∀(r:Int) H',DrawAt H' a c→KeepBut a H H'→Q (.int r) H'
theorem yqi (ns:List Int)(lo hi:Option Int):∃ms:List Int,yi2 (ns.map V.int) lo hi=ms.map V.int∧ms.length≤ns.length:=by
 unfold yi2
 rw[← List.map_drop,← List.map_take]
 exact⟨_,rfl,by rw[List.length_take,List.length_drop];omega⟩
theorem zai {xs:List V}(h:∀x∈xs,∃v,x=V.int v){r:Int}(h0:0≤r)(h1:r<(xs.length:Int)):∃v,atI xs r=some (.int v):=by
 have hk:r.toNat<xs.length:=by omega
 obtain ⟨v,ev⟩:=h _ (List.getElem_mem hk)
 refine⟨v,?_⟩
 have:=ycz (xs:=xs) (j:=r.toNat) (v:=.int v) (by rw[List.getElem?_eq_getElem hk,ev])
 rw[show ((r.toNat:Nat):Int)=r by omega] at this
 exact this
theorem ylz {xs:List V}{r:Int}{v:V}(h0:0≤r)(h:xs[r.toNat]? = some v):atI xs r=some v:=by
 have:=ycz (xs:=xs) (j:=r.toNat) (v:=v) h
 rw[show ((r.toNat:Nat):Int)=r by omega] at this
 exact this
def Rows (H:Hp)(a:Addr)(rs:List (List Int)):Prop:=∃ps:List Addr,H a=some (.lst (ps.map V.ref))∧ps.length=rs.length∧∀(i:Nat) p r,ps[i]? = some p→rs[i]? = some r→H p=some (.tup (r.map V.int))
theorem Rows.same {H H':Hp}{a:Addr}{rs:List (List Int)}(h:Rows H a rs)(s:Same H H'):Rows H' a rs:=by
 obtain ⟨ps,h1,h2,h3⟩:=h
 exact⟨ps,s _ _ h1,h2,fun i p r e1 e2=>s _ _ (h3 i p r e1 e2)⟩
theorem Rows.keep {H H':Hp}{a l c:Addr}{rs:List (List Int)}(h:Rows H a rs)(n:a≠l)(d:DrawAt H l c)(k:KeepBut l H H'):Rows H' a rs:=by
 obtain ⟨ps,h1,h2,h3⟩:=h
 exact⟨ps,k _ _ n h1,h2,fun i p r e1 e2=>k _ _ (d.neT (h3 i p r e1 e2)) (h3 i p r e1 e2)⟩
theorem Rows.there {H:Hp}{a:Addr}{rs:List (List Int)}(h:Rows H a rs):∃o,H a=some o:=by
 obtain ⟨ps,h1,_⟩:=h
 exact⟨_,h1⟩
theorem Rows.get {H:Hp}{a:Addr}{rs:List (List Int)}(h:Rows H a rs):∃xs:List V,H a=some (.lst xs)∧xs.length=rs.length∧∀(i:Nat) x,xs[i]? = some x→∃p r,x = .ref p∧rs[i]? = some r∧H p=some (.tup (r.map V.int)):=by
 obtain ⟨ps,h1,h2,h3⟩:=h
 refine⟨_,h1,by rw[List.length_map,h2],fun i x e=>?_⟩
 rw[List.getElem?_map] at e
 cases q:ps[i]? with
 |none=>rw[q] at e;cases e
 |some p=>
  rw[q] at e
  have hi:=(List.getElem?_eq_some_iff.mp q).1
  have hr:rs[i]? = some (rs[i]'(by omega)):=List.getElem?_eq_getElem (by omega)
  exact⟨p,_,(Option.some.inj e).symm,hr,h3 i p _ q hr⟩
theorem Rows.push {H:Hp}{a p:Addr}{rs:List (List Int)}{xs:List V}{r:List Int}(h:Rows H a rs)(hx:H a=some (.lst xs))(hp:H p=none):Rows (L2.upd (L2.upd H p (.tup (r.map V.int))) a (.lst (xs++[.ref p]))) a (rs++[r]):=by
 obtain ⟨ps,h1,h2,h3⟩:=h
 rw[hx] at h1
 cases h1
 refine⟨ps++[p],by rw[yaa,List.map_append];rfl,by rw[List.length_append,List.length_append,h2];rfl,fun i q r' e1 e2=>?_⟩
 by_cases hi:i<ps.length
 ·rw[List.getElem?_append_left hi] at e1
  rw[List.getElem?_append_left (by omega)] at e2
  have:=h3 i q r' e1 e2
  rw[yal (yo0 this hx (by intro z;cases z)),yal (yak this hp)]
  exact this
 ·have hi':i=ps.length:=by
   have:=(List.getElem?_eq_some_iff.mp e1).1
   rw[List.length_append,List.length_singleton] at this
   omega
  subst hi'
  rw[List.getElem?_append_right (Nat.le_refl _),Nat.sub_self] at e1
  rw[h2,List.getElem?_append_right (Nat.le_refl _),Nat.sub_self] at e2
  cases e1
  cases e2
  rw[yal (yak hx hp).symm,yaa]
theorem Rows.nil {H:Hp}{a:Addr}(h:H a=some (.lst [])):Rows H a []:=⟨[],h,rfl,fun i p r e=>by cases e⟩
def yyj (lo n sc:Int)(r:List Int):Prop:=∃d c u:Int,r=[d,c,u]∧lo≤d∧d<lo+n∧1≤c∧c≤sc∧1≤u∧u≤1000000
def yyk (lo n sc:Int)(r:List Int):Prop:=∃d c:Int,r=[d,c]∧lo≤d∧d<lo+n∧1≤c∧c≤sc
def ytm:Sp:=fun vs H Q _=>∃a c:Addr,vs=[.ref a]∧DrawAt H a c∧∀p lo n H',H p=none→1≤lo→6≤n→lo+n≤1000→DrawAt H' a c→KeepBut a H H'→H' p=some (.tup [.int lo,.int n])→Q (.ref p) H'
def ytn:Sp:=fun vs H Q _=>∃(a c p:Addr) (m lo n sc:Int),vs=[.ref a,.int m,.ref p,.int sc]∧DrawAt H a c∧0≤m∧m≤900∧H p=some (.tup [.int lo,.int n])∧1≤n∧n≤999∧1≤sc∧sc≤10000000000∧
 ∀l rs H',H l=none→(∀r∈rs,yyj lo n sc r)→(rs.length:Int)≤m→DrawAt H' a c→KeepBut a H H'→Rows H' l rs→Q (.ref l) H'
def yto:Sp:=fun vs H Q _=>∃(a c p:Addr) (m lo n sc:Int),vs=[.ref a,.int m,.ref p,.int sc]∧DrawAt H a c∧0≤m∧m≤900∧H p=some (.tup [.int lo,.int n])∧1≤n∧n≤999∧1≤sc∧sc≤10000000000∧
 ∀l rs H',H l=none→(∀r∈rs,yyk lo n sc r)→(rs.length:Int)≤m→DrawAt H' a c→KeepBut a H H'→Rows H' l rs→Q (.ref l) H'
def ytp:Sp:=fun vs H Q _=>∃(a c:Addr) (m:Int),vs=[.ref a,.int m]∧DrawAt H a c∧0≤m∧m≤900∧
 ∀(q l o:Addr) (tm lo n sc:Int) ls os H',H l=none→H o=none→l≠o→0≤tm→tm≤400→1≤lo→6≤n→lo+n≤1000→1≤sc→sc≤10000000000→(∀r∈ls,yyj lo n sc r)→(∀r∈os,yyk lo n sc r)→(ls.length:Int)≤m→(os.length:Int)≤m→
  DrawAt H' a c→KeepBut a H H'→Rows H' l ls→Rows H' o os→H' q=some (.tup [.ref l,.ref o,.int tm])→Q (.ref q) H'
def zb2:R2:=fun x y H Q=>∃a b xs ys,x = .ref a∧y = .ref b∧H a=some (.tup xs)∧H b=some (.tup ys)∧xs.length+ys.length≤sizeLine∧∀p H',Same H H'→H' p=some (.tup (xs++ys))→Q (.ref p) H'
theorem yvz {prog:Program}{w:World}{A:Around}{E:Value→Shared→Prop}{s:Shared}{t b:Addr}{vs ws:List Value}{Q:Value→Shared→Prop}(ht:IsTup s.heap t vs.toArray)(hb:IsTup s.heap b ws.toArray)(hv:vs=[])(h1:Q (.ref b) s):wpAny (model prog w) A (binaryOp .Add (.ref t) (.ref b)) Q E s:=by
 obtain ⟨⟨cls,dd,data,sl⟩,ho,hc,n,hd⟩:=id ht
 obtain ⟨⟨cls2,dd2,data2,sl2⟩,ho2,hc2,n2,hd2⟩:=id hb
 simp only at hc hd hc2 hd2
 subst hc hd hc2 hd2
 exact concat_meets ⟨_,ho,rfl⟩ ⟨_,ho2,rfl⟩ noFill_tuple_add seq_tuple_add PySem.F.slot_tuple_add PySem.F.entry_tuple_add (PySem.F.args_tuple_add_2 _ _)
  (tuple_addW0 t b vs.toArray ws.toArray n n2 dd dd2 sl sl2 (by simp [hv])) ⟨ho,ho2,h1⟩
theorem ytq {X:Cx}:OpR X (binaryOp .Add) zb2:=by
 intro pins s σ H x y v u Q I rx ry h
 obtain ⟨a,b,xs,ys,rfl,rfl,ha,hb,hz,q⟩:=h
 by_cases hx:xs=[]
 ·cases rx
  cases ry
  obtain ⟨its,r1,p1,_⟩:=I.tuple (SqT.of ha)
  obtain ⟨its2,r2,p2,_⟩:=I.tuple (SqT.of hb)
  exact yvz p1 p2 (r1.nil_iff.mpr hx) ⟨.ref b,H,I,rfl,q b H (Same.refl H) (by rw[hx];exact hb)⟩
 ·refine yya pins s σ H _ _ v u Q I rx ry ⟨a,b,xs,ys,rfl,rfl,SqT.of ha,SqT.of hb,hx,hz,fun e=>q a H (Same.refl H) (by rw[e,List.append_nil];exact ha),fun e p hp=>q p _ (yad hp _) yaa⟩
end L2
namespace K28
open PySem L2
def top (i:Nat):Stmt:=PySem.Challenge.pw_drawback_k28_dealings_and_papers_refused.main.body.getD i (.Pass ⟨0,0,0,0⟩)
abbrev yhs:Stmt:=top 67
abbrev yyl:List Str:=["_law_script"]
abbrev yi7:List Str:=["_law_script"]
theorem yv0:FnScope yyl yi7 (yac yhs):=⟨rfl,rfl,rfl,by decide +kernel,rfl,by decide +kernel,by decide +kernel⟩
abbrev yk2:Stmt:=top 68
abbrev zaj:List Str:=["_law_draw","_law_many","_law_cell","_law_got"]
abbrev yih:List Str:=["_law_draw","_law_many"]
theorem sc_pick:FnScope zaj yih (yac yk2):=⟨rfl,rfl,rfl,by decide +kernel,rfl,by decide +kernel,by decide +kernel⟩
abbrev yk3:Stmt:=top 69
abbrev zak:List Str:=["_law_draw","_law_span_here"]
abbrev yno:List Str:=["_law_draw"]
theorem sc_span:FnScope zak yno (yac yk3):=⟨rfl,rfl,rfl,by decide +kernel,rfl,by decide +kernel,by decide +kernel⟩
abbrev ydq:Stmt:=top 70
abbrev yo6:List Str:=["_law_draw"]
abbrev yeq:List Str:=["_law_draw"]
theorem ynp:FnScope yo6 yeq (yac ydq):=⟨rfl,rfl,rfl,by decide +kernel,rfl,by decide +kernel,by decide +kernel⟩
abbrev ydr:Stmt:=top 71
abbrev yo7:List Str:=["_law_draw","_law_most","_law_days","_law_scale","_law_dear","_law_found","_law_k","_law_day","_law_count"]
abbrev yer:List Str:=["_law_draw","_law_most","_law_days","_law_scale"]
theorem sc_some_lots:FnScope yo7 yer (yac ydr):=⟨rfl,rfl,rfl,by decide +kernel,rfl,by decide +kernel,by decide +kernel⟩
abbrev yds:Stmt:=top 72
abbrev yo8:List Str:=["_law_draw","_law_most","_law_days","_law_scale","_law_found","_law_k","_law_day"]
abbrev yet:List Str:=["_law_draw","_law_most","_law_days","_law_scale"]
theorem sc_some_outs:FnScope yo8 yet (yac yds):=⟨rfl,rfl,rfl,by decide +kernel,rfl,by decide +kernel,by decide +kernel⟩
abbrev yk4:Stmt:=top 73
abbrev zal:List Str:=["_law_draw","_law_most","_law_days","_law_term","_law_scale","_law_lots"]
abbrev ynq:List Str:=["_law_draw","_law_most"]
theorem sc_case:FnScope zal ynq (yac yk4):=⟨rfl,rfl,rfl,by decide +kernel,rfl,by decide +kernel,by decide +kernel⟩
section
variable {P:Program}{w:World}{K:PySem.W.Frag}{mg:Str→Option Value}{base:Heap}{f:Addr}{fd:FuncData}
theorem yv1 (F:Fun K "_law_begin" "_law_begin" yhs f fd) (B:Bn mg):FnOk P w K mg base CX0 1 f fd yi7 (yo5 K):=by
 refine F.ok yv0 (fun vs H Q E h=>?_) (fun cdv A outer s H vs Q E hr h=>?_)
 ·obtain ⟨a,ns,rfl,_⟩:=h;rfl
 obtain ⟨a,ns,rfl,hS,hl,q⟩:=h
 refine⟨_,(yah (yat (yb5 (yaj (yfb ye1 rfl B.list PyProof.Rows.boot_list (yaj (yd6 ygx (pv 0) ye7 (ye8 yaf)) yab)) (yaj yaf (yaj yaf (yaj yaf (yaj yaf yab)))))))),?_⟩
 refine⟨_,rfl,_,rfl,a,_,rfl,hS,fun p hp=>?_⟩
 obtain ⟨ms,em,hm⟩:=yqi ns none (some 63)
 refine⟨p,_,rfl,.inl (SqL.of yaa),fun c hc=>?_⟩
 refine⟨by show 5≤sizeLine;decide,fun l hl'=>?_⟩
 have s1:Same H (L2.upd H p (.lst (yi2 (ns.map V.int) none (some 63)))):=yad hp _
 have s2:=s1.trans (yad hc (.lst (yi2 (ns.map V.int) none (some 63))))
 have s3:=s2.trans (yad hl' (.lst [.ref c,.int 0,.int 0,.int 1,.int 0]))
 have ncl:c≠l:=yak (yaa (H:=L2.upd H p _) (o:=.lst (yi2 (ns.map V.int) none (some 63)))) hl'
 refine q l c _ (s2.free hl') (s1.free hc) s3 ⟨ms,0,0,1,0,yaa,?_,ncl,by decide,by decide,by decide⟩
 rw[yal ncl,yaa,em]
theorem yym (F:Fun K "_law_pick" "_law_pick" yk2 f fd) (B:Bn mg):FnOk P w K mg base CX0 1 f fd yih yig:=by
 refine F.ok sc_pick (fun vs H Q E h=>?_) (fun cdv A outer s H vs Q E hr h=>?_)
 ·obtain ⟨a,c,m,rfl,_⟩:=h;rfl
 obtain ⟨a,c,m,rfl,⟨ns,i,x,y,z,d1,d2,nca,hi,hy,hy2⟩,hm,hm2,q⟩:=h
 refine⟨_,(yae (yb7 (PW.pt (ym8 (yay yil (yba ya2 (pv 0) yaf (fun _ _=>rfl)) (pv 1) (ya7 _)) (ylp (yay yil (yba ya2 (pv 0) yaf (fun _ _=>rfl)) (yaq yar rfl B.len PySem.boot_len (yaj (yba ya2 (pv 0) yaf (fun _ _=>rfl)) yab)) (ya7 _))))) (yae (yas (i:=2) sc_pick.nd rfl (Or.inl rfl) (yba ya2 (yba ya2 (pv 0) yaf (fun _ _=>rfl)) (yba ya2 (pv 0) yaf (fun _ _=>rfl)) (fun _ _=>rfl)))
  (yae (ych (ybh ycs (yba ya2 (pv 0) yaf (fun _ _=>rfl)) yaf) (yg3 (pv 0) yaf ydc))
  (yae (ych yaf (yg3 (pv 0) yaf ydc))
  (yah (yb7 (yay ysy (pv 2) (ybh yic yaf yaf) (ya7 _)) (yah (ych (pv 2) (yg3 (pv 0) yaf ydc))) (yah (ych (ybh yqb (ybh ycs (yba ya2 (pv 0) yaf (fun _ _=>rfl)) (pv 2)) yaf) (yg3 (pv 0) yaf ydc)))))))) ya6)
  (yae (yb7 (yay ysy (yba ya2 (pv 0) yaf (fun _ _=>rfl)) (pv 1) (ya7 _)) (yae (yas (i:=3) sc_pick.nd rfl (Or.inl rfl) (ybh yqb (yba ya2 (pv 0) yaf (fun _ _=>rfl)) (pv 1)))
   (yae (ych (ybh yqg (yba ya2 (pv 0) yaf (fun _ _=>rfl)) (pv 1)) (yg3 (pv 0) yaf ydc))
   (yah (yat (pv 3))))) ya6)
  (yae (ych (ybh ycs (yba ya2 (pv 0) yaf (fun _ _=>rfl)) yaf) (yg3 (pv 0) yaf ydc))
  (yae (ych (ybh yqb (ybh ycs (ybh ycs (ybh yic (yba ya2 (pv 0) yaf (fun _ _=>rfl)) yaf) (ybh yzz yaf (yba ya2 (pv 0) yaf (fun _ _=>rfl)))) yaf) yaf) (yg3 (pv 0) yaf ydc))
  (yah (yat (ybh yqb (ybh yqg (yba ya2 (pv 0) yaf (fun _ _=>rfl)) yaf) (pv 1)))))))),?_⟩
 refine(show ∀(u:TS),(∀(cv:Option V) (H1:Hp) (i x y z:Int),zcs H1 a c ns i x y z→KeepBut a H H1→u { nx:=fun _ H'=>Q .non H',rt:=Q } [some (.ref a),some (.int m),cv,none] H1)→zbn _ u _ _ _ from fun u hu=>?_) _ ?_
 ·-- if draw[2]<many and draw[1]<len(draw[0])
  refine⟨_,rfl,a,_,_,.int x,rfl,rfl,SqL.of d1,rfl,_,rfl,_,_,rfl,rfl,_,rfl,?_⟩
  by_cases c1:x<m
  ·rw[decide_eq_true c1]
   refine ycl ⟨_,rfl,a,_,_,.int i,rfl,rfl,SqL.of d1,rfl,_,rfl,a,_,_,.ref c,rfl,rfl,SqL.of d1,rfl,c,_,rfl,.inl (SqL.of d2),_,_,rfl,rfl,_,rfl,?_⟩
   rw[List.length_map]
   by_cases c2:i<(ns.length:Int)
   ·rw[decide_eq_true c2]
    have hk:i.toNat<ns.length:=by omega
    have ei:((i.toNat:Nat):Int)=i:=by omega
    have eat:atI (ns.map V.int) i=some (.int ns[i.toNat]):=by
     have:=ycz (xs:=ns.map V.int) (j:=i.toNat) (v:=.int ns[i.toNat]) (by rw[List.getElem?_map,List.getElem?_eq_getElem hk];rfl)
     rw[ei] at this;exact this
    refine ycl ⟨_,rfl,a,_,_,.ref c,rfl,rfl,SqL.of d1,rfl,_,rfl,a,_,_,.int i,rfl,rfl,SqL.of d1,rfl,c,_,_,.int ns[i.toNat],rfl,rfl,SqL.of d2,eat,?_⟩
    generalize ns[i.toNat]=v
    refine⟨_,rfl,a,_,_,.int i,rfl,rfl,SqL.of d1,rfl,_,_,rfl,rfl,_,rfl,a,_,_,1,rfl,rfl,d1,rfl,?_⟩
    refine⟨_,rfl,a,_,_,2,rfl,rfl,yaa,rfl,?_⟩
    rw[ylm]
    have e2:L2.upd H a (.lst [.ref c,.int (i+1),.int 0,.int y,.int z]) c=some (.lst (ns.map V.int)):=by rw[yal nca];exact d2
    refine⟨_,rfl,_,_,rfl,rfl,⟨by decide,by decide,by decide⟩,_,_,rfl,rfl,_,rfl,?_⟩
    refine ys9 (fun _=>?_) (fun _=>?_)
    ·refine⟨_,rfl,_,rfl,a,_,_,2,rfl,rfl,yaa,rfl,?_⟩
     rw[ylm]
     exact hu _ _ (i+1) v y z ⟨yaa,by rw[yal nca];exact d2,nca,by omega,hy,hy2⟩ KeepBut.refl.upd
    ·refine⟨_,rfl,a,_,_,.int y,rfl,rfl,SqL.of yaa,rfl,_,rfl,_,_,rfl,rfl,_,_,rfl,rfl,(by show (0:Int)<1000000007;decide),_,rfl,a,_,_,3,rfl,rfl,yaa,rfl,?_⟩
     rw[ylm]
     exact hu _ _ (i+1) 0 ((y+v) % 1000000007) z ⟨yaa,by rw[yal nca];exact d2,nca,by omega,by omega,by omega⟩ KeepBut.refl.upd
   ·rw[decide_eq_false c2]
    exact yct (hu _ H i x y z ⟨d1,d2,nca,hi,hy,hy2⟩ KeepBut.refl)
  ·rw[decide_eq_false c1]
   exact yct (yct (hu _ H i x y z ⟨d1,d2,nca,hi,hy,hy2⟩ KeepBut.refl))
 ·-- the rest
  clear d1 d2 hi hy hy2 i x y z
  rintro cv H1 i x y z ⟨d1,d2,_,hi,hy,hy2⟩ kb
  refine⟨_,rfl,a,_,_,.int x,rfl,rfl,SqL.of d1,rfl,_,rfl,_,_,rfl,rfl,_,rfl,?_⟩
  by_cases c1:m≤x
  ·rw[decide_eq_true c1]
   refine ycl ⟨_,rfl,a,_,_,.int x,rfl,rfl,SqL.of d1,rfl,_,rfl,_,_,rfl,rfl,hm,?_⟩
   refine⟨_,rfl,a,_,_,.int x,rfl,rfl,SqL.of d1,rfl,_,rfl,_,_,rfl,rfl,⟨hm,hm2⟩,_,rfl,a,_,_,2,rfl,rfl,d1,rfl,?_⟩
   refine⟨_,rfl,?_⟩
   exact q _ _ (Int.emod_nonneg _ (by omega)) (Int.emod_lt_of_pos _ hm) ⟨ns,i,x / m,y,z,yaa,by rw[yal nca];exact d2,nca,hi,hy,hy2⟩ kb.upd
  ·rw[decide_eq_false c1]
   refine yct ?_
   refine⟨_,rfl,a,_,_,.int z,rfl,rfl,SqL.of d1,rfl,_,_,rfl,rfl,_,rfl,a,_,_,4,rfl,rfl,d1,rfl,?_⟩
   refine⟨_,rfl,a,_,_,.int y,rfl,rfl,SqL.of yaa,rfl,_,_,rfl,rfl,⟨by decide,by decide,by omega⟩,_,rfl,a,_,_,.int (z+1),rfl,rfl,SqL.of yaa,rfl,_,_,rfl,rfl,.inl ⟨by decide,by decide⟩,_,_,rfl,rfl,_,_,rfl,rfl,_,_,rfl,rfl,(by show (0:Int)<1000000007;decide),_,rfl,a,_,_,3,rfl,rfl,yaa,rfl,?_⟩
   rw[ylm]
   have hy4:0≤(y ^ (3:Int).toNat+40503*(z+1)+17) % 1000000007∧(y ^ (3:Int).toNat+40503*(z+1)+17) % 1000000007<1000000007:=⟨Int.emod_nonneg _ (by decide),Int.emod_lt_of_pos _ (by decide)⟩
   refine⟨_,rfl,a,_,_,.int ((y ^ (3:Int).toNat+40503*(z+1)+17) % 1000000007),rfl,rfl,SqL.of yaa,rfl,_,_,rfl,rfl,⟨by decide,by decide⟩,_,rfl,_,_,rfl,rfl,hm,?_⟩
   exact q _ _ (Int.emod_nonneg _ (by omega)) (Int.emod_lt_of_pos _ hm) ⟨ns,i,x,(y ^ (3:Int).toNat+40503*(z+1)+17) % 1000000007,z+1,yaa,by rw[yal nca];exact d2,nca,hi,hy4.1,hy4.2⟩ kb.upd
variable (B:Bn mg) (G_pick:Cal P w K mg base CX0 1 "_law_pick" yih yig)
include B G_pick
theorem ynr (F:Fun K "_law_some_term" "_law_some_term" ydq f fd):FnOk P w K mg base CX0 2 f fd yeq ytl:=by
 refine F.ok ynp (fun vs H Q E h=>?_) (fun cdv A outer s H vs Q E hr h=>?_)
 ·obtain ⟨a,c,rfl,_⟩:=h;rfl
 obtain ⟨a,c,rfl,d,q⟩:=h
 refine⟨_,(yah (yat (yba ybt (ybd (yaj yaf (yaj yaf (yaj yaf (yaj (yam G_pick hr rfl ya1 (yaj (pv 0) (yaj yaf yab))) (yaj (yam G_pick hr rfl ya1 (yaj (pv 0) (yaj yaf yab))) (yaj yaf yab))))))) (yam G_pick hr rfl ya1 (yaj (pv 0) (yaj yaf yab))) (fun _ _=>rfl)))),?_⟩
 refine⟨_,rfl,a,c,12,rfl,d,by decide,by decide,fun r1 H1 a1 c1 d1 kb1=>?_⟩
 refine⟨_,rfl,a,c,60,rfl,d1,by decide,by decide,fun r2 H2 a2 c2 d2 kb2=>?_⟩
 refine⟨by show 6≤sizeLine;decide,fun p hp=>?_⟩
 refine⟨_,rfl,a,c,6,rfl,d2.new hp,by decide,by decide,fun r3 H3 a3 c3 d3 kb3=>?_⟩
 have ht:=kb3 p _ (d2.ne hp) yaa
 have hv:∃v,atI [V.int 0,.int 1,.int 3,.int r1,.int r2,.int 400] r3=some (.int v)∧0≤v∧v≤400:=by
  have:r3=0∨r3=1∨r3=2∨r3=3∨r3=4∨r3=5:=by omega
  rcases this with rfl|rfl|rfl|rfl|rfl|rfl
  ·exact⟨0,rfl,by omega,by omega⟩
  ·exact⟨1,rfl,by omega,by omega⟩
  ·exact⟨3,rfl,by omega,by omega⟩
  ·exact⟨r1,rfl,by omega,by omega⟩
  ·exact⟨r2,rfl,by omega,by omega⟩
  ·exact⟨400,rfl,by omega,by omega⟩
 obtain ⟨v,ev,v0,v1⟩:=hv
 exact⟨p,_,_,.int v,rfl,rfl,SqT.of ht,ev,q v H3 v0 v1 d3 ((kb1.trans (kb2.new hp)).trans kb3)⟩
theorem yyn (F:Fun K "_law_span" "_law_span" yk3 f fd):FnOk P w K mg base CX0 2 f fd yno ytm:=by
 refine F.ok sc_span (fun vs H Q E h=>?_) (fun cdv A outer s H vs Q E hr h=>?_)
 ·obtain ⟨a,c,rfl,_⟩:=h;rfl
 obtain ⟨a,c,rfl,d,q⟩:=h
 refine⟨_,(yae (yas (i:=1) sc_span.nd rfl (Or.inl rfl) (yba ybt (ybd (yaj yaf (yaj yaf (yaj yaf (yaj yaf yab))))) (yam G_pick hr rfl ya1 (yaj (pv 0) (yaj yaf yab))) (fun _ _=>rfl)))
  (yah (yat (ybd (yaj (ybh ycs yaf (yam G_pick hr rfl ya1 (yaj (pv 0) (yaj (ybh yi0 yaf (pv 1)) yab)))) (yaj (pv 1) yab)))))),?_⟩
 refine⟨by show 4≤sizeLine;decide,fun p0 hp0=>?_⟩
 refine⟨_,rfl,a,c,4,rfl,d.new hp0,by decide,by decide,fun r1 H1 a1 c1 d1 kb1=>?_⟩
 have ht:=kb1 p0 _ (d.ne hp0) yaa
 have hv:∃v,atI [V.int 6,.int 20,.int 60,.int 999] r1=some (.int v)∧6≤v∧v≤999:=by
  have:r1=0∨r1=1∨r1=2∨r1=3:=by omega
  rcases this with rfl|rfl|rfl|rfl
  ·exact⟨6,rfl,by omega,by omega⟩
  ·exact⟨20,rfl,by omega,by omega⟩
  ·exact⟨60,rfl,by omega,by omega⟩
  ·exact⟨999,rfl,by omega,by omega⟩
 obtain ⟨v,ev,v0,v1⟩:=hv
 refine⟨p0,_,_,.int v,rfl,rfl,SqT.of ht,ev,?_⟩
 refine⟨_,rfl,_,rfl,_,_,rfl,rfl,a,c,1000-v,rfl,d1,by omega,by omega,fun r2 H2 a2 c2 d2 kb2=>?_⟩
 refine⟨_,_,rfl,rfl,_,rfl,by show 2≤sizeLine;decide,fun p hp=>?_⟩
 have k:KeepBut a H H2:=((KeepBut.refl.new hp0).trans kb1).trans kb2
 exact q p (1+r2) v _ (k.none (d2.ne hp) hp) (by omega) (by omega) (by omega) (d2.new hp) (k.new hp) yaa
theorem yns (F:Fun K "_law_some_lots" "_law_some_lots" ydr f fd):FnOk P w K mg base CX0 2 f fd yer ytn:=by
 refine F.ok sc_some_lots (fun vs H Q E h=>?_) (fun cdv A outer s H vs Q E hr h=>?_)
 ·obtain ⟨a,c,p,m,lo,n,sc,rfl,_⟩:=h;rfl
 obtain ⟨a,c,p,m,lo,n,sc,rfl,d,m0,m1,hp,n0,n1,s0,s1,q⟩:=h
 refine⟨_,(yae (yas (i:=4) sc_some_lots.nd rfl (Or.inl rfl) (yba ybt (ybd (yaj yaf (yaj yaf (yaj yaf (yaj (ybh yic yaf yaf) yab))))) (yam G_pick hr rfl ya1 (yaj (pv 0) (yaj yaf yab))) (fun _ _=>rfl)))
  (yae (yas (i:=5) sc_some_lots.nd rfl (Or.inl rfl) (yb5 yab))
  (yae (ycr PassesOwn.never rfl (yg4 rfl B.range (yaj (yam G_pick hr rfl ya1 (yaj (pv 0) (yaj (ybh ycs (pv 1) yaf) yab))) yab)) (yai (i:=6) sc_some_lots.nd rfl (Or.inl rfl)) (yae (yas (i:=7) sc_some_lots.nd rfl (Or.inl rfl) (ybh ycs (yba ybt (pv 2) yaf (fun _ _=>rfl)) (yam G_pick hr rfl ya1 (yaj (pv 0) (yaj (yba ybt (pv 2) yaf (fun _ _=>rfl)) yab)))))
   (yae (yas (i:=8) sc_some_lots.nd rfl (Or.inl rfl) (ybh ycs yaf (yam G_pick hr rfl ya1 (yaj (pv 0) (yaj (pv 3) yab)))))
   (yah (ybm (ylv PySem.F.plainAttrs_list PySem.F.slot_list_append PySem.F.type_list_append ydd (pv 5) (yaj (ybd (yaj (pv 7) (yaj (pv 8) (yaj (ybh ycs yaf (yam G_pick hr rfl ya1 (yaj (pv 0) (yaj (pv 4) yab)))) yab)))) yab)))))))
  (yah (yat (pv 5)))))),?_⟩
 refine⟨_,_,rfl,rfl,⟨by decide,by decide,by decide⟩,by show 4≤sizeLine;decide,fun p0 hp0=>?_⟩
 refine⟨_,rfl,a,c,4,rfl,d.new hp0,by decide,by decide,fun r1 H1 a1 c1 d1 kb1=>?_⟩
 have ht:=kb1 p0 _ (d.ne hp0) yaa
 have hv:∃v,atI [V.int 2,.int 5,.int 40,.int (10 ^ (6:Int).toNat)] r1=some (.int v)∧1≤v∧v≤1000000:=by
  have:r1=0∨r1=1∨r1=2∨r1=3:=by omega
  rcases this with rfl|rfl|rfl|rfl
  ·exact⟨2,rfl,by omega,by omega⟩
  ·exact⟨5,rfl,by omega,by omega⟩
  ·exact⟨40,rfl,by omega,by omega⟩
  ·exact⟨1000000,rfl,by omega,by omega⟩
 obtain ⟨dear,ev,v0,v1⟩:=hv
 refine⟨p0,_,_,.int dear,rfl,rfl,SqT.of ht,ev,?_⟩
 refine⟨by show 0≤sizeLine;decide,fun l hl=>?_⟩
 have k1:KeepBut a H H1:=(KeepBut.refl.new hp0).trans kb1
 have fl:H l=none:=k1.none (d1.ne hl) hl
 have dl:=d1.new (o:=.lst []) hl
 have pa:p≠a:=d.neT hp
 refine⟨_,rfl,_,rfl,_,_,rfl,rfl,a,c,m+1,rfl,dl,by omega,by omega,fun r2 H2 a2 c2 d2 kb2=>?_⟩
 have k2:KeepBut a H H2:=(k1.new hl).trans kb2
 have hl2:=kb2 l _ (d1.ne hl) yaa
 refine⟨r2,rfl,by omega,by omega,yg6 (n:=r2.toNat) (fun i σ H3=>∃o6 o7 o8 rs,σ=[some (.ref a),some (.int m),some (.ref p),some (.int sc),some (.int dear),some (.ref l),o6,o7,o8]∧DrawAt H3 a c∧KeepBut a H H3∧Rows H3 l rs∧rs.length=i∧∀r∈rs,yyj lo n sc r) ⟨_,_,_,[],rfl,d2,k2,Rows.nil hl2,rfl,fun r hr=>by cases hr⟩ ?_ ?_⟩
 ·rintro i σ H3 hi ⟨o6,o7,o8,rs,rfl,d3,k3,hR,hlen,hall⟩
  refine⟨_,rfl,p,_,_,.int lo,rfl,rfl,SqT.of (k3 p _ pa hp),rfl,?_⟩
  refine⟨_,rfl,_,rfl,p,_,_,.int n,rfl,rfl,SqT.of (k3 p _ pa hp),rfl,a,c,n,rfl,d3,by omega,by omega,fun x1 H4 a4 c4 d4 kb4=>⟨_,_,rfl,rfl,?_⟩⟩
  refine⟨_,rfl,_,rfl,a,c,sc,rfl,d4,by omega,by omega,fun x2 H5 a5 c5 d5 kb5=>⟨_,_,rfl,rfl,?_⟩⟩
  have nla:l≠a:=d1.ne hl
  have R5:=(hR.keep nla d3 kb4).keep nla d4 kb5
  refine⟨_,rfl,.inl ⟨rfl,?_⟩,?_⟩
  ·obtain ⟨xs,e,_⟩:=R5.get
   exact⟨_,SqL.of e⟩
  refine⟨_,rfl,_,rfl,_,rfl,_,rfl,a,c,dear,rfl,d5,by omega,by omega,fun x3 H6 a6 c6 d6 kb6=>⟨_,_,rfl,rfl,by show 3≤sizeLine;decide,fun t ht=>?_⟩⟩
  have R6:=R5.keep nla d5 kb6
  obtain ⟨xs,ex,exl,_⟩:=R6.get
  refine⟨l,xs,.ref t,rfl,rfl,by rw[yal (yak ex ht)];exact ex,yau (by omega),?_⟩
  have k6:KeepBut a H H6:=((k3.trans kb4).trans kb5).trans kb6
  have dn:=(d6.new (o:=.tup [.int (lo+x1),.int (1+x2),.int (1+x3)]) ht).upd (o:=.lst (xs++[.ref t])) nla (d1.nc hl)
  refine⟨_,_,_,rs++[[lo+x1,1+x2,1+x3]],rfl,dn,(k6.new ht).young fl,R6.push (r:=[lo+x1,1+x2,1+x3]) ex ht,by rw[List.length_append,hlen];rfl,fun r hr=>?_⟩
  rcases List.mem_append.mp hr with z|z
  ·exact hall r z
  ·rw[List.mem_singleton.mp z]
   exact⟨_,_,_,rfl,by omega,by omega,by omega,by omega,by omega,by omega⟩
 ·rintro σ H3 ⟨o6,o7,o8,rs,rfl,d3,k3,hR,hlen,hall⟩
  exact⟨_,rfl,q l rs H3 fl hall (by omega) d3 k3 hR⟩
theorem ynt (F:Fun K "_law_some_outs" "_law_some_outs" yds f fd):FnOk P w K mg base CX0 2 f fd yet yto:=by
 refine F.ok sc_some_outs (fun vs H Q E h=>?_) (fun cdv A outer s H vs Q E hr h=>?_)
 ·obtain ⟨a,c,p,m,lo,n,sc,rfl,_⟩:=h;rfl
 obtain ⟨a,c,p,m,lo,n,sc,rfl,d,m0,m1,hp,n0,n1,s0,s1,q⟩:=h
 refine⟨_,(yae (yas (i:=4) sc_some_outs.nd rfl (Or.inl rfl) (yb5 yab))
  (yae (ycr PassesOwn.never rfl (yg4 rfl B.range (yaj (yam G_pick hr rfl ya1 (yaj (pv 0) (yaj (ybh ycs (pv 1) yaf) yab))) yab)) (yai (i:=5) sc_some_outs.nd rfl (Or.inl rfl)) (yae (yas (i:=6) sc_some_outs.nd rfl (Or.inl rfl) (ybh ycs (yba ybt (pv 2) yaf (fun _ _=>rfl)) (yam G_pick hr rfl ya1 (yaj (pv 0) (yaj (yba ybt (pv 2) yaf (fun _ _=>rfl)) yab)))))
   (yah (ybm (ylv PySem.F.plainAttrs_list PySem.F.slot_list_append PySem.F.type_list_append ydd (pv 4) (yaj (ybd (yaj (pv 6) (yaj (ybh ycs yaf (yam G_pick hr rfl ya1 (yaj (pv 0) (yaj (pv 3) yab)))) yab))) yab))))))
  (yah (yat (pv 4))))),?_⟩
 refine⟨by show 0≤sizeLine;decide,fun l hl=>?_⟩
 have nla:l≠a:=d.ne hl
 have pa:p≠a:=d.neT hp
 refine⟨_,rfl,_,rfl,_,_,rfl,rfl,a,c,m+1,rfl,d.new hl,by omega,by omega,fun r2 H2 a2 c2 d2 kb2=>?_⟩
 have k2:KeepBut a H H2:=(KeepBut.refl.new hl).trans kb2
 have hl2:=kb2 l _ nla yaa
 refine⟨r2,rfl,by omega,by omega,yg6 (n:=r2.toNat) (fun i σ H3=>∃o6 o7 rs,σ=[some (.ref a),some (.int m),some (.ref p),some (.int sc),some (.ref l),o6,o7]∧DrawAt H3 a c∧KeepBut a H H3∧Rows H3 l rs∧rs.length=i∧∀r∈rs,yyk lo n sc r) ⟨_,_,[],rfl,d2,k2,Rows.nil hl2,rfl,fun r hr=>by cases hr⟩ ?_ ?_⟩
 ·rintro i σ H3 hi ⟨o6,o7,rs,rfl,d3,k3,hR,hlen,hall⟩
  refine⟨_,rfl,p,_,_,.int lo,rfl,rfl,SqT.of (k3 p _ pa hp),rfl,?_⟩
  refine⟨_,rfl,_,rfl,p,_,_,.int n,rfl,rfl,SqT.of (k3 p _ pa hp),rfl,a,c,n,rfl,d3,by omega,by omega,fun x1 H4 a4 c4 d4 kb4=>⟨_,_,rfl,rfl,?_⟩⟩
  have R5:=hR.keep nla d3 kb4
  refine⟨_,rfl,.inl ⟨rfl,?_⟩,?_⟩
  ·obtain ⟨xs,e,_⟩:=R5.get
   exact⟨_,SqL.of e⟩
  refine⟨_,rfl,_,rfl,_,rfl,a,c,sc,rfl,d4,by omega,by omega,fun x3 H6 a6 c6 d6 kb6=>⟨_,_,rfl,rfl,by show 2≤sizeLine;decide,fun t ht=>?_⟩⟩
  have R6:=R5.keep nla d4 kb6
  obtain ⟨xs,ex,exl,_⟩:=R6.get
  refine⟨l,xs,.ref t,rfl,rfl,by rw[yal (yak ex ht)];exact ex,yau (by omega),?_⟩
  have k6:KeepBut a H H6:=(k3.trans kb4).trans kb6
  have dn:=(d6.new (o:=.tup [.int (lo+x1),.int (1+x3)]) ht).upd (o:=.lst (xs++[.ref t])) nla (d.nc hl)
  refine⟨_,_,rs++[[lo+x1,1+x3]],rfl,dn,(k6.new ht).young hl,R6.push (r:=[lo+x1,1+x3]) ex ht,by rw[List.length_append,hlen];rfl,fun r hr=>?_⟩
  rcases List.mem_append.mp hr with z|z
  ·exact hall r z
  ·rw[List.mem_singleton.mp z]
   exact⟨_,_,rfl,by omega,by omega,by omega,by omega⟩
 ·rintro σ H3 ⟨o6,o7,rs,rfl,d3,k3,hR,hlen,hall⟩
  exact⟨_,rfl,q l rs H3 hl hall (by omega) d3 k3 hR⟩
theorem yyo (G_span:Cal P w K mg base CX0 2 "_law_span" yno ytm) (G_some_term:Cal P w K mg base CX0 2 "_law_some_term" yeq ytl) (G_some_lots:Cal P w K mg base CX0 2 "_law_some_lots" yer ytn) (G_some_outs:Cal P w K mg base CX0 2 "_law_some_outs" yet yto)
 (F:Fun K "_law_case" "_law_case" yk4 f fd):FnOk P w K mg base CX0 3 f fd ynq ytp:=by
 refine F.ok sc_case (fun vs H Q E h=>?_) (fun cdv A outer s H vs Q E hr h=>?_)
 ·obtain ⟨a,c,m,rfl,_⟩:=h;rfl
 obtain ⟨a,c,m,rfl,d,m0,m1,q⟩:=h
 refine⟨_,(yae (yas (i:=2) sc_case.nd rfl (Or.inl rfl) (yam G_span hr rfl ya1 (yaj (pv 0) yab)))
  (yae (yas (i:=3) sc_case.nd rfl (Or.inl rfl) (yam G_some_term hr rfl ya1 (yaj (pv 0) yab)))
  (yae (yas (i:=4) sc_case.nd rfl (Or.inl rfl) (yba ybt (ybd (yaj yaf (yaj yaf (yaj yaf (yaj (ybh yic yaf yaf) yab))))) (yam G_pick hr rfl ya1 (yaj (pv 0) (yaj yaf yab))) (fun _ _=>rfl)))
  (yae (yas (i:=5) sc_case.nd rfl (Or.inl rfl) (yam G_some_lots hr rfl ya1 (yaj (pv 0) (yaj (pv 1) (yaj (pv 2) (yaj (pv 4) yab))))))
  (yah (yat (ybd (yaj (pv 5) (yaj (yam G_some_outs hr rfl ya1 (yaj (pv 0) (yaj (pv 1) (yaj (pv 2) (yaj (pv 4) yab))))) (yaj (pv 3) yab)))))))))),?_⟩
 refine⟨_,rfl,a,c,rfl,d,fun p lo n H1 hp lo1 n6 h1000 d1 kb1 e1=>?_⟩
 have pa:p≠a:=d.ne hp
 refine⟨_,rfl,a,c,rfl,d1,fun tm H2 t0 t4 d2 kb2=>?_⟩
 refine⟨_,_,rfl,rfl,⟨by decide,by decide,by decide⟩,by show 4≤sizeLine;decide,fun p0 hp0=>?_⟩
 refine⟨_,rfl,a,c,4,rfl,d2.new hp0,by decide,by decide,fun r3 H3 a3 c3 d3 kb3=>?_⟩
 have ht:=kb3 p0 _ (d2.ne hp0) yaa
 have hv:∃v,atI [V.int 3,.int 12,.int 1000,.int (10 ^ (10:Int).toNat)] r3=some (.int v)∧1≤v∧v≤10000000000:=by
  have:r3=0∨r3=1∨r3=2∨r3=3:=by omega
  rcases this with rfl|rfl|rfl|rfl
  ·exact⟨3,rfl,by omega,by omega⟩
  ·exact⟨12,rfl,by omega,by omega⟩
  ·exact⟨1000,rfl,by omega,by omega⟩
  ·exact⟨10000000000,rfl,by omega,by omega⟩
 obtain ⟨sc,ev,v0,v1⟩:=hv
 refine⟨p0,_,_,.int sc,rfl,rfl,SqT.of ht,ev,?_⟩
 have k3:KeepBut a H1 H3:=(kb2.new hp0).trans kb3
 have e3:=k3 p _ pa e1
 refine⟨_,rfl,_,rfl,_,rfl,_,rfl,a,c,p,m,lo,n,sc,rfl,d3,m0,m1,e3,by omega,by omega,v0,v1,fun l ls H4 hl hls lsn d4 kb4 R4=>?_⟩
 refine⟨_,rfl,_,rfl,_,rfl,_,rfl,_,rfl,a,c,p,m,lo,n,sc,rfl,d4,m0,m1,kb4 p _ pa e3,by omega,by omega,v0,v1,fun o os H5 ho hos osn d5 kb5 R5=>?_⟩
 refine⟨_,rfl,by show 3≤sizeLine;decide,fun t ht'=>?_⟩
 have k13:KeepBut a H H3:=kb1.trans k3
 have nla:l≠a:=d3.ne hl
 have noa:o≠a:=d4.ne ho
 have nlo:l≠o:=by obtain ⟨z,e⟩:=R4.there;exact yak e ho
 refine q t l o tm lo n sc ls os _ (k13.none nla hl) ((k13.trans kb4).none noa ho) nlo t0 t4 lo1 n6 h1000 v0 v1 hls hos lsn osn (d5.new ht') (((k13.trans kb4).trans kb5).new ht') ((R4.keep nla d4 kb5).same (yad ht' _)) (R5.same (yad ht' _)) yaa
end
end K28
namespace L2
open PySem PySem.W PyProof.Rows
def okW {α:Type}(n:Nat)(lt:Nat→Nat→Bool)(Q:α→Prop):KasT α→Prop
 |.ret a=>Q a
 |.ask i j k=>i<n∧j<n∧okW n lt Q (k (lt i j))
theorem ycy {α:Type}{n:Nat}{lt:Nat→Nat→Bool}{Q Q':α→Prop}(h:∀a,Q a→Q' a):∀{t:KasT α},okW n lt Q t→okW n lt Q' t
 |.ret a,q=>h a q
 |.ask _ _ _,⟨a,b,q⟩=>⟨a,b,ycy h q⟩
theorem ygi {α β:Type}{n:Nat}{lt:Nat→Nat→Bool}{Q:β→Prop}{f:α→KasT β}:∀{t:KasT α},okW n lt (fun a=>okW n lt Q (f a)) t→okW n lt Q (t.bind f)
 |.ret a,q=>q
 |.ask _ _ _,⟨a,b,q⟩=>⟨a,b,ygi q⟩
theorem ytr {α:Type}{n:Nat}{lt:Nat→Nat→Bool}{cmp:Nat→Nat→(Bool→Shared→Prop)→Shared→Prop}{s:Shared}(hc:∀i j C,i<n→j<n→C (lt i j) s→cmp i j C s){Q:α→Shared→Prop}:∀{t:KasT α},okW n lt (fun a=>Q a s) t→t.kasWp cmp Q s
 |.ret _,q=>q
 |.ask i j _,⟨a,b,q⟩=>hc i j _ a b (ytr hc q)
structure Ordr (lt:Nat→Nat→Bool):Prop where
 irr:∀i,lt i i=false
 tr:∀i j k,lt j i=false→lt k j=false→lt k i=false
 asy:∀i j,lt i j=true→lt j i=false
section
variable {n:Nat}{lt:Nat→Nat→Bool}
abbrev gA (p:Array Nat)(i:Nat):Nat:=p.getD i 0
abbrev leA (lt:Nat→Nat→Bool)(i j:Nat):Prop:=lt j i=false
def PermN (n:Nat)(p:Array Nat):Prop:=p.toList.Perm (List.range n)
def Up (lt:Nat→Nat→Bool)(p:Array Nat)(m:Nat):Prop:=∀i j,i≤j→j<m→leA lt (gA p i) (gA p j)
def yv2 (lt:Nat→Nat→Bool)(p:Array Nat)(m:Nat):Prop:=∀i j,i≤j→j<m→leA lt (gA p j) (gA p i)
theorem ynu (p:Array Nat)(i:Nat):gA p i=(p[i]?).getD 0:=by simp [gA]
theorem PermN.size {p:Array Nat}(h:PermN n p):p.size=n:=by
 have:=List.Perm.length_eq h
 simpa using this
theorem PermN.below {p:Array Nat}(h:PermN n p)(h0:0<n)(i:Nat):gA p i<n:=by
 rw[ynu]
 cases e:p[i]? with
 |none=>exact h0
 |some v=>
  have hm:v∈p.toList:=by
   obtain ⟨hi,rfl⟩:=Array.getElem?_eq_some_iff.mp e
   simp
  exact List.mem_range.mp ((List.Perm.mem_iff h).mp hm)
theorem PermN.rev {p:Array Nat}(h:PermN n p)(i j:Nat):PermN n (kas_rev p i j):=((mirror_perm p i j _).toList).trans h
theorem PermN.bub {p:Array Nat}(h:PermN n p)(k d:Nat):PermN n (bubble p k d):=((bubble_perm p k d).toList).trans h
theorem yi8 {p:Array Nat}{i j:Nat}(hj:j≤p.size)(k:Nat):gA (kas_rev p i j) k=if i≤k∧k<j then gA p (i+j-1-k) else gA p k:=by
 rw[ynu,ynu,ynu]
 unfold kas_rev
 rw[getElem?_mirror_all hj]
 split <;> rfl
theorem zam {p:Array Nat}{src d:Nat}(hs:src<p.size)(hd:d≤src)(k:Nat):gA (bubble p src d) k=if k=src-d then gA p src else if src-d<k∧k≤src then gA p (k-1) else gA p k:=by
 rw[ynu,ynu,ynu,ynu,getElem?_bubble hs d hd]
 split
 ·rfl
 ·split <;> rfl
variable (O:Ordr lt)
include O
theorem yyp {p:Array Nat}{m:Nat}(h:Up lt p m)(h1:1≤m)(c:leA lt (gA p (m-1)) (gA p m)):Up lt p (m+1):=by
 intro i j hij hj
 by_cases e:j<m
 ·exact h i j hij e
 ·have:j=m:=by omega
  subst this
  by_cases e2:i=j
  ·subst e2;exact O.irr _
  ·exact O.tr _ _ _ (h i (j-1) (by omega) (by omega)) c
theorem yf0 {p:Array Nat}{m:Nat}(h:yv2 lt p m)(h1:1≤m)(c:leA lt (gA p m) (gA p (m-1))):yv2 lt p (m+1):=by
 intro i j hij hj
 by_cases e:j<m
 ·exact h i j hij e
 ·have:j=m:=by omega
  subst this
  by_cases e2:i=j
  ·subst e2;exact O.irr _
  ·exact O.tr _ _ _ c (h i (j-1) (by omega) (by omega))
theorem yts {p:Array Nat}(hp:PermN n p)(h0:0<n):∀(f m:Nat),1≤m→m+f≤n→Up lt p m→
 okW n lt (fun r=>m≤r∧r≤m+f∧Up lt p r∧(r=m+f∨lt (gA p r) (gA p (r-1))=true)) (kas_asc p f m)
 |0,m,h1,hf,hu=>⟨Nat.le_refl _,Nat.le_refl _,hu,.inl rfl⟩
 |f+1,m,h1,hf,hu=>by
  refine⟨hp.below h0 m,hp.below h0 (m-1),?_⟩
  by_cases c:lt (gA p m) (gA p (m-1))=true
  ·show okW n lt _ (if lt (gA p m) (gA p (m-1))=true then KasT.ret m else kas_asc p f (m+1))
   rw[if_pos c]
   exact⟨Nat.le_refl _,by omega,hu,.inr c⟩
  ·show okW n lt _ (if lt (gA p m) (gA p (m-1))=true then KasT.ret m else kas_asc p f (m+1))
   rw[if_neg c]
   have c':lt (gA p m) (gA p (m-1))=false:=by simpa using c
   refine ycy (fun r ⟨a,b,u,d⟩=>⟨by omega,by omega,u,?_⟩) (yts hp h0 f (m+1) (by omega) (by omega) (yyp O hu h1 c'))
   rcases d with d|d
   ·exact .inl (by omega)
   ·exact .inr d
def ytt (lt:Nat→Nat→Bool)(p:Array Nat)(m q:Nat):Prop:=∀i,m-(q+1)≤i→i<m→leA lt (gA p i) (gA p (m-1))∧leA lt (gA p (m-1)) (gA p i)
theorem yhc {p:Array Nat}{m q:Nat}(hs:m≤p.size)(hq:q+1≤m)(h:ytt lt p m q)(k:Nat):leA lt (gA (kas_rev p (m-(q+1)) m) k) (gA p k)∧leA lt (gA p k) (gA (kas_rev p (m-(q+1)) m) k):=by
 rw[yi8 hs]
 by_cases c:m-(q+1)≤k∧k<m
 ·rw[if_pos c]
  have a:=h (m-(q+1)+m-1-k) (by omega) (by omega)
  have b:=h k c.1 c.2
  exact⟨O.tr _ _ _ a.1 b.2,O.tr _ _ _ b.1 a.2⟩
 ·rw[if_neg c]
  exact⟨O.irr _,O.irr _⟩
theorem yqj {p:Array Nat}{m q:Nat}(hs:m≤p.size)(hq:q+1≤m)(h:ytt lt p m q)(d:yv2 lt p m):yv2 lt (kas_rev p (m-(q+1)) m) m:=fun i j hij hj=>
 O.tr _ _ _ (yhc O hs hq h j).1 (O.tr _ _ _ (d i j hij hj) (yhc O hs hq h i).2)
theorem yl0 (h0:0<n):∀(f:Nat) (p:Array Nat) (m q:Nat),PermN n p→1≤m→m+f≤n→q+1≤m→yv2 lt p m→ytt lt p m q→
 okW n lt (fun r=>PermN n r.1∧1≤r.2.1∧r.2.1≤n∧m≤r.2.1∧r.2.1≤m+f∧r.2.2+1≤r.2.1∧yv2 lt r.1 r.2.1∧ytt lt r.1 r.2.1 r.2.2) (kas_desc f p m q)
 |0,p,m,q,hp,h1,hf,hq,d,al=>⟨hp,h1,by show m≤n;omega,Nat.le_refl _,Nat.le_refl _,hq,d,al⟩
 |f+1,p,m,q,hp,h1,hf,hq,d,al=>by
  have hs:m≤p.size:=by rw[hp.size];omega
  have one:∀p':Array Nat,ytt lt p' (m+1) 0:=fun p' i a b=>by
   have:i=m:=by omega
   subst this
   exact⟨O.irr _,O.irr _⟩
  refine⟨hp.below h0 m,hp.below h0 (m-1),?_⟩
  show okW n lt _ (if lt (gA p m) (gA p (m-1))=true then (if q > 0 then kas_desc f (kas_rev p (m-(q+1)) m) (m+1) 0 else kas_desc f p (m+1) 0) else KasT.ask (p.getD (m-1) 0) (p.getD m 0) fun d=>if d=true then KasT.ret (p,m,q) else kas_desc f p (m+1) (q+1))
  by_cases c:lt (gA p m) (gA p (m-1))=true
  ·rw[if_pos c]
   by_cases cq:q > 0
   ·rw[if_pos cq]
    have d1:=yqj O hs hq al d
    have e:leA lt (gA (kas_rev p (m-(q+1)) m) m) (gA (kas_rev p (m-(q+1)) m) (m-1)):=by
     have a1:=(yhc O hs hq al m).1
     have a2:=(yhc O hs hq al (m-1)).2
     exact O.tr _ _ _ a1 (O.tr _ _ _ (O.asy _ _ c) a2)
    refine ycy (fun r ⟨a,b,c,x,y,z⟩=>⟨a,b,c,by omega,by omega,z⟩) (yl0 h0 f _ (m+1) 0 (hp.rev _ _) (by omega) (by omega) (by omega) (yf0 O d1 h1 e) (one _))
   ·rw[if_neg cq]
    refine ycy (fun r ⟨a,b,c,x,y,z⟩=>⟨a,b,c,by omega,by omega,z⟩) (yl0 h0 f p (m+1) 0 hp (by omega) (by omega) (by omega) (yf0 O d h1 (O.asy _ _ c)) (one _))
  ·rw[if_neg c]
   have c':lt (gA p m) (gA p (m-1))=false:=by simpa using c
   refine⟨hp.below h0 (m-1),hp.below h0 m,?_⟩
   by_cases c2:lt (gA p (m-1)) (gA p m)=true
   ·show okW n lt _ (if lt (gA p (m-1)) (gA p m)=true then KasT.ret (p,m,q) else kas_desc f p (m+1) (q+1))
    rw[if_pos c2]
    exact⟨hp,h1,by show m≤n;omega,Nat.le_refl _,by show m≤m+(f+1);omega,hq,d,al⟩
   ·show okW n lt _ (if lt (gA p (m-1)) (gA p m)=true then KasT.ret (p,m,q) else kas_desc f p (m+1) (q+1))
    rw[if_neg c2]
    have c2':lt (gA p (m-1)) (gA p m)=false:=by simpa using c2
    refine ycy (fun r ⟨a,b,c,x,y,z⟩=>⟨a,b,c,by omega,by omega,z⟩) (yl0 h0 f p (m+1) (q+1) hp (by omega) (by omega) (by omega) (yf0 O d h1 c2') ?_)
    intro i a b
    by_cases e:i=m
    ·subst e;exact⟨O.irr _,O.irr _⟩
    ·have:=al i (by omega) (by omega)
     exact⟨O.tr _ _ _ this.1 c',O.tr _ _ _ c2' this.2⟩
theorem zan {p:Array Nat}{m:Nat}(hs:m≤p.size)(d:yv2 lt p m):Up lt (kas_rev p 0 m) m:=by
 intro i j hij hj
 rw[yi8 hs,yi8 hs,if_pos ⟨Nat.zero_le _,by omega⟩,if_pos ⟨Nat.zero_le _,hj⟩]
 exact d _ _ (by omega) (by omega)
abbrev yyq (n:Nat)(lt:Nat→Nat→Bool)(N:Nat)(r:Nat×Array Nat):Prop:=PermN n r.2∧1≤r.1∧r.1≤N∧Up lt r.2 r.1
theorem yqk (h0:0<n){p:Array Nat}{m:Nat}(hp:PermN n p)(h1:1≤m)(hm:m≤n)(d:yv2 lt p m):okW n lt (yyq n lt n) (kas_tail3 m n p):=by
 unfold kas_tail3
 have hs:m≤p.size:=by rw[hp.size];omega
 refine ygi (ycy (fun r ⟨a,b,u,_⟩=>?_) (yts O (hp.rev 0 m) h0 (n-m) m h1 (by omega) (zan O hs d)))
 exact⟨hp.rev 0 m,by show 1≤r;omega,by show r≤n;omega,u⟩
theorem yi9 (h0:0<n){p:Array Nat}{m:Nat}(hp:PermN n p)(hm:m+1≤n)(d:yv2 lt p (m+1)):okW n lt (yyq n lt n) (kas_descPart m n p):=by
 unfold kas_descPart
 refine ygi (ycy (fun r ⟨a,b,c,x,y,z,dd,al⟩=>?_) (yl0 O h0 (n-(m+1)) p (m+1) 0 hp (by omega) (by omega) (by omega) d ?_))
 ·intro i a b
  have:i=m:=by omega
  subst this
  exact⟨O.irr _,O.irr _⟩
 ·by_cases cq:r.2.2 > 0
  ·rw[if_pos cq]
   exact yqk O h0 (a.rev _ _) b c (yqj O (by rw[a.size];exact c) z al dd)
  ·rw[if_neg cq]
   exact yqk O h0 a b c dd
theorem yv3 (h2:2≤n){p:Array Nat}(hp:PermN n p):okW n lt (yyq n lt n) (kas_count n p):=by
 unfold kas_count
 have h0:0<n:=by omega
 refine ygi (ycy (fun r ⟨a,b,u,e⟩=>?_) (yts O hp h0 (n-1) 1 (by omega) (by omega) ?_))
 ·intro i j hij hj
  have:i=j:=by omega
  subst this
  exact O.irr _
 ·by_cases c1:(r == n)=true
  ·rw[if_pos c1]
   have:r=n:=by simpa using c1
   exact⟨hp,a,by show r≤n;omega,u⟩
  ·rw[if_neg c1]
   have rn:r≠n:=by simpa using c1
   have lst:lt (gA p r) (gA p (r-1))=true:=by
    rcases e with e|e
    ·exact absurd (by omega) rn
    ·exact e
   have hs:r≤p.size:=by rw[hp.size];omega
   by_cases c2:r > 1
   ·rw[if_pos c2]
    refine⟨hp.below h0 0,hp.below h0 (r-1),?_⟩
    by_cases c3:lt (gA p 0) (gA p (r-1))=true
    ·show okW n lt _ (if lt (gA p 0) (gA p (r-1))=true then KasT.ret (r,p) else kas_descPart r n (kas_rev p 0 r))
     rw[if_pos c3]
     exact⟨hp,a,by show r≤n;omega,u⟩
    ·show okW n lt _ (if lt (gA p 0) (gA p (r-1))=true then KasT.ret (r,p) else kas_descPart r n (kas_rev p 0 r))
     rw[if_neg c3]
     have c3':lt (gA p 0) (gA p (r-1))=false:=by simpa using c3
     refine yi9 O h0 (hp.rev 0 r) (by omega) (yf0 O ?_ a ?_)
     ·intro i j hij hj
      rw[yi8 hs,yi8 hs,if_pos ⟨Nat.zero_le _,hj⟩,if_pos ⟨Nat.zero_le _,by omega⟩]
      exact u _ _ (by omega) (by omega)
     ·rw[yi8 hs,yi8 hs,if_neg (by omega),if_pos ⟨Nat.zero_le _,by omega⟩]
      have e0:0+r-1-(r-1)=0:=by omega
      rw[e0]
      exact O.tr _ _ _ (O.asy _ _ lst) c3'
   ·rw[if_neg c2]
    have r1:r=1:=by omega
    subst r1
    refine yi9 O h0 hp (by omega) (yf0 O ?_ (Nat.le_refl _) (O.asy _ _ lst))
    intro i j hij hj
    have:i=j:=by omega
    subst this
    exact O.irr _
theorem yl1 (h0:0<n){p:Array Nat}{k:Nat}(hp:PermN n p)(u:Up lt p k):∀(f l r:Nat),l≤r→r≤k→r-l≤f→(∀i,i<l→leA lt (gA p i) (gA p k))→(∀i,r≤i→i<k→leA lt (gA p k) (gA p i))→
 okW n lt (fun x=>x≤k∧(∀i,i<x→leA lt (gA p i) (gA p k))∧∀i,x≤i→i<k→leA lt (gA p k) (gA p i)) (kas_place p k f l r)
 |0,l,r,h1,h2,hf,a,b=>⟨by omega,a,fun i x y=>b i (by omega) y⟩
 |f+1,l,r,h1,h2,hf,a,b=>by
  show okW n lt _ (if l ≥ r then KasT.ret l else _)
  by_cases c:l ≥ r
  ·rw[if_pos c]
   exact⟨by omega,a,fun i x y=>b i (by omega) y⟩
  ·rw[if_neg c]
   refine⟨hp.below h0 k,hp.below h0 _,?_⟩
   show okW n lt _ (if lt (gA p k) (gA p ((l+r) / 2))=true then kas_place p k f l ((l+r) / 2) else kas_place p k f ((l+r) / 2+1) r)
   by_cases d:lt (gA p k) (gA p ((l+r) / 2))=true
   ·rw[if_pos d]
    refine yl1 h0 hp u f l _ (by omega) (by omega) (by omega) a fun i x y=>?_
    exact O.tr _ _ _ (O.asy _ _ d) (u _ i x y)
   ·rw[if_neg d]
    have d':lt (gA p k) (gA p ((l+r) / 2))=false:=by simpa using d
    refine yl1 h0 hp u f _ r (by omega) h2 (by omega) (fun i x=>?_) b
    exact O.tr _ _ _ (u i ((l+r) / 2) (by omega) (by omega)) d'
theorem yxo (h0:0<n):∀(f:Nat) (p:Array Nat) (k:Nat),PermN n p→f+k=n→Up lt p k→okW n lt (fun r=>PermN n r∧Up lt r n) (kas_bin f p k)
 | 0, p, k, hp, hk, u => ⟨hp, by have : k = n := by omega
                                 subst this;exact u⟩
 |f+1,p,k,hp,hk,u=>by
  show okW n lt _ ((kas_place p k k 0 k).bind fun l=>kas_bin f (bubble p k (k-l)) (k+1))
  refine ygi (ycy (fun l ⟨hl,a,b⟩=>?_) (yl1 O h0 hp u k 0 k (Nat.zero_le _) (Nat.le_refl _) (by omega) (fun i x=>by omega) fun i x y=>by omega))
  refine yxo h0 f _ (k+1) (hp.bub _ _) (by omega) ?_
  have hs:k<p.size:=by rw[hp.size];omega
  have g:=zam (p:=p) (src:=k) (d:=k-l) hs (by omega)
  have e:k-(k-l)=l:=by omega
  rw[e] at g
  intro i j hij hj
  rw[g i,g j]
  by_cases ci:i=l
  ·rw[if_pos ci]
   by_cases cj:j=l
   ·rw[if_pos cj];exact O.irr _
   ·rw[if_neg cj,if_pos ⟨by omega,by omega⟩]
    exact b _ (by omega) (by omega)
  ·rw[if_neg ci]
   by_cases cj:j=l
   ·rw[if_pos cj,if_neg (by omega)]
    exact a i (by omega)
   ·rw[if_neg cj]
    by_cases di:l<i∧i≤k
    ·rw[if_pos di,if_pos ⟨by omega,by omega⟩]
     exact u _ _ (by omega) (by omega)
    ·rw[if_neg di]
     by_cases dj:l<j∧j≤k
     ·rw[if_pos dj]
      exact u _ _ (by omega) (by omega)
     ·rw[if_neg dj]
      exact u _ _ hij (by omega)
theorem ytu (h2:2≤n):okW n lt (fun p=>PermN n p∧Up lt p n) (kas_sort n):=by
 unfold kas_sort
 have h0:0<n:=by omega
 refine ygi (ycy (fun r ⟨a,b,c,u⟩=>?_) (yv3 O h2 (p:=List.toArray (List.range n)) (by unfold PermN;simp)))
 have e:max r.1 1=r.1:=by omega
 rw[e]
 by_cases d:r.1<n
 ·rw[if_pos d]
  exact yxo O h0 (n-r.1) r.2 r.1 a (by omega) u
 ·rw[if_neg d]
  have:r.1=n:=by omega
  rw[this] at u
  exact⟨a,u⟩
end
end L2
namespace L2
open PySem PySem.Spec PyProof.Rows
section
variable {X:Cx}{a b e:Expr}{es:List Expr}{pos:Pos}
theorem PE.weak {t t':TE}(h:PE X e t)(k:∀σ H Q,t' σ H Q→t σ H Q):PE X e t':=fun pins s σ H Q I q=>h pins s σ H Q I (k _ _ _ q)
def PIn (X:Cx)(e:Expr):Prop:=∃v:Int,PE X e (tC (.int v))
theorem yfc {v:Int}(h:PE X e (tC (.int v))):PIn X e:=⟨v,h⟩
theorem ytv (h:PIn X a):PIn X (.UnaryOp .USub a pos):=by
 obtain ⟨v,h⟩:=h
 exact⟨-v,(ysu ym9 h).weak fun σ H Q q=>⟨v,rfl,q⟩⟩
theorem yja {i j:Int}(h:PE X a (tC (.int i)))(h':PE X b (tC (.int j)))(hc:zcm i j):PIn X (.BinOp a .Pow b pos):=⟨i ^ j.toNat,(ybh yic h h').weak fun σ H Q q=>⟨i,j,rfl,rfl,hc,q⟩⟩
theorem ytw (h:PIn X a)(h':PIn X b):PIn X (.BinOp a .Add b pos):=by
 obtain ⟨v,h⟩:=h
 obtain ⟨u,h'⟩:=h'
 exact⟨v+u,(ybh ycs h h').weak fun σ H Q q=>⟨v,u,rfl,rfl,q⟩⟩
def zb3 (vs:List Int):TA:=fun _ H Q=>Q (vs.map V.int) H
def PIs (X:Cx)(es:List Expr)(n:Nat):Prop:=∃vs:List Int,vs.length=n∧PA X es (zb3 vs)
theorem yyr:PIs X [] 0:=⟨[],rfl,yab⟩
theorem yb3 {n:Nat}(h:PIn X e)(r:PIs X es n)(hn:ytj e=true:=by rfl):PIs X (e::es) (n+1):=by
 obtain ⟨v,h⟩:=h
 obtain ⟨vs,hl,r⟩:=r
 refine⟨v::vs,by rw[List.length_cons,hl],fun pos pins s σ H Q I q=>yaj h r hn pos pins s σ H Q I q⟩
def zb4 (n:Nat):TE:=fun _ H Q=>n≤sizeLine∧∀vs:List Int,vs.length=n→∀p,H p=none→Q (.ref p) (upd H p (.lst (vs.map V.int)))
theorem yys {n:Nat}(h:PIs X es n):PE X (.List es pos) (zb4 n):=by
 obtain ⟨vs,hl,h⟩:=h
 exact(yb5 h).weak fun σ H Q q=>⟨by rw[List.length_map,hl];exact q.1,fun p hp=>q.2 vs hl p hp⟩
end
theorem yii {X:Cx}{x:Str}{v:Int}{pos:Pos} (hg:Gl X x) (hm:∃t,X.mg x=some (.int v t)) (hd:(x == ("__debug__" : Str))=false:=by decide):PE X (.Name x pos) (tC (.int v)):=by
 obtain ⟨t,h⟩:=hm
 exact yfp hg h ⟨_,rfl⟩ hd
def lim:Nat→Int
 |0=>999
 |1=>10000000000
 |_=>1000000
abbrev inB (v hi:Int):Prop:=1≤v∧v≤hi
def yb2:List Int→Option Nat
 |[d,c]=>if inB d 999 then if inB c 10000000000 then none else some 1 else some 0
 |[d,c,u]=>if inB d 999 then if inB c 10000000000 then if inB u 1000000 then none else some 2 else some 1 else some 0
 |_=>none
def ybk (rs:List (List Int)):Option Nat:=rs.findSome? yb2
theorem yf1 {rs:List (List Int)}{i:Nat}{r:List Int}(h:ybk (rs.take i)=none)(e:rs[i]? = some r)(b:yb2 r=none):ybk (rs.take (i+1))=none:=by
 obtain ⟨hi,e'⟩:=List.getElem?_eq_some_iff.mp e
 unfold ybk at *
 rw[List.take_succ_eq_append_getElem hi,List.findSome?_append,h,e']
 simp [b]
theorem ygy {rs:List (List Int)}{i j:Nat}{r:List Int}(h:ybk (rs.take i)=none)(e:rs[i]? = some r)(b:yb2 r=some j):ybk rs=some j:=by
 obtain ⟨hi,e'⟩:=List.getElem?_eq_some_iff.mp e
 unfold ybk at *
 have:rs=rs.take i++r::rs.drop (i+1):=by rw[← e',← List.drop_eq_getElem_cons hi,List.take_append_drop]
 rw[this,List.findSome?_append,h]
 simp [b]
theorem yf2 {rs:List (List Int)}{i:Nat}{r:List Int}(e:rs[i]? = some r):rs.take i++[r]=rs.take (i+1):=by
 obtain ⟨hi,e'⟩:=List.getElem?_eq_some_iff.mp e
 rw[List.take_succ_eq_append_getElem hi,e']
def ysl (c:Addr)(hi:Int):Sp:=fun vs H Q E=>∃v:Int,vs=[.int v]∧(inB v hi→Q .non H)∧(¬ inB v hi→E (.ref c) none H)
def yo9:Sp:=fun vs H Q _=>∃d:Int,vs=[.int d]∧Q (.bl (decide (inB d 999))) H
def yql (cR:Addr):Sp:=fun vs H Q E=>∃a xs,vs=[.ref a]∧H a=some (.lst xs)∧(xs.length≤30→Q .non H)∧(30<xs.length→E (.ref cR) none H)
def ypa (cR:Addr)(cls:Nat→Addr)(w:Nat):Sp:=fun vs H Q E=>∃a rs,vs=[.ref a]∧Rows H a rs∧(∀r∈rs,r.length=w)∧(30<rs.length→E (.ref cR) none H)∧
 (rs.length≤30→∀j,ybk rs=some j→∀H',Same H H'→E (.ref (cls j)) none H')∧(rs.length≤30→ybk rs=none→∀l H',H l=none→Same H H'→Rows H' l rs→Q (.ref l) H')
theorem ypb {r:List Int}(h:r.length=2):∃d c,r=[d,c]:=match r,h with | [d,c],_=>⟨d,c,rfl⟩
theorem yl2 {r:List Int}(h:r.length=3):∃d c u,r=[d,c,u]:=match r,h with | [d,c,u],_=>⟨d,c,u,rfl⟩
theorem yqm {v hi:Int}{R:Bool→Prop}(h:R (decide (inB v hi))):∃i j:Int,V.int 1 = .int i∧V.int v = .int j∧∃b,V.bl (decide (i≤j)) = .bl b∧if b=true then ∃i' j':Int,V.int v = .int i'∧V.int hi = .int j'∧∃b',V.bl (decide (i'≤j')) = .bl b'∧R b' else ∃b',V.bl false = .bl b'∧R b':=by
 refine⟨_,_,rfl,rfl,_,rfl,?_⟩
 refine ys9 (fun c=>?_) (fun c=>?_)
 ·have c1:(1:Int)≤v:=of_decide_eq_true c
  refine⟨_,_,rfl,rfl,_,rfl,?_⟩
  have e:decide (v≤hi)=decide (inB v hi):=by by_cases z:v≤hi <;> simp [z,c1,inB]
  rw[e];exact h
 ·have c1:¬ (1:Int)≤v:=of_decide_eq_false (Bool.eq_false_iff.mpr c)
  have e:false=decide (inB v hi):=by simp [inB,c1]
  exact⟨_,rfl,by rw[e];exact h⟩
theorem ytx {r:List Int}{j:Nat}(h:yb2 r=some j):j<3:=by
 unfold yb2 at h
 split at h
 ·split at h
  ·split at h
   ·cases h
   ·cases h;decide
  ·cases h;decide
 ·split at h
  ·split at h
   ·split at h
    ·cases h
    ·cases h;decide
   ·cases h;decide
  ·cases h;decide
 ·cases h
theorem ypc {r:List Int}(hl:r.length=2∨r.length=3)(h:∀m:Nat,m<r.length→inB (r.getD m 0) (lim m)):yb2 r=none:=by
 rcases hl with hl|hl
 ·obtain ⟨d,c,rfl⟩:=ypb hl
  have h0:inB d 999:=h 0 (by simp)
  have h1:inB c 10000000000:=h 1 (by simp)
  simp only[yb2,if_pos h0,if_pos h1]
 ·obtain ⟨d,c,u,rfl⟩:=yl2 hl
  have h0:inB d 999:=h 0 (by simp)
  have h1:inB c 10000000000:=h 1 (by simp)
  have h2:inB u 1000000:=h 2 (by simp)
  simp only[yb2,if_pos h0,if_pos h1,if_pos h2]
theorem ypd {r:List Int}{j:Nat}(hl:r.length=2∨r.length=3)(h:∀m:Nat,m<j→inB (r.getD m 0) (lim m))(hj:j<r.length)(b:¬ inB (r.getD j 0) (lim j)):yb2 r=some j:=by
 rcases hl with hl|hl
 ·obtain ⟨d,c,rfl⟩:=ypb hl
  have:j=0∨j=1:=by simp at hj;omega
  rcases this with rfl|rfl
  ·have b0:¬ inB d 999:=b
   simp only[yb2,if_neg b0]
  ·have h0:inB d 999:=h 0 (by decide)
   have b0:¬ inB c 10000000000:=b
   simp only[yb2,if_pos h0,if_neg b0]
 ·obtain ⟨d,c,u,rfl⟩:=yl2 hl
  have:j=0∨j=1∨j=2:=by simp at hj;omega
  rcases this with rfl|rfl|rfl
  ·have b0:¬ inB d 999:=b
   simp only[yb2,if_neg b0]
  ·have h0:inB d 999:=h 0 (by decide)
   have b0:¬ inB c 10000000000:=b
   simp only[yb2,if_pos h0,if_neg b0]
  ·have h0:inB d 999:=h 0 (by decide)
   have h1:inB c 10000000000:=h 1 (by decide)
   have b0:¬ inB u 1000000:=b
   simp only[yb2,if_pos h0,if_pos h1,if_neg b0]
theorem yxp (r:List Int){k:Int}(h0:0≤k)(h1:k<r.length):yi2 (r.map V.int) none (some k)=(r.take k.toNat).map V.int∧¬ (HT.sIx (r.map V.int).length 0 none=0∧HT.sIx (r.map V.int).length (r.map V.int).length (some k)=(r.map V.int).length):=by
 have e:HT.sIx (r.map V.int).length (r.map V.int).length (some k)=k.toNat:=by
  show (if k<0 then (k+((r.map V.int).length:Int)).toNat else min k.toNat (r.map V.int).length)=k.toNat
  rw[if_neg (by omega),List.length_map]
  omega
 refine⟨?_,fun z=>by rw[e,List.length_map] at z;omega⟩
 unfold yi2
 rw[e]
 show ((r.map V.int).drop 0).take (k.toNat-0)=_
 rw[List.drop_zero,Nat.sub_zero,← List.map_take]
theorem yv4 (r:List Int){k:Int}(h0:1≤k)(h1:k≤r.length):yi2 (r.map V.int) (some k) none=(r.drop k.toNat).map V.int∧¬ (HT.sIx (r.map V.int).length 0 (some k)=0∧HT.sIx (r.map V.int).length (r.map V.int).length none=(r.map V.int).length):=by
 have e:HT.sIx (r.map V.int).length 0 (some k)=k.toNat:=by
  show (if k<0 then (k+((r.map V.int).length:Int)).toNat else min k.toNat (r.map V.int).length)=k.toNat
  rw[if_neg (by omega),List.length_map]
  omega
 refine⟨?_,fun z=>by rw[e] at z;omega⟩
 unfold yi2
 rw[e]
 show ((r.map V.int).drop k.toNat).take ((r.map V.int).length-k.toNat)=_
 rw[← List.map_drop,List.take_of_length_le (by rw[List.length_map,List.length_map,List.length_drop];omega)]
end L2
namespace L2
open PySem PySem.Spec PySem.W PyProof.Rows
theorem yht:∀{ns:List Int}{us:List Value},Vals (ns.map V.int) us→IntsAre us ns
 |[],_,.nil=>.nil
 |n::r,_,.cons x t=>by
  obtain ⟨k,rfl⟩:=x
  exact .cons n k (yht t)
theorem yty:∀{ns:List Int}{us:List Value},IntsAre us ns→Vals (ns.map V.int) us
 |_,_,.nil=>.nil
 |_,_,.cons n t r=>.cons ⟨t,rfl⟩ (yty r)
def yis:List Int→List Int→Bool
 |a::as,b::bs=>if a=b then yis as bs else decide (a<b)
 |[],_::_=>true
 |_,[]=>false
theorem ytz:∀a:List Int,yis a a=false
 |[]=>rfl
 |a::as=>by show (if a=a then yis as as else _)=false;rw[if_pos rfl];exact ytz as
theorem yt0:∀{a b:List Int},yis a b=true→yis b a=false
 |[],[],h=>by cases h
 |[],b::bs,_=>rfl
 |a::as,[],h=>by cases h
 |a::as,b::bs,h=>by
  show (if b=a then yis bs as else decide (b<a))=false
  have h':(if a=b then yis as bs else decide (a<b))=true:=h
  by_cases e:a=b
  ·rw[if_pos e] at h'
   rw[if_pos e.symm]
   exact yt0 h'
  ·rw[if_neg e] at h'
   rw[if_neg (Ne.symm e)]
   have:=of_decide_eq_true h'
   exact decide_eq_false (by omega)
theorem yxq:∀{a b c:List Int},yis b a=false→yis c b=false→yis c a=false
 |[],[],[],_,_=>rfl
 |[],[],_::_,_,_=>rfl
 |[],_::_,[],_,h=>by cases h
 |[],_::_,_::_,_,_=>rfl
 |_::_,[],_,h,_=>by cases h
 |_::_,_::_,[],_,h=>by cases h
 |a::as,b::bs,c::cs,h,g=>by
  have h':(if b=a then yis bs as else decide (b<a))=false:=h
  have g':(if c=b then yis cs bs else decide (c<b))=false:=g
  show (if c=a then yis cs as else decide (c<a))=false
  by_cases e1:b=a
  ·rw[if_pos e1] at h'
   subst e1
   by_cases e2:c=b
   ·rw[if_pos e2] at g'
    rw[if_pos e2]
    exact yxq h' g'
   ·rw[if_neg e2] at g' ⊢
    exact g'
  ·rw[if_neg e1] at h'
   have h1:=of_decide_eq_false h'
   by_cases e2:c=b
   ·subst e2
    rw[if_neg e1]
    exact h'
   ·rw[if_neg e2] at g'
    have g1:=of_decide_eq_false g'
    rw[if_neg (by omega)]
    exact decide_eq_false (by omega)
def ysm (rs:List (List Int))(i j:Nat):Bool:=yis (rs.getD i []) (rs.getD j [])
theorem yl3 (rs:List (List Int)):Ordr (ysm rs):=⟨fun _=>ytz _,fun _ _ _ a b=>yxq a b,fun _ _ a=>yt0 a⟩
section
variable {prog:Program}{w:World}{A:Around}{E:Value→Shared→Prop}{s:Shared}
theorem yjb {Q:Bool→Shared→Prop}:∀{xs ys:List Value}{as bs:List Int} (i:Nat),IntsAre xs as→IntsAre ys bs→as.length=bs.length→Q (yis as bs) s→KatLex prog w A true false Q (xs.zip ys) i s
 |_,_,_,_,i,.nil,.nil,_,q=>q
 |_,_,_,_,i,.cons n t r,.cons m u r',hl,q=>by
  show KatLex prog w A true false Q ((Value.int n t,Value.int m u)::_) i s
  refine kat_cons (wpAny_eqBool_int ?_)
  by_cases e:n=m
  ·rw[show (n == m)=true by simpa using e]
   refine kat_yes (yjb (i+1) r r' (by simpa using hl) ?_)
   have q':Q (if n=m then yis _ _ else _) s:=q
   rw[if_pos e] at q'
   exact q'
  ·rw[show (n == m)=false by simpa using e]
   refine kat_no ?_
   have q':Q (if n=m then yis _ _ else decide (n<m)) s:=q
   rw[if_neg e] at q'
   by_cases c:(true&&i == 0)=true
   ·rw[c];exact oneLt_int q'
   ·rw[Bool.eq_false_iff.mpr c]
    exact kat_one _ _ (lt_int q')
 |_,_,_,_,i,.nil,.cons _ _ _,hl,q=>by simp at hl
 |_,_,_,_,i,.cons _ _ _,.nil,hl,q=>by simp at hl
def TupsAt (h:Heap)(bs:List Addr)(rs:List (List Int)):Prop:=bs.length=rs.length∧∀(i:Nat) b r,bs[i]? = some b→rs[i]? = some r→∃its:List Value,IsTup h b its.toArray∧IntsAre its r
theorem TupsAt.tail {h:Heap}{b:Addr}{bs:List Addr}{r:List Int}{rs:List (List Int)}(t:TupsAt h (b::bs) (r::rs)):TupsAt h bs rs:=⟨by simpa using t.1,fun i c q e1 e2=>t.2 (i+1) c q (by simpa using e1) (by simpa using e2)⟩
theorem TupsAt.kat {h:Heap}:∀{bs:List Addr}{rs:List (List Int)},TupsAt h bs rs→(∀r∈rs,r≠[])→∃fs:List Value,fs.length=bs.length∧KatTups h (bs.map Value.ref) fs∧∀v∈fs,∃n t,v = .int n t
 |[],[],_,_=>⟨[],rfl,trivial,fun v hv=>by cases hv⟩
 |[],_::_,t,_=>by have:=t.1;simp at this
 |_::_,[],t,_=>by have:=t.1;simp at this
 |b::bs,r::rs,t,hn=>by
  obtain ⟨fs,h1,h2,h3⟩:=t.tail.kat fun q hq=>hn q (.tail _ hq)
  obtain ⟨its,⟨o,ho,hc,n,hd⟩,ia⟩:=t.2 0 b r rfl rfl
  cases ia with
  |nil=>exact absurd rfl (hn [] (.head _))
  |cons m k ia=>
   refine⟨.int m k::fs,by simp [h1],⟨⟨b,o,_,n,rfl,ho,hc,hd,rfl⟩,h2⟩,fun v hv=>?_⟩
   rcases List.mem_cons.mp hv with rfl|hv
   ·exact⟨m,k,rfl⟩
   ·exact h3 v hv
theorem TupsAt.ask {bs:List Addr}{rs:List (List Int)}{wd:Nat}(t:TupsAt s.heap bs rs)(hw:∀r∈rs,r.length=wd)(i j:Nat)(C:Bool→Shared→Prop)(hi:i<bs.length)(hj:j<bs.length)(q:C (ysm rs i j) s):kas_ask prog w A (tuples' true) (bs.map Value.ref) i j C s:=by
 have hi':i<rs.length:=by rw[← t.1];exact hi
 have hj':j<rs.length:=by rw[← t.1];exact hj
 obtain ⟨xs,⟨o,ho,_,n,hd⟩,ia⟩:=t.2 i bs[i] rs[i] (by simp [hi]) (by simp [hi'])
 obtain ⟨ys,⟨o',ho',_,n',hd'⟩,ib⟩:=t.2 j bs[j] rs[j] (by simp [hj]) (by simp [hj'])
 unfold kas_ask
 rw[show (bs.map Value.ref).getD i Value.none = .ref bs[i] by simp [hi],show (bs.map Value.ref).getD j Value.none = .ref bs[j] by simp [hj]]
 have la:xs.length=wd:=by rw[IntsAre.length ia];exact hw _ (List.getElem_mem hi')
 have lb:ys.length=wd:=by rw[IntsAre.length ib];exact hw _ (List.getElem_mem hj')
 refine kat_lt ho hd ho' hd' ?_
 rw[show decide (xs.toArray.size<ys.toArray.size)=false by simp [la,lb]]
 have q':C (yis rs[i] rs[j]) s:=by
  unfold ysm at q
  rw[show rs.getD i []=rs[i] by simp [hi'],show rs.getD j []=rs[j] by simp [hj']] at q
  exact q
 exact yjb 0 ia ib (by rw[hw _ (List.getElem_mem hi'),hw _ (List.getElem_mem hj')]) q'
theorem yqn {lt:Nat→Nat→Bool}(O:Ordr lt){p:Array Nat}{m:Nat}(h:m<2):Up lt p m:=fun i j hij hj=>by
 have:i=j:=by omega
 subst this
 exact O.irr _
theorem yl4 {a:Addr}{bs:List Addr}{rs:List (List Int)}{wd n:Nat}{P:PySem.Fin→Shared→Prop} (ho:s.heap.get? a=some (seqObj "list" (bs.map Value.ref).toArray n))
 (t:TupsAt s.heap bs rs) (hw:∀r∈rs,r.length=wd) (hw0:0<wd) (h64:bs.length<64)
 (h:∀p:Array Nat,PermN bs.length p→Up (ysm rs) p bs.length→P (.done (.ret .none)) { s with heap:=sortedHeap s.heap a (bs.map Value.ref) (List.toArray (p.toList.map fun i=>(bs.map Value.ref).getD i Value.none)) }) :
 wpAny (model prog w) A (Builtin.«list.sort» ⟨[.ref a],[]⟩) P E s:=by
 rw[list_sort_plain]
 have ha:a<s.heap.objs.size:=Heap.lt_size ho
 have hlen:(bs.map Value.ref).length=bs.length:=List.length_map ..
 refine zwb0 (listItems_at ho rfl ?_)
 refine zwb0 (listUpdate_at ho rfl ?_ (by rw[List.size_toArray,sizeLine_eq,hlen];omega) (Nat.zero_le _))
 obtain ⟨e1,ho1⟩ : ∃e1,(s.heap.update a (Obj.mapSeq fun _=>(#[]:Array Value))).get? a=some (seqObj "list" #[] e1):=⟨_,get?_update_seq ho (fun _=>#[])⟩
 refine zwb0 (seqEpoch_at ho1 rfl ?_)
 refine zwb0 (wpAny_newTuple ?_ (by show (bs.map Value.ref).length≤_;rw[sizeLine_eq,hlen];omega))
 refine zwb0 (wpAny_newList ?_ (Nat.zero_le _))
 refine wpAny_holding ?_
 have ho6:(((s.heap.update a (Obj.mapSeq fun _=>(#[]:Array Value))).push (seqObj "tuple" (bs.map Value.ref).toArray 0)).push (seqObj "list" #[] 0)).get? a=some (seqObj "list" #[] e1):=by
  rw[Heap.get?_push_ne _ _ _ (by rw[size_push',Heap.size_update];exact Nat.ne_of_lt (Nat.lt_succ_of_lt ha)),Heap.get?_push_ne _ _ _ (by rw[Heap.size_update];exact Nat.ne_of_lt ha)]
  exact ho1
 have t6:TupsAt (((s.heap.update a (Obj.mapSeq fun _=>(#[]:Array Value))).push (seqObj "tuple" (bs.map Value.ref).toArray 0)).push (seqObj "list" #[] 0)) bs rs:=⟨t.1,fun i b r x1 x2=>by
  obtain ⟨its,⟨o,g1,g2,k,g3⟩,ia⟩:=t.2 i b r x1 x2
  have nb:b≠a:=fun z=>by
   rw[z,ho] at g1
   cases g1
   exact absurd g2 (by simp)
  exact⟨its,⟨o,Heap.get?_push_of_some _ (Heap.get?_push_of_some _ ((Heap.get?_update_other _ _ nb.symm).trans g1)),g2,k,g3⟩,ia⟩⟩
 show wpAny (model prog w) A _ P E { s with heap:=((s.heap.update a (Obj.mapSeq fun _=>(#[]:Array Value))).push (seqObj "tuple" (bs.map Value.ref).toArray 0)).push (seqObj "list" #[] 0) }
 dsimp only
 have hsz:(bs.map Value.ref).toArray.size=bs.length:=by simp
 have hsz2:∀p:Array Nat,PermN bs.length p→(List.toArray (p.toList.map fun i=>(bs.map Value.ref).getD i Value.none)).size≤sizeLine+1:=fun p hp=>by
  rw[List.size_toArray,List.length_map,Array.length_toList,hp.size,sizeLine_eq];omega
 by_cases h2:(bs.map Value.ref).toArray.size<2
 ·rw[if_pos h2,if_pos h2]
  refine zwb0 (zwp0 ?_)
  rw[StateT.run_pure]
  refine zwb0 (zwp0 ?_)
  dsimp only
  refine zwb0 (seqEpoch_at ho6 rfl ?_)
  have pr:PermN bs.length (List.toArray (List.range bs.length)):=by unfold PermN;simp
  have eo:(arrOf (SortSt.mk' general' ((bs.map Value.ref).toArray.zip (bs.map Value.ref).toArray) #[] 7 none)).map (·.2)=List.toArray ((List.toArray (List.range bs.length)).toList.map fun i=>(bs.map Value.ref).getD i Value.none):=
   kat_snds (vs:=bs.map Value.ref) (ks:=bs.map Value.ref) (p:=List.toArray (List.range bs.length)) rfl (by
    have e:=kas_range ((bs.map Value.ref).toArray.zip (bs.map Value.ref).toArray)
    rw[show ((bs.map Value.ref).toArray.zip (bs.map Value.ref).toArray).size=bs.length by simp] at e
    exact e.symm)
  rw[eo]
  refine zwb0 (listUpdate_at ho6 rfl ?_ (Nat.zero_le _) (hsz2 _ pr))
  simp only[bne_self_eq_false,Bool.false_eq_true,if_false]
  exact zwp0 (h _ pr (yqn (yl3 rs) (by omega)))
 ·rw[if_neg h2,if_neg h2]
  obtain ⟨fs,f1,f2,f3⟩:=t6.kat fun r hr z=>by have:=hw r hr;rw[z] at this;simp at this;omega
  refine zwb0 (kat_kind (T:=.type "int") f2 (by omega) (fun v hv=>?_) rfl ?_)
  ·obtain ⟨m,k,rfl⟩:=f3 v hv
   exact Looks.of_pure rfl
  rw[show ((Value.type "int" : Value) != Value.type "tuple")=true from rfl]
  refine zwb0 (wpAny_mono (kat_run (A:=A) (vs:=bs.map Value.ref) (ks:=bs.map Value.ref) (κ:=tuples' true)
   (G:=fun p s'=>(PermN bs.length p∧Up (ysm rs) p bs.length)∧s' = { s with heap:=((s.heap.update a (Obj.mapSeq fun _=>(#[]:Array Value))).push (seqObj "tuple" (bs.map Value.ref).toArray 0)).push (seqObj "list" #[] 0) })
   (Q:=fun st' s'=>∃p:Array Nat,PermN bs.length p∧Up (ysm rs) p bs.length∧arrOf st'=p.map (kas_item ((bs.map Value.ref).toArray.zip (bs.map Value.ref).toArray))∧failedOf st'=none∧s' = { s with heap:=((s.heap.update a (Obj.mapSeq fun _=>(#[]:Array Value))).push (seqObj "tuple" (bs.map Value.ref).toArray 0)).push (seqObj "list" #[] 0) })
   rfl (by rw[hlen];omega) (by rw[hlen];exact h64) (fun p' st' s' a1 a2 a3 a4=>⟨p',a4.1.1,a4.1.2,a2,a3,a4.2⟩) ?_) ?_ fun _ _ e=>e)
  ·rw[hlen]
   exact ytr (n:=bs.length) (lt:=ysm rs) (fun i j C hi hj q=>TupsAt.ask t6 hw i j C hi hj q) (ycy (fun p hp=>⟨hp,rfl⟩) (ytu (yl3 rs) (by omega)))
  ·rintro ⟨⟨⟩,st'⟩ s' ⟨p,hp,hu,har,hf,rfl⟩
   dsimp only
   rw[kat_snds (vs:=bs.map Value.ref) (ks:=bs.map Value.ref) rfl har]
   refine zwb0 (seqEpoch_at ho6 rfl ?_)
   refine zwb0 (listUpdate_at ho6 rfl ?_ (Nat.zero_le _) (hsz2 p hp))
   rw[hf]
   simp only[bne_self_eq_false,Bool.false_eq_true,if_false]
   exact zwp0 (h p hp hu)
theorem yrn {l:Addr}{bs:List Addr}{rs:List (List Int)}{wd:Nat}{Q:Value→Shared→Prop}(hl:s.heap.IsList l (bs.map Value.ref).toArray)(t:TupsAt s.heap bs rs)(hw:∀r∈rs,r.length=wd)(hw0:0<wd)(h64:bs.length<64)
 (h:∀p:Array Nat,PermN bs.length p→Up (ysm rs) p bs.length→Q (.ref (s.heap.objs.size+1)) { s with heap:=sortedAll s.heap (bs.map Value.ref) (List.toArray (p.toList.map fun i=>(bs.map Value.ref).getD i Value.none)) }) :
 wpAny (model prog w) A (call (.builtin "sorted") [.ref l]) Q E s:=by
 have hlen:(bs.map Value.ref).length=bs.length:=List.length_map ..
 refine Calls.call_function_entry kind_sorted plain_sorted entry_sorted (args_sorted1 _) ?_
 unfold Builtin.«sorted»
 refine zwb0 (m:=checkCount "sorted" 1 1 _) (zwp0 ?_)
 refine zwb0 (collect_list hl ?_ (by rw[sizeLine_eq,hlen];omega))
 refine zwb0 (wpAny_newList ?_ (by rw[sizeLine_eq,hlen];omega))
 have hsz:((s.heap.push (seqObj "list" #[] 0)).update s.heap.objs.size (Obj.mapSeq (· ++ (bs.map Value.ref).toArray))).objs.size=s.heap.objs.size+1:=by
  rw[Heap.size_update,size_push']
 have hoL:(((s.heap.push (seqObj "list" #[] 0)).update s.heap.objs.size (Obj.mapSeq (· ++ (bs.map Value.ref).toArray))).push (seqObj "list" (bs.map Value.ref).toArray 0)).get? (s.heap.objs.size+1)=some (seqObj "list" (bs.map Value.ref).toArray 0):=by
  rw[← hsz];exact Heap.get?_push_size _ rfl
 have keep:∀b o,s.heap.get? b=some o→(((s.heap.push (seqObj "list" #[] 0)).update s.heap.objs.size (Obj.mapSeq (· ++ (bs.map Value.ref).toArray))).push (seqObj "list" (bs.map Value.ref).toArray 0)).get? b=some o:=fun b o q=>by
  have hlt:b<s.heap.objs.size:=Heap.lt_size q
  rw[Heap.get?_push_ne _ _ _ (by rw[hsz];exact Nat.ne_of_lt (Nat.lt_succ_of_lt hlt)),Heap.get?_update_ne _ _ _ _ (Nat.ne_of_lt hlt),Heap.get?_push_ne _ _ _ (Nat.ne_of_lt hlt)]
  exact q
 show wpAny _ _ _ _ _ { s with heap:=((s.heap.push (seqObj "list" #[] 0)).update s.heap.objs.size (Obj.mapSeq (· ++ (bs.map Value.ref).toArray))).push (seqObj "list" (bs.map Value.ref).toArray 0) }
 rw[hsz]
 refine zwb0 (wpAny_holding (wpAny_call_entry slot_list_sort ⟨_,hoL,rfl⟩ entry_list_sort (yl4 hoL ⟨t.1,fun i b r x1 x2=>?_⟩ hw hw0 h64 fun p a1 a2=>⟨_,rfl,?_⟩) (args_list_sort _)))
 ·obtain ⟨its,y1,y2⟩:=t.2 i b r x1 x2
  exact⟨its,y1.keeps keep,y2⟩
 ·exact zwp0 ⟨_,rfl,h p a1 a2⟩
end
section
variable {X:Cx}
def zda (K:PySem.W.Frag):List V→Hp→VK→Prop:=fun xs H Q=>∃(p:Addr) (ns:List Int),xs=[.ref p]∧SqL K H p (ns.map V.int)∧Q (.int ns.sum) H
theorem yf3 (hc:X.calm=true):ygw X (.builtin "sum") (zda X.K):=by
 intro pins s σ H xs us Q I r h
 obtain ⟨p,ns,rfl,hq,q⟩:=h
 obtain ⟨u,rfl,ru⟩:=r.one
 cases ru
 obtain ⟨its,rv,pl,hz⟩:=I.list hq
 have ia:=yht rv
 obtain ⟨ys,ey⟩:=ia.allInts.items
 have hl:=pl.isList
 have e2:(numsOf its.toArray.toList).sum=ns.sum:=by rw[show its.toArray.toList=its by simp,ia.numsOf]
 rw[ey] at hl e2
 refine sum_intListG (I.ok.hd hc) hl fun h' tk t' kk=>⟨.int ns.sum,H,I.kept (t':=tk) kk,⟨t',?_⟩,q⟩
 rw[nums_intItems] at e2
 rw[preSum_eq,List.take_of_length_le (by simp),e2]
def zao:List V→Hp→VK→Prop:=fun xs H Q=>∃(p:Addr) (rs:List (List Int)) (wd:Nat),xs=[.ref p]∧Rows H p rs∧rs.length<64∧(∀r∈rs,r.length=wd)∧0<wd∧∀(l:Addr) (ss:List (List Int)) (H':Hp),H l=none→ss.Perm rs→ss.Pairwise (fun a b=>yis b a=false)→Same H H'→Rows H' l ss→Q (.ref l) H'
theorem yk5:ygw X (.builtin "sorted") zao:=by
 intro pins s σ H xs us Q I r h
 obtain ⟨p,rs,wd,rfl,hR,h64,hw,hw0,q⟩:=h
 obtain ⟨u,rfl,ru⟩:=r.one
 cases ru
 obtain ⟨ps,h1,h2,h3⟩:=id hR
 obtain ⟨its,rv,pl,hz⟩:=I.list (SqL.of h1)
 have eits:its=ps.map Value.ref:=by
  clear hz pl h1 h2 h3 hR
  induction ps generalizing its with
  |nil=>cases rv;rfl
  |cons a r ih=>
   cases rv with
   |cons x t=>rw[show _=Value.ref a from x,ih _ t];rfl
 subst eits
 have tt:TupsAt s.heap ps rs:=⟨h2,fun i b r e1 e2=>by
  obtain ⟨_,us,rr,y⟩:=(show ObjOk X.prog X.w H s.heap b (.tup (r.map V.int)) from I.hok b _ (h3 i b r e1 e2))
  exact⟨us,y,yht rr⟩⟩
 have hps:ps.length<64:=by omega
 refine yrn pl.isList tt hw hw0 hps fun pp hp hu=>?_
 have hmem:∀i∈pp.toList,i<ps.length:=fun i hi=>List.mem_range.mp ((List.Perm.mem_iff hp).mp hi)
 have eo:(pp.toList.map fun i=>(ps.map Value.ref).getD i Value.none)=(pp.toList.map fun i=>ps.getD i 0).map Value.ref:=by
  rw[List.map_map]
  exact List.map_congr_left fun i hi=>by have:=hmem i hi;simp [this]
 obtain ⟨e,he⟩:=sortedAll_at s.heap (ps.map Value.ref) (List.toArray (pp.toList.map fun i=>(ps.map Value.ref).getD i Value.none))
 have vv:∀l:List Addr,Vals (l.map V.ref) (l.map Value.ref):=fun l=>by
  induction l with
  |nil=>exact .nil
  |cons a r ih=>exact .cons rfl ih
 have fr:H (s.heap.objs.size+1)=none:=I.hok.fresh (Nat.le_succ _)
 refine⟨.ref _,_,I.laid (t':=s.toks) (a:=s.heap.objs.size+1) (o:=.lst ((pp.toList.map fun i=>ps.getD i 0).map V.ref)) (fun b o e=>sortedAll_old e) (Nat.le_succ _) ⟨?_,(pp.toList.map fun i=>ps.getD i 0).map Value.ref,e,vv _,?_⟩,rfl,q _ (pp.toList.map fun i=>rs.getD i []) _ fr ?_ ?_ (yad fr _) ⟨_,yaa,by rw[List.length_map,List.length_map],fun i b r e1 e2=>?_⟩⟩
 ·rw[List.length_map,List.length_map,Array.length_toList,hp.size,sizeLine_eq];omega
 ·rw[he,eo]
 ·have e1:(List.range ps.length).map (fun i=>rs.getD i [])=rs:=by
   apply List.ext_getElem?
   intro i
   rw[List.getElem?_map]
   by_cases hi:i<ps.length
   ·rw[List.getElem?_range hi];simp [show i<rs.length by omega]
   ·rw[List.getElem?_eq_none (by simpa using hi),List.getElem?_eq_none (by omega)];rfl
  have:=hp.map (fun i=>rs.getD i [])
  rw[e1] at this
  exact this
 ·rw[List.pairwise_map,List.pairwise_iff_getElem]
  intro i j hi hj hij
  have hj':j<ps.length:=by rw[Array.length_toList,hp.size] at hj;exact hj
  have:=hu i j (Nat.le_of_lt hij) hj'
  have gi:gA pp i=pp.toList[i]:=by
   rw[Array.length_toList] at hi
   simp [gA,hi]
  have gj:gA pp j=pp.toList[j]:=by
   rw[Array.length_toList] at hj
   simp [gA,hj]
  rw[gi,gj] at this
  exact this
 ·rw[List.getElem?_map] at e1 e2
  cases ei:pp.toList[i]? with
  |none=>rw[ei] at e1;cases e1
  |some k=>
   rw[ei] at e1 e2
   have hk:=hmem k (List.mem_of_getElem? ei)
   have eb:ps[k]? = some b:=by have:=Option.some.inj e1;simp [hk] at this;simp [hk,this]
   have er:rs[k]? = some r:=by have:=Option.some.inj e2;simp [show k<rs.length by omega] at this;simp [show k<rs.length by omega,this]
   have hb:=h3 k b r eb er
   rw[yal (yak hb fr)]
   exact hb
end
section
variable {X:Cx}
def zb5:List V→Hp→VK→Prop:=fun xs H Q=>∃n:Int,xs=[.int n]∧∀l,H l=none→Q (.ref l) (upd H l (.rng 0 n))
theorem yt1:ygw X (.type "range") zb5:=by
 intro pins s σ H xs us Q I r h
 obtain ⟨n,rfl,q⟩:=h
 obtain ⟨u,rfl,ru⟩:=r.one
 obtain ⟨t,rfl⟩:=ru
 refine call_range_1 ?_
 exact⟨.ref _,_,I.laid (t':=s.toks+1+1) (a:=s.heap.objs.size) (o:=.rng 0 n) (fun b o e=>Heap.get?_push_of_some _ e) (Nat.le_refl _) ⟨_,_,_,Heap.get?_push_size _ rfl⟩,rfl,q _ (I.hok.fresh (Nat.le_refl _))⟩
def ydl (n:Nat):List Int:=(List.range n).map fun i=>((i:Nat):Int)
theorem ybe (n:Nat):(ydl n).length=n:=by simp [ydl]
def yv5:List V→Hp→VK→Prop:=fun xs H Q=>∃(p:Addr) (n:Nat),xs=[.ref p]∧H p=some (.rng 0 n)∧n≤1000∧∀l,H l=none→Q (.ref l) (upd H l (.lst ((ydl n).map V.int)))
theorem yt2 {acc:Array Value}{n:Nat}(h:ItemsOf (fun i v=>∃t,v=Value.int (0+(i:Int)*1) t) acc n):Vals ((ydl n).map V.int) acc.toList:=by
 obtain ⟨h1,h2⟩:=h
 have go:∀(l:List Value) (k:Nat),(∀(j:Nat) v,l[j]? = some v→∃t,v=Value.int ((k+j:Nat):Int) t)→Vals ((List.range' k l.length).map fun i=>V.int ((i:Nat):Int)) l:=by
  intro l
  induction l with
  |nil=>intro k _;exact .nil
  |cons a r ih=>
   intro k hl
   rw[List.length_cons,List.range'_succ,List.map_cons]
   obtain ⟨t,e⟩:=hl 0 a rfl
   refine .cons ⟨t,?_⟩ (ih (k+1) fun j v ev=>?_)
   ·rw[e,Nat.add_zero]
   ·obtain ⟨t,e⟩:=hl (j+1) v (by simpa using ev)
    exact⟨t,by rw[e];congr 1;omega⟩
 have:=go acc.toList 0 fun j v ev=>by
  obtain ⟨t,e⟩:=h2 j v (by simpa using ev)
  exact⟨t,by rw[e];congr 1;omega⟩
 rw[Array.length_toList,h1] at this
 unfold ydl
 rw[List.map_map,List.range_eq_range']
 exact this
theorem yl5 (hc:X.calm=true):ygw X (.type "list") yv5:=by
 intro pins s σ H xs us Q I r h
 obtain ⟨p,n,rfl,hp,hn,q⟩:=h
 obtain ⟨u,rfl,ru⟩:=r.one
 cases ru
 obtain ⟨t1,t2,t3,ho⟩:=(show ObjOk X.prog X.w H s.heap p (.rng 0 n) from I.hok p _ hp)
 refine call_list_range (a:=0) (b:=(n:Int)) (c:=1) (n:=n) (I.ok.hd hc) ho (small_one (by decide) (by decide) (by omega) (by omega)) ?_ (by omega) fun h' tk acc' c' kk e it=>?_
 ·rw[rangeSize_one]
  split <;> omega
 ·refine⟨.ref _,_,I.laid (t':=tk) (a:=s.heap.objs.size) (o:=.lst ((ydl n).map V.int)) kk (Nat.le_refl _) ⟨?_,acc'.toList,c',yt2 it,by simpa using e⟩,rfl,q _ (I.hok.fresh (Nat.le_refl _))⟩
  rw[List.length_map,ybe,sizeLine_eq];omega
end
theorem yhu (n:Nat):ydl (n+1)=ydl n++[((n:Nat):Int)]:=by
 unfold ydl
 rw[List.range_succ,List.map_append];rfl
theorem uptoN_mem {n:Nat}{i:Int}:i∈ydl n↔0≤i∧i<n:=by
 unfold ydl
 rw[List.mem_map]
 constructor
 ·rintro ⟨k,hk,rfl⟩
  have:=List.mem_range.mp hk
  omega
 ·intro h
  exact⟨i.toNat,List.mem_range.mpr (by omega),by omega⟩
abbrev yav (rs:List (List Int))(k:Nat)(i:Int):Int:=(rs.getD i.toNat []).getD k 0
def yki (rs:List (List Int))(i:Int):List Int:=[yav rs 0 i,i]
def yyt (rs:List (List Int))(i:Int):List Int:=[-(yav rs 2 i),yav rs 0 i,i]
def ydt (key:Int→List Int)(n:Nat)(os:List Int):Prop:=os.Perm (ydl n)∧os.Pairwise (fun i j=>yis (key j) (key i)=false)
theorem yk6 {key:Int→List Int}{lst:List Int→Int}(hk:∀i,lst (key i)=i){n:Nat}{ss:List (List Int)}(hp:ss.Perm ((ydl n).map key))(ho:ss.Pairwise (fun a b=>yis b a=false)):ydt key n (ss.map lst):=by
 have e:(ss.map lst).map key=ss:=by
  rw[List.map_map]
  conv=>rhs;rw[← List.map_id ss]
  refine List.map_congr_left fun r hr=>?_
  obtain ⟨i,_,rfl⟩:=List.mem_map.mp (hp.mem_iff.mp hr)
  show key (lst (key i))=key i
  rw[hk]
 refine⟨?_,?_⟩
 ·have:=hp.map lst
  rw[List.map_map] at this
  rw[show (ydl n).map (lst ∘ key)=ydl n by
   conv=>rhs;rw[← List.map_id (ydl n)]
   exact List.map_congr_left fun i _=>hk i] at this
  exact this
 ·rw[← e,List.pairwise_map] at ho
  exact ho
def yro (key:List (List Int)→Int→List Int)(ok:List Int→Prop):Sp:=fun vs H Q _=>∃(a:Addr) (rs:List (List Int)),vs=[.ref a]∧Rows H a rs∧rs.length≤60∧(∀r∈rs,ok r)∧
 ∀(l:Addr) (os:List Int) (H':Hp),H l=none→Same H H'→ydt (key rs) rs.length os→H' l=some (.lst (os.map V.int))→Q (.ref l) H'
def okE (r:List Int):Prop:=1≤r.length
def okD (r:List Int):Prop:=r.length=3
theorem yfd {rs:List (List Int)}{i:Nat}{r:List Int}(e:rs[i]? = some r):rs.getD ((i:Nat):Int).toNat []=r:=by
 rw[Int.toNat_natCast,List.getD_eq_getElem?_getD,e];rfl
def yk7 (rs:List (List Int))(ts:List Int)(i:Nat):Prop:=∀(j:Nat) r u,j<i→rs[j]? = some r→ts[j]? = some u→0≤u∧u≤r.getD 1 0
theorem yjc {rs:List (List Int)}{ts:List Int}:yk7 rs ts 0:=fun j r u h=>absurd h (Nat.not_lt_zero _)
theorem yjd {rs:List (List Int)}{ts:List Int}{i:Nat}{r:List Int}{u:Int}(er:rs[i]? = some r)(eu:ts[i]? = some u):yk7 rs ts (i+1)↔yk7 rs ts i∧0≤u∧u≤r.getD 1 0:=by
 constructor
 ·intro h
  exact⟨fun j r u hj=>h j r u (by omega),h i r u (by omega) er eu⟩
 ·rintro ⟨h,g⟩ j r' u' hj e1 e2
  by_cases c:j<i
  ·exact h j r' u' c e1 e2
  ·have:j=i:=by omega
   subst this
   rw[er] at e1
   rw[eu] at e2
   cases e1
   cases e2
   exact g
def ye9 (rs:List (List Int))(ts:List Int):Prop:=ts.length=rs.length∧yk7 rs ts rs.length
def ybf (H:Hp)(b:Addr)(ts:List Int):Prop:=H b=some (.lst (ts.map V.int))
theorem yc1 {os:List Int}{i:Nat}{x:V}(e:(os.map V.int)[i]? = some x):∃v,x = .int v∧os[i]? = some v:=by
 rw[List.getElem?_map] at e
 cases q:os[i]? with
 |none=>rw[q] at e;cases e
 |some v=>rw[q] at e;exact⟨v,(Option.some.inj e).symm,rfl⟩
theorem yqo {os:List Int}{r:Int}{i:Nat}(hr:r=(i:Int))(h:i<os.length):atI (os.map V.int) r=some (.int os[i]):=by
 subst hr
 exact ycz (by rw[List.getElem?_map,List.getElem?_eq_getElem h];rfl)
def yhv (cT:Addr):Sp:=fun vs H Q E=>∃(a b:Addr) (rs:List (List Int)) (ts:List Int),vs=[.ref a,.ref b]∧Rows H a rs∧(∀r∈rs,r.length=3)∧ybf H b ts∧rs.length≤100∧ts.length≤100∧
 (¬ ye9 rs ts→∀H',Same H H'→E (.ref cT) none H')∧(ye9 rs ts→∀l H',H l=none→Same H H'→ybf H' l ts→Q (.ref l) H')
def vbm:List Value:=[.type "ValueError",.type "Exception",.type "BaseException",.type "object"]
theorem zb6 {P:Program}{w:World}{X:Cx}:yi1 (CXE P w) X E0:=fun _ _ _ _ _ _ _ h=>by
 obtain ⟨_,_,_,_,_,_,_,_,h,_⟩:=h
 exact h.elim
abbrev yeu (t:Int):Prop:=0≤t∧t≤400
def yqp (c:Addr):Sp:=fun vs H Q E=>∃v:Int,vs=[.int v]∧(yeu v→Q .non H)∧(¬ yeu v→E (.ref c) none H)
theorem yv6 {lo v hi:Int}{R:Bool→Prop}(h:R (decide (lo≤v∧v≤hi))):∃i j:Int,V.int lo = .int i∧V.int v = .int j∧∃b,V.bl (decide (i≤j)) = .bl b∧if b=true then ∃i' j':Int,V.int v = .int i'∧V.int hi = .int j'∧∃b',V.bl (decide (i'≤j')) = .bl b'∧R b' else ∃b',V.bl false = .bl b'∧R b':=by
 refine⟨_,_,rfl,rfl,_,rfl,?_⟩
 refine ys9 (fun c=>?_) (fun c=>?_)
 ·have c1:lo≤v:=of_decide_eq_true c
  refine⟨_,_,rfl,rfl,_,rfl,?_⟩
  have e:decide (v≤hi)=decide (lo≤v∧v≤hi):=by by_cases z:v≤hi <;> simp [z,c1]
  rw[e];exact h
 ·have c1:¬ lo≤v:=of_decide_eq_false (Bool.eq_false_iff.mpr c)
  have e:false=decide (lo≤v∧v≤hi):=by simp [c1]
  exact⟨_,rfl,by rw[e];exact h⟩
def yje (cl:Nat→Addr):Nat→Addr
 |0=>cl 1
 |1=>cl 3
 |_=>cl 4
def ykj (tm f l:Int)(r:List Int):Bool:=decide (f≤r.getD 0 0∧r.getD 0 0≤l+tm)
def ybc (rs:List (List Int))(tm f l:Int):Int:=((rs.filter (ykj tm f l)).map fun r=>r.getD 1 0).sum
theorem yci {α:Type}{rs:List α}{i:Nat}{r:α}(p:α→Bool)(e:rs[i]? = some r):(rs.take (i+1)).filter p=(rs.take i).filter p++if p r=true then [r] else []:=by
 obtain ⟨hi,e'⟩:=List.getElem?_eq_some_iff.mp e
 rw[List.take_succ_eq_append_getElem hi,List.filter_append,e']
 congr 1
 by_cases z:p r=true
 ·rw[if_pos z,List.filter_cons_of_pos z];rfl
 ·rw[if_neg z,List.filter_cons_of_neg z];rfl
def yhw:Sp:=fun vs H Q _=>∃(a p:Addr) (tm f l:Int) (rs:List (List Int)),vs=[.ref a,.int tm,.ref p]∧Rows H a rs∧(∀r∈rs,r.length=2)∧rs.length≤100∧H p=some (.tup [.int f,.int l])∧∀H',Same H H'→Q (.int (ybc rs tm f l)) H'
structure XcL (K:PySem.W.Frag) (cl:Nat→Addr) (l:List Nat):Prop where
 x:∀i∈l,XCls K (cl i)
 m:∀i∈l,PySem.W.exmOne K (.ref (cl i)) (.ref (cl 0))=some true
 d:∀i∈l,∀j∈l,PySem.W.kitOne K (.ref (cl i)) (.ref (cl j))=some (decide (i=j))
 v:∀i∈l,PySem.W.kitOne K (.ref (cl i)) (.type "ValueError")=some true
def zb7 (K:PySem.W.Frag):V→V→Hp→VK→Prop:=fun x y H Q=>∃p xs i v,x = .ref p∧y = .int i∧SqL K H p xs∧0≤i∧xs[i.toNat]? = some v∧Q v H
theorem yqq {X:Cx}:zck X (zb7 X.K):=by
 intro pins s σ H o i ov iv Q I ro ri h
 obtain ⟨p,xs,k,v,rfl,rfl,hS,h0,hv,q⟩:=h
 cases ro
 obtain ⟨t,rfl⟩:=ri
 obtain ⟨its,r,pl,hz⟩:=I.list hS
 obtain ⟨w,ew,rw'⟩:=r.get hv
 have hk:=(List.getElem?_eq_some_iff.mp hv).1
 have hn:=ykx
 exact wpAny_getItem_list pl.isList h0 (by omega) (by simpa using ew) ⟨v,H,I,rw',q⟩
def yl6 (ps:List (List Int))(j:Nat):Int:=((ps.filter fun r=>decide (r.getD 0 0=(j:Int))).map fun r=>r.getD 1 0).sum
def yca (n:Nat)(ps:List (List Int)):List Int:=(List.range n).map (yl6 ps)
theorem ygj {n:Nat}{ps:List (List Int)}:(yca n ps).length=n:=by unfold yca;rw[List.length_map,List.length_range]
theorem yrp {n:Nat}:yca n []=List.replicate n 0:=by
 unfold yca
 refine List.ext_getElem (by simp) fun i h1 h2=>?_
 rw[List.getElem_map,List.getElem_replicate];rfl
theorem yk8 {ps:List (List Int)}{i:Nat}{a c:Int}(e:ps[i]? = some [a,c])(j:Nat):yl6 (ps.take (i+1)) j=if a=(j:Int) then yl6 (ps.take i) j+c else yl6 (ps.take i) j:=by
 unfold yl6
 rw[yci _ e]
 by_cases z:a=(j:Int)
 ·rw[if_pos z,if_pos (by simpa using z),List.map_append,List.sum_append]
  show _+(c+0)=_
  omega
 ·rw[if_neg z,if_neg (by simpa using z),List.append_nil]
theorem ype {n:Nat}{ps:List (List Int)}{i:Nat}{a c:Int}(e:ps[i]? = some [a,c])(h0:0≤a)(h1:a<(n:Int)):yca n (ps.take (i+1))=(yca n (ps.take i)).set a.toNat (yl6 (ps.take i) a.toNat+c):=by
 refine List.ext_getElem (by rw[List.length_set,ygj,ygj]) fun j h1' h2'=>?_
 have hj:j<n:=by rw[ygj] at h1';exact h1'
 have g1:∀(qs:List (List Int)) (hh:j<(yca n qs).length),(yca n qs)[j]=yl6 qs j:=fun qs hh=>by simp [yca]
 rw[g1,List.getElem_set]
 by_cases z:a.toNat=j
 ·rw[if_pos z,yk8 e,if_pos (by omega),z]
 ·rw[if_neg z,g1,yk8 e,if_neg (by omega)]
theorem yrq {n:Nat}{ps:List (List Int)}{a:Int}(h0:0≤a)(h1:a<(n:Int)):(yca n ps)[a.toNat]? = some (yl6 ps a.toNat):=by
 unfold yca
 rw[List.getElem?_map,List.getElem?_range (by omega)];rfl
def ypf (c:Addr):Sp:=fun vs H Q E=>∃(a:Addr) (i:Int) (xs:List V),vs=[.ref a,.int i]∧H a=some (.lst xs)∧((0≤i∧i<(xs.length:Int))→Q .non H)∧(¬ (0≤i∧i<(xs.length:Int))→E (.ref c) none H)
def yit:Sp:=fun vs H Q _=>∃(n:Int) (p:Addr) (ps:List (List Int)),vs=[.int n,.ref p]∧0≤n∧n≤100∧Rows H p ps∧(∀r∈ps,r.length=2∧0≤r.getD 0 0∧r.getD 0 0<n)∧∀l H',H l=none→Same H H'→ybf H' l (yca n.toNat ps)→Q (.ref l) H'
def yjf (ts:List (List Int)):List (List Int):=ts.map fun r=>[r.getD 0 0,r.getD 2 0]
def yt3 (n:Nat)(ts:List (List Int)):Prop:=∀r∈ts,0≤r.getD 0 0∧r.getD 0 0<(n:Int)
def yhx (cl:Nat→Addr):Sp:=fun vs H Q E=>∃(a b:Addr) (rs ts:List (List Int)),vs=[.ref a,.ref b]∧Rows H a rs∧(∀r∈rs,r.length=3)∧Rows H b ts∧(∀r∈ts,r.length=3)∧ts.length≤100∧
 (30<rs.length→E (.ref (cl 5)) none H)∧(rs.length≤30→∀j,ybk rs=some j→∀H',Same H H'→E (.ref (yje cl j)) none H')∧
 (rs.length≤30→ybk rs=none→(¬ yt3 rs.length ts→∀H',Same H H'→E (.ref (cl 9)) none H')∧(yt3 rs.length ts→∀l H',H l=none→Same H H'→ybf H' l (yca rs.length (yjf ts))→Q (.ref l) H'))
theorem yyu {K:PySem.W.Frag}{H:Hp}{l e:Addr}{xs:List V}{neg:Bool}{Q:VK}(hl:H l=some (.lst xs))(he:H e=some (.lst []))(q:Q (.bl (neg != decide (xs.length=0))) H):zaf K neg (.ref l) (.ref e) H Q:=by
 refine⟨l,e,xs,[],rfl,rfl,SqL.of hl,SqL.of he,?_⟩
 by_cases z:xs.length=0
 ·refine .inr ⟨z,0,fun _=>true,by decide,fun j x y e1 e2=>(by cases e2),?_⟩
  rw[z] at q ⊢
  exact q
 ·refine .inl ⟨z,?_⟩
  rw[decide_eq_false z] at q
  cases neg <;> exact q
end L2
namespace K28
open PySem L2
structure Txt (K:PySem.W.Frag) (mg:Str→Option Value) (cl:Nat→Addr):Prop where
 FIRST_DAY:∃t,mg "FIRST_DAY" = some (.int 1 t)
 LAST_DAY:∃t,mg "LAST_DAY" = some (.int 999 t)
 MOST_TERM:∃t,mg "MOST_TERM" = some (.int 400 t)
 MOST_ROWS:∃t,mg "MOST_ROWS" = some (.int 30 t)
 MOST_COUNT:∃t,mg "MOST_COUNT" = some (.int 10000000000 t)
 MOST_DUTY:∃t,mg "MOST_DUTY" = some (.int 1000000 t)
 gCustomsError:mg "CustomsError" = some (.ref (cl 0))
 gBadDay:mg "BadDay" = some (.ref (cl 1))
 gBadTerm:mg "BadTerm" = some (.ref (cl 2))
 gBadCount:mg "BadCount" = some (.ref (cl 3))
 gBadDuty:mg "BadDuty" = some (.ref (cl 4))
 gBadRows:mg "BadRows" = some (.ref (cl 5))
 gBadTaken:mg "BadTaken" = some (.ref (cl 7))
 gNotDealable:mg "NotDealable" = some (.ref (cl 8))
 gNoPlace:mg "NoPlace" = some (.ref (cl 9))
 eBadDay:PySem.W.excIn K (cl 1) vbm "ValueError.__new__" = true
 eBadTerm:PySem.W.excIn K (cl 2) vbm "ValueError.__new__" = true
 eBadCount:PySem.W.excIn K (cl 3) vbm "ValueError.__new__" = true
 eBadDuty:PySem.W.excIn K (cl 4) vbm "ValueError.__new__" = true
 eBadRows:PySem.W.excIn K (cl 5) vbm "ValueError.__new__" = true
 eBadTaken:PySem.W.excIn K (cl 7) vbm "ValueError.__new__" = true
 eNotDealable:PySem.W.excIn K (cl 8) vbm "ValueError.__new__" = true
 eNoPlace:PySem.W.excIn K (cl 9) vbm "ValueError.__new__" = true
abbrev ygk:Stmt:=top 14
abbrev yv7:List Str:=["day"]
abbrev yhd:List Str:=["day"]
theorem yt4:FnScope yv7 yhd (yac ygk):=⟨rfl,rfl,rfl,by decide +kernel,rfl,by decide +kernel,by decide +kernel⟩
abbrev ydu:Stmt:=top 15
abbrev ypg:List Str:=["day"]
abbrev yc2:List Str:=["day"]
theorem ynv:FnScope ypg yc2 (yac ydu):=⟨rfl,rfl,rfl,by decide +kernel,rfl,by decide +kernel,by decide +kernel⟩
abbrev yc5:Stmt:=top 16
abbrev ynw:List Str:=["term"]
abbrev yc6:List Str:=["term"]
theorem yl7:FnScope ynw yc6 (yac yc5):=⟨rfl,rfl,rfl,by decide +kernel,rfl,by decide +kernel,by decide +kernel⟩
abbrev yc7:Stmt:=top 22
abbrev ynx:List Str:=["rows"]
abbrev yc8:List Str:=["rows"]
theorem yl8:FnScope ynx yc8 (yac yc7):=⟨rfl,rfl,rfl,by decide +kernel,rfl,by decide +kernel,by decide +kernel⟩
abbrev ycm:Stmt:=top 23
abbrev yl9:List Str:=["count"]
abbrev ycn:List Str:=["count"]
theorem ykk:FnScope yl9 ycn (yac ycm):=⟨rfl,rfl,rfl,by decide +kernel,rfl,by decide +kernel,by decide +kernel⟩
abbrev yc9:Stmt:=top 24
abbrev yny:List Str:=["duty"]
abbrev yd8:List Str:=["duty"]
theorem yma:FnScope yny yd8 (yac yc9):=⟨rfl,rfl,rfl,by decide +kernel,rfl,by decide +kernel,by decide +kernel⟩
abbrev ycd:Stmt:=top 25
abbrev ykl:List Str:=["lots","told","day","count","duty"]
abbrev yce:List Str:=["lots"]
theorem sc_checked_lots:FnScope ykl yce (yac ycd):=⟨rfl,rfl,rfl,by decide +kernel,rfl,by decide +kernel,by decide +kernel⟩
abbrev ycf:Stmt:=top 26
abbrev ykm:List Str:=["outs","told","day","count"]
abbrev ycu:List Str:=["outs"]
theorem sc_checked_outs:FnScope ykm ycu (yac ycf):=⟨rfl,rfl,rfl,by decide +kernel,rfl,by decide +kernel,by decide +kernel⟩
abbrev ygz:Stmt:=top 32
abbrev yt5:List Str:=["outs","term","stretch","first","last"]
abbrev yhy:List Str:=["outs","term","stretch"]
theorem sc_going:FnScope yt5 yhy (yac ygz):=⟨rfl,rfl,rfl,by decide +kernel,rfl,by decide +kernel,by decide +kernel⟩
abbrev yco:Stmt:=top 41
abbrev ymb:List Str:=["rows","at"]
abbrev ydf:List Str:=["rows","at"]
theorem ykn:FnScope ymb ydf (yac yco):=⟨rfl,rfl,rfl,by decide +kernel,rfl,by decide +kernel,by decide +kernel⟩
abbrev ygl:Stmt:=top 47
abbrev yv8:List Str:=["many","pairs","told","at","count"]
abbrev ygm:List Str:=["many","pairs"]
theorem sc_summed:FnScope yv8 ygm (yac ygl):=⟨rfl,rfl,rfl,by decide +kernel,rfl,by decide +kernel,by decide +kernel⟩
abbrev yc3:Stmt:=top 50
abbrev yjg:List Str:=["lots","rows","goods","lot","out","count"]
abbrev yev:List Str:=["lots","rows"]
theorem sc_counts_of:FnScope yjg yev (yac yc3):=⟨rfl,rfl,rfl,by decide +kernel,rfl,by decide +kernel,by decide +kernel⟩
section
variable {P:Program}{w:World}{K:PySem.W.Frag}{mg:Str→Option Value}{base:Heap}{f:Addr}{fd:FuncData}{cl:Nat→Addr}(T:Txt K mg cl)(B:Bn mg)
include T B
theorem yt6 (F:Fun K "is_day" "is_day" ygk f fd):FnOk P w K mg base CX0 1 f fd yhd yo9:=by
 refine F.ok yt4 (fun vs H Q E h=>?_) (fun cdv A outer s H vs Q E hr h=>?_)
 ·obtain ⟨d,rfl,_⟩:=h;rfl
 obtain ⟨d,rfl,q⟩:=h
 refine⟨_,(yah (yat (yls ydk ydk (yii rfl T.FIRST_DAY) (pv 0) (yii rfl T.LAST_DAY)))),?_⟩
 refine⟨_,rfl,_,_,rfl,rfl,_,rfl,?_⟩
 refine ys9 (fun c=>?_) (fun c=>?_)
 ·have c1:(1:Int)≤d:=of_decide_eq_true c
  refine⟨_,_,rfl,rfl,?_⟩
  have e:decide (d≤999)=decide (inB d 999):=by by_cases z:d≤999 <;> simp [z,c1,inB]
  show Q (.bl (decide (d≤999))) H
  rw[e];exact q
 ·have c1:¬ (1:Int)≤d:=of_decide_eq_false (Bool.eq_false_iff.mpr c)
  have e:false=decide (inB d 999):=by simp [inB,c1]
  show Q (.bl false) H
  rw[e];exact q
theorem ynz (G_is_day:Cal P w K mg base CX0 1 "is_day" yhd yo9) (F:Fun K "check_day" "check_day" ydu f fd):FnOk P w K mg base (CXE P w) 2 f fd yc2 (ysl (cl 1) 999):=by
 refine F.okE ynv (fun vs H Q E h=>?_) (fun cdv A outer s H vs Q E hr h=>?_)
 ·obtain ⟨d,rfl,_⟩:=h;rfl
 obtain ⟨d,rfl,q1,q2⟩:=h
 refine⟨_,yah (yb7 (yfa (yfq (yam G_is_day hr rfl ya1 (yaj (pv 0) yab)) (fun _=>rfl))) (yah (yei (E:=E) rfl T.gBadDay T.eBadDay PySem.F.excBase_ValueError rfl yg9 (yaj ybl yab))) ya6),?_⟩
 refine⟨_,rfl,d,rfl,_,rfl,?_⟩
 by_cases c:inB d 999
 ·rw[decide_eq_true c]
  exact yct (q1 c)
 ·rw[decide_eq_false c]
  exact ycl ⟨by show 1≤sizeLine;decide,q2 c⟩
theorem ymc (F:Fun K "check_term" "check_term" yc5 f fd):FnOk P w K mg base (CXE P w) 2 f fd yc6 (yqp (cl 2)):=by
 refine F.okE yl7 (fun vs H Q E h=>?_) (fun cdv A outer s H vs Q E hr h=>?_)
 ·obtain ⟨d,rfl,_⟩:=h;rfl
 obtain ⟨d,rfl,q1,q2⟩:=h
 refine⟨_,(yah (yb7 (yfa (yd5 ydk ydk yaf (pv 0) (yii rfl T.MOST_TERM))) (yah (yei (E:=E) rfl T.gBadTerm T.eBadTerm PySem.F.excBase_ValueError rfl yg9 (yaj ybl yab))) ya6)),?_⟩
 refine⟨_,rfl,?_⟩
 refine yv6 (lo:=0) (v:=d) (hi:=400) ?_
 by_cases c:yeu d
 ·rw[decide_eq_true c]
  exact yct (q1 c)
 ·rw[decide_eq_false c]
  exact ycl ⟨by show 1≤sizeLine;decide,q2 c⟩
theorem ymd (F:Fun K "check_many" "check_many" yc7 f fd):FnOk P w K mg base (CXE P w) 2 f fd yc8 (yql (cl 5)):=by
 refine F.okE yl8 (fun vs H Q E h=>?_) (fun cdv A outer s H vs Q E hr h=>?_)
 ·obtain ⟨a,xs,rfl,_⟩:=h;rfl
 obtain ⟨a,xs,rfl,ha,q1,q2⟩:=h
 refine⟨_,(yah (yb7 (yay ylr (yaq yar rfl B.len PySem.boot_len (yaj (pv 0) yab)) (yii rfl T.MOST_ROWS) (ya7 _)) (yah (yei (E:=E) rfl T.gBadRows T.eBadRows PySem.F.excBase_ValueError rfl yg9 (yaj ybl yab))) ya6)),?_⟩
 refine⟨_,rfl,a,_,rfl,.inl (SqL.of ha),_,_,rfl,rfl,_,rfl,?_⟩
 by_cases c:(30:Int)<xs.length
 ·rw[decide_eq_true c]
  exact ycl ⟨by show 1≤sizeLine;decide,q2 (by omega)⟩
 ·rw[decide_eq_false c]
  exact yct (q1 (by omega))
theorem yko (F:Fun K "check_count" "check_count" ycm f fd):FnOk P w K mg base (CXE P w) 2 f fd ycn (ysl (cl 3) 10000000000):=by
 refine F.okE ykk (fun vs H Q E h=>?_) (fun cdv A outer s H vs Q E hr h=>?_)
 ·obtain ⟨d,rfl,_⟩:=h;rfl
 obtain ⟨d,rfl,q1,q2⟩:=h
 refine⟨_,(yah (yb7 (yfa (yd5 ydk ydk yaf (pv 0) (yii rfl T.MOST_COUNT))) (yah (yei (E:=E) rfl T.gBadCount T.eBadCount PySem.F.excBase_ValueError rfl yg9 (yaj ybl yab))) ya6)),?_⟩
 refine⟨_,rfl,?_⟩
 refine yqm (v:=d) (hi:=10000000000) ?_
 by_cases c:inB d 10000000000
 ·rw[decide_eq_true c]
  exact yct (q1 c)
 ·rw[decide_eq_false c]
  exact ycl ⟨by show 1≤sizeLine;decide,q2 c⟩
theorem yme (F:Fun K "check_duty" "check_duty" yc9 f fd):FnOk P w K mg base (CXE P w) 2 f fd yd8 (ysl (cl 4) 1000000):=by
 refine F.okE yma (fun vs H Q E h=>?_) (fun cdv A outer s H vs Q E hr h=>?_)
 ·obtain ⟨d,rfl,_⟩:=h;rfl
 obtain ⟨d,rfl,q1,q2⟩:=h
 refine⟨_,(yah (yb7 (yfa (yd5 ydk ydk yaf (pv 0) (yii rfl T.MOST_DUTY))) (yah (yei (E:=E) rfl T.gBadDuty T.eBadDuty PySem.F.excBase_ValueError rfl yg9 (yaj ybl yab))) ya6)),?_⟩
 refine⟨_,rfl,?_⟩
 refine yqm (v:=d) (hi:=1000000) ?_
 by_cases c:inB d 1000000
 ·rw[decide_eq_true c]
  exact yct (q1 c)
 ·rw[decide_eq_false c]
  exact ycl ⟨by show 1≤sizeLine;decide,q2 c⟩
theorem yjh (G_check_many:Cal P w K mg base (CXE P w) 2 "check_many" yc8 (yql (cl 5))) (G_check_day:Cal P w K mg base (CXE P w) 2 "check_day" yc2 (ysl (cl 1) 999)) (G_check_count:Cal P w K mg base (CXE P w) 2 "check_count" ycn (ysl (cl 3) 10000000000)) (G_check_duty:Cal P w K mg base (CXE P w) 2 "check_duty" yd8 (ysl (cl 4) 1000000)) (F:Fun K "checked_lots" "checked_lots" ycd f fd):FnOk P w K mg base (CXE P w) 3 f fd yce (ypa (cl 5) (yje cl) 3):=by
 refine F.okE sc_checked_lots (fun vs H Q E h=>?_) (fun cdv A outer s H vs Q E hr h=>?_)
 ·obtain ⟨a,rs,rfl,_⟩:=h;rfl
 obtain ⟨a,rs,rfl,hR,h3,q1,q2,q3⟩:=h
 refine⟨_,(yae (ybm (yam (E:=E) G_check_many hr rfl (yeg fun _ _ z=>z) (yaj (pv 0) yab)))
  (yae (yas (i:=1) sc_checked_lots.nd rfl (Or.inl rfl) (yb5 yab))
  (yae (ycr PassesOwn.leaving rfl (ya9 (pv 0)) (ya8 rfl (yag (yai (i:=2) sc_checked_lots.nd rfl (Or.inl rfl)) (yag (yai (i:=3) sc_checked_lots.nd rfl (Or.inl rfl)) (yag (yai (i:=4) sc_checked_lots.nd rfl (Or.inl rfl)) yax)))) (yae (ybm (yam (E:=E) G_check_day hr rfl (yeg fun _ _ z=>z) (yaj (pv 2) yab)))
   (yae (ybm (yam (E:=E) G_check_count hr rfl (yeg fun _ _ z=>z) (yaj (pv 3) yab)))
   (yae (ybm (yam (E:=E) G_check_duty hr rfl (yeg fun _ _ z=>z) (yaj (pv 4) yab)))
   (yah (ybm (ylv PySem.F.plainAttrs_list PySem.F.slot_list_append PySem.F.type_list_append ydd (pv 1) (yaj (ybd (yaj (pv 2) (yaj (pv 3) (yaj (pv 4) yab)))) yab))))))))
  (yah (yat (pv 1)))))),?_⟩
 obtain ⟨xs,ex,exl,exi⟩:=hR.get
 refine⟨_,rfl,a,xs,rfl,ex,fun c=>?_,fun c=>q1 (by omega)⟩
 have c30:rs.length≤30:=by omega
 refine⟨by show 0≤sizeLine;decide,fun l hl=>?_⟩
 refine⟨_,rfl,a,rfl,⟨xs,SqL.of (by rw[yal (yak ex hl)];exact ex)⟩,?_⟩
 refine ydb (xs:=xs) (fun i σ H3=>∃o2 o3 o4,σ=[some (.ref a),some (.ref l),o2,o3,o4]∧Same H H3∧Rows H3 l (rs.take i)∧ybk (rs.take i)=none) ⟨_,_,_,rfl,yad hl _,Rows.nil yaa,rfl⟩ ?_ ?_ ?_
 ·rintro i σ H3 hi ⟨o2,o3,o4,rfl,sm,_⟩
  exact SqL.of (sm _ _ ex)
 ·rintro i x σ H3 exi' ⟨o2,o3,o4,rfl,sm,R3,hb⟩
  obtain ⟨p,r,rfl,er,hp⟩:=exi i x exi'
  obtain ⟨d,c,u,rfl⟩:=yl2 (h3 r (List.mem_of_getElem? er))
  refine⟨p,_,rfl,SqT.of (sm _ _ hp),rfl,_,_,rfl,_,_,rfl,_,_,rfl,rfl,?_⟩
  have bad:∀j,yb2 [d,c,u]=some j→E (.ref (yje cl j)) none H3:=fun j e=>q2 c30 j (ygy hb er e) H3 sm
  refine⟨_,rfl,d,rfl,fun c1=>?_,fun c1=>bad 0 (by simp only[yb2,if_neg c1])⟩
  refine⟨_,rfl,c,rfl,fun c2=>?_,fun c2=>bad 1 (by simp only[yb2,if_pos c1,if_neg c2])⟩
  refine⟨_,rfl,u,rfl,fun c3=>?_,fun c3=>bad 2 (by simp only[yb2,if_pos c1,if_pos c2,if_neg c3])⟩
  have good:yb2 [d,c,u]=none:=by simp only[yb2,if_pos c1,if_pos c2,if_pos c3]
  obtain ⟨ys,ey,eyl,_⟩:=R3.get
  refine⟨_,rfl,.inl ⟨rfl,_,SqL.of ey⟩,?_⟩
  refine⟨_,rfl,_,rfl,_,rfl,by show 3≤sizeLine;decide,fun t ht=>?_⟩
  refine⟨l,ys,.ref t,rfl,rfl,by rw[yal (yak ey ht)];exact ey,yau (by rw[eyl,List.length_take];omega),?_⟩
  refine⟨_,_,_,rfl,(sm.trans (yad ht _)).young hl,?_,yf1 hb er good⟩
  rw[← yf2 er]
  exact R3.push (r:=[d,c,u]) ey ht
 ·rintro σ H3 ⟨o2,o3,o4,rfl,sm,R3,hb⟩
  rw[exl,List.take_length] at R3 hb
  exact⟨_,rfl,q3 c30 hb l H3 hl sm R3⟩
theorem yji (G_check_many:Cal P w K mg base (CXE P w) 2 "check_many" yc8 (yql (cl 5))) (G_check_day:Cal P w K mg base (CXE P w) 2 "check_day" yc2 (ysl (cl 1) 999)) (G_check_count:Cal P w K mg base (CXE P w) 2 "check_count" ycn (ysl (cl 3) 10000000000)) (F:Fun K "checked_outs" "checked_outs" ycf f fd):FnOk P w K mg base (CXE P w) 3 f fd ycu (ypa (cl 5) (yje cl) 2):=by
 refine F.okE sc_checked_outs (fun vs H Q E h=>?_) (fun cdv A outer s H vs Q E hr h=>?_)
 ·obtain ⟨a,rs,rfl,_⟩:=h;rfl
 obtain ⟨a,rs,rfl,hR,h3,q1,q2,q3⟩:=h
 refine⟨_,(yae (ybm (yam (E:=E) G_check_many hr rfl (yeg fun _ _ z=>z) (yaj (pv 0) yab)))
  (yae (yas (i:=1) sc_checked_outs.nd rfl (Or.inl rfl) (yb5 yab))
  (yae (ycr PassesOwn.leaving rfl (ya9 (pv 0)) (ya8 rfl (yag (yai (i:=2) sc_checked_outs.nd rfl (Or.inl rfl)) (yag (yai (i:=3) sc_checked_outs.nd rfl (Or.inl rfl)) yax))) (yae (ybm (yam (E:=E) G_check_day hr rfl (yeg fun _ _ z=>z) (yaj (pv 2) yab)))
   (yae (ybm (yam (E:=E) G_check_count hr rfl (yeg fun _ _ z=>z) (yaj (pv 3) yab)))
   (yah (ybm (ylv PySem.F.plainAttrs_list PySem.F.slot_list_append PySem.F.type_list_append ydd (pv 1) (yaj (ybd (yaj (pv 2) (yaj (pv 3) yab))) yab)))))))
  (yah (yat (pv 1)))))),?_⟩
 obtain ⟨xs,ex,exl,exi⟩:=hR.get
 refine⟨_,rfl,a,xs,rfl,ex,fun c=>?_,fun c=>q1 (by omega)⟩
 have c30:rs.length≤30:=by omega
 refine⟨by show 0≤sizeLine;decide,fun l hl=>?_⟩
 refine⟨_,rfl,a,rfl,⟨xs,SqL.of (by rw[yal (yak ex hl)];exact ex)⟩,?_⟩
 refine ydb (xs:=xs) (fun i σ H3=>∃o2 o3,σ=[some (.ref a),some (.ref l),o2,o3]∧Same H H3∧Rows H3 l (rs.take i)∧ybk (rs.take i)=none) ⟨_,_,rfl,yad hl _,Rows.nil yaa,rfl⟩ ?_ ?_ ?_
 ·rintro i σ H3 hi ⟨o2,o3,rfl,sm,_⟩
  exact SqL.of (sm _ _ ex)
 ·rintro i x σ H3 exi' ⟨o2,o3,rfl,sm,R3,hb⟩
  obtain ⟨p,r,rfl,er,hp⟩:=exi i x exi'
  obtain ⟨d,c,rfl⟩:=ypb (h3 r (List.mem_of_getElem? er))
  refine⟨p,_,rfl,SqT.of (sm _ _ hp),rfl,_,_,rfl,_,_,rfl,rfl,?_⟩
  have bad:∀j,yb2 [d,c]=some j→E (.ref (yje cl j)) none H3:=fun j e=>q2 c30 j (ygy hb er e) H3 sm
  refine⟨_,rfl,d,rfl,fun c1=>?_,fun c1=>bad 0 (by simp only[yb2,if_neg c1])⟩
  refine⟨_,rfl,c,rfl,fun c2=>?_,fun c2=>bad 1 (by simp only[yb2,if_pos c1,if_neg c2])⟩
  have good:yb2 [d,c]=none:=by simp only[yb2,if_pos c1,if_pos c2]
  obtain ⟨ys,ey,eyl,_⟩:=R3.get
  refine⟨_,rfl,.inl ⟨rfl,_,SqL.of ey⟩,?_⟩
  refine⟨_,rfl,_,rfl,by show 2≤sizeLine;decide,fun t ht=>?_⟩
  refine⟨l,ys,.ref t,rfl,rfl,by rw[yal (yak ey ht)];exact ey,yau (by rw[eyl,List.length_take];omega),?_⟩
  refine⟨_,_,rfl,(sm.trans (yad ht _)).young hl,?_,yf1 hb er good⟩
  rw[← yf2 er]
  exact R3.push (r:=[d,c]) ey ht
 ·rintro σ H3 ⟨o2,o3,rfl,sm,R3,hb⟩
  rw[exl,List.take_length] at R3 hb
  exact⟨_,rfl,q3 c30 hb l H3 hl sm R3⟩
theorem yv9 (F:Fun K "going" "going" ygz f fd):FnOk P w K mg base CX0 1 f fd yhy yhw:=by
 refine F.ok sc_going (fun vs H Q E h=>?_) (fun cdv A outer s H vs Q E hr h=>?_)
 ·obtain ⟨a,p,tm,f,l,rs,rfl,_⟩:=h;rfl
 obtain ⟨a,p,tm,ff,l,rs,rfl,hR,h2,hn,hp,q⟩:=h
 refine⟨_,(yae (ych (pv 2) (ya8 rfl (yag (yai (i:=3) sc_going.nd rfl (Or.inr rfl)) (yag (yai (i:=4) sc_going.nd rfl (Or.inr rfl)) yax))))
  (yah (yat (yaq (yf3 rfl) rfl B.sum PyProof.Rows.boot_sum (yaj (yc0 (N':=["day","count","first","last","term"]) (ix:=[none,none,some 3,some 4,some 1]) (g:=(ym6 K 2 (ybw (ybg 0) (ybw (ybg 1) ym5)))) (ti:=(yna (ynb (rI0 fun i j=>.bl (decide (i≤j))) (rI0 fun i j=>.bl (decide (i≤j))) (ycc 2) (ycc 0) (tOp (rI0 fun i j=>.int (i+j)) (ycc 3) (ycc 4))))) (te:=(ycc 1)) rfl (yaw (N:=yt5) (D:=yac ygz) (by decide +kernel)) (ya9 (pv 0)) (fun C s H fp=>(ya8 rfl (yag (yai (i:=0) (show (["day","count","first","last","term"]:List Str).Nodup by decide +kernel) rfl (Or.inl rfl)) (yag (yai (i:=1) (show (["day","count","first","last","term"]:List Str).Nodup by decide +kernel) rfl (Or.inl rfl)) yax)))) (fun C s H fp=>(ye2 (yd5 ydk ydk (pv 2) (pv 0) (ybh ycs (pv 3) (pv 4))))) (fun C s H fp=>(pv 1))) yab))))),?_⟩
 obtain ⟨xs,ex,exl,exi⟩:=hR.get
 refine⟨_,rfl,p,_,rfl,SqT.of hp,rfl,_,_,rfl,_,_,rfl,rfl,?_⟩
 refine⟨_,rfl,a,rfl,⟨xs,SqL.of ex⟩,fun D hD=>⟨fun i m H3=>i+m=xs.length∧Same H H3∧H3 D=some (.lst ((((rs.take i).filter (ykj tm ff l)).map fun r=>r.getD 1 0).map V.int)),⟨xs.length,by omega,yad hD _,yaa⟩,?_⟩⟩
 rintro i m H3 ⟨him,s3,hD3⟩
 have ex3:=s3 _ _ ex
 by_cases hi:i<xs.length
 ·refine .inr ⟨⟨xs,_,SqL.of ex3,List.getElem?_eq_getElem hi⟩,?_⟩
  rintro x H' ⟨rfl,hx⟩
  obtain ⟨pr,r,rfl,er,hpr⟩:=exi i x (hx _ (SqL.of ex3))
  obtain ⟨d,cc,rfl⟩:=ypb (h2 r (List.mem_of_getElem? er))
  refine⟨pr,_,rfl,SqT.of (s3 _ _ hpr),rfl,_,_,rfl,_,_,rfl,rfl,?_,?_⟩
  ·intro k v e
   match k,e with
   |0,e=>cases e
   |1,e=>cases e
   |2,e=>exact e
   |3,e=>exact e
   |4,e=>exact e
   |k+5,e=>cases e
  ·have ft:=yci (rs:=rs) (ykj tm ff l) er
   have gb:ykj tm ff l [d,cc]=decide (ff≤d∧d≤l+tm):=rfl
   refine⟨_,rfl,_,rfl,_,_,rfl,rfl,_,rfl,?_⟩
   have yes:(ff≤d∧d≤l+tm)→∃zs,H' D=some (.lst zs)∧zs.length<sizeLine∧∃m',m' < m∧(i+1+m'=xs.length∧Same H (L2.upd H' D (.lst (zs++[.int cc])))∧L2.upd H' D (.lst (zs++[.int cc])) D=some (.lst ((((rs.take (i+1)).filter (ykj tm ff l)).map fun r=>r.getD 1 0).map V.int))):=fun z=>by
    refine⟨_,hD3,yau ?_,m-1,by omega,by omega,s3.young hD,?_⟩
    ·rw[List.length_map,List.length_map]
     have l1:=List.length_filter_le (ykj tm ff l) (rs.take i)
     rw[List.length_take] at l1
     omega
    ·rw[yaa,ft,if_pos (by rw[gb];exact decide_eq_true z),List.map_append,List.map_append];rfl
   have no:¬ (ff≤d∧d≤l+tm)→∃m',m' < m∧(i+1+m'=xs.length∧Same H H'∧H' D=some (.lst ((((rs.take (i+1)).filter (ykj tm ff l)).map fun r=>r.getD 1 0).map V.int))):=fun z=>by
    refine⟨m-1,by omega,by omega,s3,?_⟩
    rw[ft,if_neg (by rw[gb];intro y;exact z (of_decide_eq_true y)),List.append_nil]
    exact hD3
   by_cases c1:ff≤d
   ·rw[decide_eq_true c1]
    refine ycl ⟨_,rfl,_,rfl,_,_,rfl,rfl,_,_,rfl,rfl,_,rfl,?_⟩
    by_cases c2:d≤l+tm
    ·rw[decide_eq_true c2]
     exact ycl ⟨_,rfl,yes ⟨c1,c2⟩⟩
    ·rw[decide_eq_false c2]
     exact yct (no fun z=>c2 z.2)
   ·rw[decide_eq_false c1]
    exact yct ⟨_,rfl,yct (no fun z=>c1 z.1)⟩
 ·refine .inl ⟨⟨xs,SqL.of ex3,by omega⟩,D,((rs.take i).filter (ykj tm ff l)).map fun r=>r.getD 1 0,rfl,SqL.of hD3,?_⟩
  have ei:rs.take i=rs:=List.take_of_length_le (by omega)
  rw[ei]
  exact q H3 s3
theorem ykp (F:Fun K "check_place" "check_place" yco f fd):FnOk P w K mg base (CXE P w) 2 f fd ydf (ypf (cl 9)):=by
 refine F.okE ykn (fun vs H Q E h=>?_) (fun cdv A outer s H vs Q E hr h=>?_)
 ·obtain ⟨a,i,xs,rfl,_⟩:=h;rfl
 obtain ⟨a,i,xs,rfl,ha,q1,q2⟩:=h
 refine⟨_,(yah (yb7 (yfa (yd5 ydk yil yaf (pv 1) (yaq yar rfl B.len PySem.boot_len (yaj (pv 0) yab)))) (yah (yei (E:=E) rfl T.gNoPlace T.eNoPlace PySem.F.excBase_ValueError rfl yg9 (yaj ybl yab))) ya6)),?_⟩
 refine⟨_,rfl,_,_,rfl,rfl,_,rfl,?_⟩
 by_cases c1:0≤i
 ·rw[decide_eq_true c1]
  refine ycl ⟨_,rfl,a,_,rfl,.inl (SqL.of ha),_,_,rfl,rfl,_,rfl,?_⟩
  by_cases c2:i<(xs.length:Int)
  ·rw[decide_eq_true c2]
   exact yct (q1 ⟨c1,c2⟩)
  ·rw[decide_eq_false c2]
   exact ycl ⟨by show 1≤sizeLine;decide,q2 fun z=>c2 z.2⟩
 ·rw[decide_eq_false c1]
  exact yct ⟨_,rfl,ycl ⟨by show 1≤sizeLine;decide,q2 fun z=>c1 z.1⟩⟩
theorem yt7 (F:Fun K "summed" "summed" ygl f fd):FnOk P w K mg base CX0 1 f fd ygm yit:=by
 refine F.ok sc_summed (fun vs H Q E h=>?_) (fun cdv A outer s H vs Q E hr h=>?_)
 ·obtain ⟨n,p,ps,rfl,_⟩:=h;rfl
 obtain ⟨n,p,ps,rfl,n0,n1,hR,hps,q⟩:=h
 refine⟨_,(yae (yas (i:=2) sc_summed.nd rfl (Or.inl rfl) (ybh ys6 (yb5 (yaj yaf yab)) (pv 0)))
  (yae (ycr PassesOwn.never rfl (ya9 (pv 1)) (ya8 rfl (yag (yai (i:=3) sc_summed.nd rfl (Or.inl rfl)) (yag (yai (i:=4) sc_summed.nd rfl (Or.inl rfl)) yax))) (yah (ysr (pv 2) (pv 3) yqq (pv 4) yxh ydc)))
  (yah (yat (pv 2))))),?_⟩
 obtain ⟨xs,ex,exl,exi⟩:=hR.get
 refine⟨by show 1≤sizeLine;decide,fun z hz=>⟨_,rfl,z,n,_,rfl,rfl,yaa,by omega,by omega,?_,fun l hl=>?_⟩⟩
 ·show 1*n.toNat≤sizeLine
  exact Nat.le_of_lt (yau (by omega))
 have s1:=(yad (H:=H) hz (.lst [.int 0])).trans (yad hl (.lst (List.replicate n.toNat [V.int 0]).flatten))
 have hl0:H l=none:=(yad (H:=H) hz (.lst [.int 0])).free hl
 have e1:L2.upd (L2.upd H z (.lst [.int 0])) l (.lst (List.replicate n.toNat [V.int 0]).flatten) l=some (.lst ((yca n.toNat (ps.take 0)).map V.int)):=by
  rw[yaa,List.take_zero,yrp,List.map_replicate]
  congr 2
  induction n.toNat with
  |zero=>rfl
  |succ k ih=>rw[List.replicate_succ,List.flatten_cons,ih];rfl
 generalize L2.upd (L2.upd H z (.lst [.int 0])) l (.lst (List.replicate n.toNat [V.int 0]).flatten)=H1 at s1 e1 ⊢
 refine⟨_,rfl,p,rfl,⟨xs,SqL.of (s1 _ _ ex)⟩,?_⟩
 refine ydb (xs:=xs) (fun i σ H3=>∃o3 o4,σ=[some (.int n),some (.ref p),some (.ref l),o3,o4]∧Same H H3∧H3 l=some (.lst ((yca n.toNat (ps.take i)).map V.int))) ⟨_,_,rfl,s1,e1⟩ ?_ ?_ ?_
 ·rintro i σ H3 hi ⟨o3,o4,rfl,sm,_⟩
  exact SqL.of (sm _ _ ex)
 ·rintro i x σ H3 exi' ⟨o3,o4,rfl,sm,e3⟩
  obtain ⟨pr,r,rfl,er,hpr⟩:=exi i x exi'
  obtain ⟨r2,r0,rn⟩:=hps r (List.mem_of_getElem? er)
  obtain ⟨a,c,rfl⟩:=ypb r2
  have a0:0≤a:=r0
  have an:a<(n.toNat:Int):=by have:a<n:=rn;omega
  refine⟨pr,_,rfl,SqT.of (sm _ _ hpr),rfl,_,_,rfl,_,_,rfl,rfl,?_⟩
  refine⟨_,rfl,_,rfl,l,_,a,.int (yl6 (ps.take i) a.toNat),rfl,rfl,SqL.of e3,a0,by rw[List.getElem?_map,yrq a0 an];rfl,_,rfl,_,_,rfl,rfl,?_⟩
  refine⟨l,_,a,a.toNat,rfl,rfl,e3,by unfold ixN;rw[List.length_map,ygj,if_pos a0,if_pos an],?_⟩
  refine⟨_,_,rfl,sm.young hl0,?_⟩
  rw[yaa,ype er a0 an,List.map_set]
 ·rintro σ H3 ⟨o3,o4,rfl,sm,e3⟩
  rw[exl,List.take_length] at e3
  exact⟨_,rfl,q l H3 hl0 sm e3⟩
theorem yn0 (G_checked_lots:Cal P w K mg base (CXE P w) 3 "checked_lots" yce (ypa (cl 5) (yje cl) 3)) (G_check_place:Cal P w K mg base (CXE P w) 2 "check_place" ydf (ypf (cl 9))) (G_summed:Cal P w K mg base CX0 1 "summed" ygm yit) (F:Fun K "counts_of" "counts_of" yc3 f fd):FnOk P w K mg base (CXE P w) 4 f fd yev (yhx cl):=by
 refine F.okE sc_counts_of (fun vs H Q E h=>?_) (fun cdv A outer s H vs Q E hr h=>?_)
 ·obtain ⟨a,b,rs,ts,rfl,_⟩:=h;rfl
 obtain ⟨a,b,rs,ts,rfl,hR,h3,hT,t3,tn,q1,q2,q3⟩:=h
 refine⟨_,(yae (yas (i:=2) sc_counts_of.nd rfl (Or.inl rfl) (yam (E:=E) G_checked_lots hr rfl (yeg fun _ _ z=>z) (yaj (pv 0) yab)))
  (yae (ycr PassesOwn.leaving rfl (ya9 (pv 1)) (ya8 rfl (yag (yai (i:=3) sc_counts_of.nd rfl (Or.inl rfl)) (yag (yai (i:=4) sc_counts_of.nd rfl (Or.inl rfl)) (yag (yai (i:=5) sc_counts_of.nd rfl (Or.inl rfl)) yax)))) (yah (ybm (yam (E:=E) G_check_place hr rfl (yeg fun _ _ z=>z) (yaj (pv 2) (yaj (pv 3) yab))))))
  (yah (yat (yam G_summed hr rfl ya1 (yaj (yaq yar rfl B.len PySem.boot_len (yaj (pv 2) yab)) (yaj (yc0 (N':=["lot","out","count"]) (ix:=[none,none,none]) (g:=(ym6 K 3 (ybw (ybg 0) (ybw (ybg 1) (ybw (ybg 2) ym5))))) (ti:=ykh) (te:=(ys1 (ybn (ycc 0) (ybn (ycc 2) yky)))) rfl (yaw (N:=yjg) (D:=yac yc3) (by decide +kernel)) (ya9 (pv 1)) (fun C s H fp=>(ya8 rfl (yag (yai (i:=0) (show (["lot","out","count"]:List Str).Nodup by decide +kernel) rfl (Or.inl rfl)) (yag (yai (i:=1) (show (["lot","out","count"]:List Str).Nodup by decide +kernel) rfl (Or.inl rfl)) (yag (yai (i:=2) (show (["lot","out","count"]:List Str).Nodup by decide +kernel) rfl (Or.inl rfl)) yax))))) (fun C s H fp=>ybs) (fun C s H fp=>(ybd (yaj (pv 0) (yaj (pv 2) yab))))) yab))))))),?_⟩
 obtain ⟨xs,ex,exl,exi⟩:=hT.get
 refine⟨_,rfl,a,rs,rfl,hR,h3,q1,q2,fun hn hb g H1 hg s1 R1=>?_⟩
 obtain ⟨q4,q5⟩:=q3 hn hb
 obtain ⟨gs,eg,egl,_⟩:=R1.get
 refine⟨_,rfl,b,rfl,⟨xs,SqL.of (s1 _ _ ex)⟩,?_⟩
 refine ydb (xs:=xs) (fun i σ H3=>∃o3 o4 o5,σ=[some (.ref a),some (.ref b),some (.ref g),o3,o4,o5]∧H3=H1∧yt3 rs.length (ts.take i)) ⟨_,_,_,rfl,rfl,fun r hr=>by cases hr⟩ ?_ ?_ ?_
 ·rintro i σ H3 hi ⟨o3,o4,o5,rfl,rfl,_⟩
  exact SqL.of (s1 _ _ ex)
 ·rintro i x σ H3 exi' ⟨o3,o4,o5,rfl,rfl,hin⟩
  obtain ⟨pr,r,rfl,er,hpr⟩:=exi i x exi'
  obtain ⟨lt,ot,ct,rfl⟩:=yl2 (t3 r (List.mem_of_getElem? er))
  refine⟨pr,_,rfl,SqT.of (s1 _ _ hpr),rfl,_,_,rfl,_,_,rfl,_,_,rfl,rfl,?_⟩
  refine⟨_,rfl,_,rfl,g,lt,gs,rfl,eg,fun c1=>⟨_,_,_,rfl,rfl,fun r hr=>?_⟩,fun c1=>q4 (fun z=>c1 ?_) _ s1⟩
  ·obtain ⟨hi,e'⟩:=List.getElem?_eq_some_iff.mp er
   rw[List.take_succ_eq_append_getElem hi] at hr
   rcases List.mem_append.mp hr with z|z
   ·exact hin r z
   ·rw[List.mem_singleton.mp z,e']
    rw[egl] at c1
    exact c1
  ·rw[egl]
   exact z _ (List.mem_of_getElem? er)
 ·rintro σ H3 ⟨o3,o4,o5,rfl,rfl,hin⟩
  rw[exl,List.take_length] at hin
  refine⟨_,rfl,g,_,rfl,.inl (SqL.of eg),_,rfl,b,rfl,⟨xs,SqL.of (s1 _ _ ex)⟩,fun D hD=>⟨fun i m H4=>i+m=xs.length∧Same H3 H4∧Rows H4 D (yjf (ts.take i)),⟨xs.length,by omega,yad hD _,Rows.nil yaa⟩,?_⟩⟩
  rintro i m H4 ⟨him,s4,R4⟩
  have ex4:=s4 _ _ (s1 _ _ ex)
  by_cases hi:i<xs.length
  ·refine .inr ⟨⟨xs,_,SqL.of ex4,List.getElem?_eq_getElem hi⟩,?_⟩
   rintro x H' ⟨rfl,hx⟩
   obtain ⟨pr,r,rfl,er,hpr⟩:=exi i x (hx _ (SqL.of ex4))
   obtain ⟨lt,ot,ct,rfl⟩:=yl2 (t3 r (List.mem_of_getElem? er))
   refine⟨pr,_,rfl,SqT.of (s4 _ _ (s1 _ _ hpr)),rfl,_,_,rfl,_,_,rfl,_,_,rfl,rfl,?_,?_⟩
   ·intro k v e
    match k,e with
    |0,e=>cases e
    |1,e=>cases e
    |2,e=>cases e
    |k+3,e=>cases e
   ·refine⟨_,rfl,_,rfl,by show 2≤sizeLine;decide,fun t ht=>?_⟩
    obtain ⟨ys,ey,eyl,_⟩:=R4.get
    refine⟨ys,by rw[yal (yak ey ht)];exact ey,yau (by rw[eyl,yjf,List.length_map,List.length_take];omega),m-1,by omega,by omega,(s4.trans (yad ht _)).young hD,?_⟩
    have e2:yjf (ts.take (i+1))=yjf (ts.take i)++[[lt,ct]]:=by
     unfold yjf
     rw[← yf2 er,List.map_append];rfl
    rw[e2]
    exact R4.push (r:=[lt,ct]) ey ht
  ·have ei:ts.take i=ts:=List.take_of_length_le (by omega)
   rw[ei] at R4
   refine .inl ⟨⟨xs,SqL.of ex4,by omega⟩,(gs.length:Int),D,yjf ts,rfl,by omega,by omega,R4,fun r hr=>?_,fun l H5 hl s5 e5=>?_⟩
   ·obtain ⟨r',hr',rfl⟩:=List.mem_map.mp hr
    have:=hin r' hr'
    exact⟨rfl,this.1,by rw[egl];exact this.2⟩
   ·refine q5 hin l H5 ((s1.trans s4).free hl) ((s1.trans s4).trans s5) ?_
    rw[show ((gs.length:Nat):Int).toNat=rs.length by omega] at e5
    exact e5
end
end K28
namespace L2
open PySem PySem.Spec PySem.W PyProof.Rows
section
variable {X:Cx}{a b c d e:Expr}{ta tb tc td te:TE}{pos p2:Pos}
def yyv (r r' r'':R2)(ta tb tc td:TE):TT:=fun σ H Q=>ta σ H fun x H1=>tb σ H1 fun y H2=>r x y H2 fun z H3=>∃k,z = .bl k∧
 (if k=true then tc σ H3 fun u H4=>r' y u H4 fun z' H5=>∃k',z' = .bl k'∧(if k'=true then td σ H5 fun t H6=>r'' u t H6 fun z'' H7=>∃k'',z'' = .bl k''∧Q k'' H7 else Q false H5) else Q false H3)
theorem yt8 {op op' op'':CmpOp}{r r' r'':R2}(ho:OpR X (compareOp op) r)(ho':OpR X (compareOp op') r')(ho'':OpR X (compareOp op'') r'')(ha:PE X a ta)(hb:PE X b tb)(hc:PE X c tc)(hd:PE X d td)
 (hm:lastMarks [op,op',op''] [b,c,d]=false:=by with_unfolding_all rfl):PT X (.Compare a [op,op',op''] [b,c,d] pos) (yyv r r' r'' ta tb tc td):=by
 intro pins s σ H Q I h
 refine isTrue_chain (thn (ha pins s σ H _ I h) fun v s1 ⟨x,H1,I1,r1,q1⟩=>test_link (thn (hb pins s1 σ H1 _ I1 q1) fun u s2 ⟨y,H2,I2,r2,q2⟩=>thn (ho pins s2 σ H2 x y v u _ I2 r1 r2 q2) fun d s3 ⟨z,H3,I3,r3,k,e,q3⟩=>?_)) hm
 subst e;cases r3
 refine wpAny_truthy_bool ?_
 cases k with
 |false=>exact ite_ff ⟨H3,I3,q3⟩
 |true=>
  refine ite_tt (test_link (thn (hc pins s3 σ H3 _ I3 q3) fun w' s4 ⟨z',H4,I4,r4,q4⟩=>thn (ho' pins s4 σ H4 y z' u w' _ I4 r2 r4 q4) fun d' s5 ⟨z2,H5,I5,r5,k2,e2,q5⟩=>?_))
  subst e2;cases r5
  refine wpAny_truthy_bool ?_
  cases k2 with
  |false=>exact ite_ff ⟨H5,I5,q5⟩
  |true=>
   refine ite_tt (test_last (thn (hd pins s5 σ H5 _ I5 q5) fun w2 s6 ⟨z3,H6,I6,r6,q6⟩=>thn (ho'' pins s6 σ H6 z' z3 w' w2 _ I6 r4 r6 q6) fun d2 s7 ⟨z4,H7,I7,r7,k3,e3,q7⟩=>?_))
   subst e3;cases r7
   exact wpAny_truthy_bool ⟨H7,I7,q7⟩
def zdb (K:PySem.W.Frag)(te:TE):TE:=fun σ H Q=>te σ H fun x H1=>∃a xs,x = .ref a∧SqL K H1 a xs∧∀p,H1 p=none→Q (.ref p) (upd H1 p (.lst xs.reverse))
theorem Vals.rev {xs:List V}{its:List Value}(r:Vals xs its):Vals xs.reverse its.reverse:=by
 induction r with
 |nil=>exact .nil
 |cons h t ih=>rw[List.reverse_cons,List.reverse_cons];exact ih.append (.cons h .nil)
theorem zb8 {p1 p2:Pos}{kk:Nat}:PE X (.UnaryOp .USub (.Constant (.int 1) kk p1) p2) (tC (.int (-1))):=(ysu ym9 yaf).weak fun σ H Q q=>⟨1,rfl,q⟩
theorem zap {st:Expr}(he:PE X e te)(hs:PE X st (tC (.int (-1)))):PE X (.Subscript e (.Slice none none (some st) p2) pos) (zdb X.K te):=by
 intro pins s σ H Q I h
 refine Subscript_ (thn (he pins s σ H _ I h) fun v s1 ⟨x,H1,I1,r1,q1⟩=>?_)
 obtain ⟨a,xs,rfl,hx,q⟩:=q1
 cases r1
 refine wpAny_Slice ?_
 rw[evalPart_none]
 refine zwp0 (zwp0 ?_)
 refine thn (hs pins s1 σ H1 (fun v H2=>v = .int (-1)∧H2=H1) I1 ⟨rfl,rfl⟩) fun vs s2 ⟨y,H2,I2,r2,e1,e2⟩=>?_
 subst e1 e2
 obtain ⟨t,rfl⟩:=r2
 obtain ⟨its,r,ht,hz⟩:=I2.list hx
 have I4:Inv X pins σ H2 { s2 with heap:=s2.heap.push { cls:=.type "slice",data:=.fields #[.none,.none,.int (-1) t] } }:=I2.kept (t':=s2.toks) fun b ob q=>Heap.get?_push_of_some _ q
 obtain ⟨its',r',ht',hz'⟩:=I4.list hx
 have hlen:=r'.length
 have hsl:Heap.IsSliceOf ({ s2 with heap:=s2.heap.push { cls:=.type "slice",data:=.fields #[.none,.none,.int (-1) t] } }:Shared).heap s2.heap.objs.size .none .none (.int (-1) t):=Heap.IsSliceOf.new ..
 show wpAny (model X.prog X.w) X.A (subscriptTail e (.Slice none none (some st) p2) (.ref a) (.ref s2.heap.objs.size)) (EP X pins σ Q) X.xe { s2 with heap:=s2.heap.push { cls:=.type "slice",data:=.fields #[.none,.none,.int (-1) t] } }
 revert I4 ht' hsl
 generalize s2.heap.objs.size=z
 generalize ({ s2 with heap:=s2.heap.push { cls:=.type "slice",data:=.fields #[.none,.none,.int (-1) t] } }:Shared)=s4
 intro I4 ht' hsl
 refine tail_any (ops:=[.ref a,.ref z]) ht'.isList.typeIs slot_list_getitem.lookup (wpAny_getItem_list_slice ht'.isList (st:=some (-1)) hsl .none .none (.int _ _) (by decide) ?_ (by rw[List.size_toArray];omega)) rfl
 rw[krv_pick]
 refine⟨.ref s4.heap.objs.size,_,I4.laid (t':=s4.toks) (o:=.lst xs.reverse) (fun b ob q=>Heap.get?_push_of_some _ q) (Nat.le_refl _) ?_,rfl,q _ (I4.hok.fresh (Nat.le_refl _))⟩
 exact⟨by rw[List.length_reverse];exact hz',its'.reverse,0,r'.rev,Heap.get?_push_size _ rfl⟩
end
theorem ybi {σ₀:St}:∀(k:Nat) v,σ₀[k]? = some (some v)→σ₀[k]? = some (some v):=fun _ _ h=>h
theorem ya5 {σ₀ σ:St}{j:Nat}{x:Option V}(h:∀(k:Nat) v,σ₀[k]? = some (some v)→σ[k]? = some (some v))(hj:σ₀[j]? = some none):∀(k:Nat) v,σ₀[k]? = some (some v)→(σ.set j x)[k]? = some (some v):=fun k v e=>by
 have:j≠k:=fun z=>by rw[z,e] at hj;cases hj
 rw[List.getElem?_set_ne this]
 exact h k v e
theorem yf4 {K:PySem.W.Frag}{a D:Addr}{xs:List V}{g:TG}{ti:TT}{te:TE}{σ₀:St}{H1:Hp}{R:Hp→Prop}(P:Nat→List V→Hp→Prop)(hD:H1 D=none)(hx:H1 a=some (.lst xs))(hn:xs.length≤1000)
 (st:∀i zs H H',P i zs H→(∀b o,b≠D→H b=some o→H' b=some o)→P i zs H') (h0:P 0 [] H1)
 (step:∀i x zs H,xs[i]? = some x→Same H1 H→P i zs H→∀(K1:V→Hp→Prop) (K2:Hp→Prop),(∀y H4,Same H H4→P (i+1) (zs++[y]) H4→K1 y H4)→(∀H3,Same H H3→P (i+1) zs H3→K2 H3)→
  g x σ₀ H fun σ2 H2=>(∀(k:Nat) v,σ₀[k]? = some (some v)→σ2[k]? = some (some v))∧ti σ2 H2 fun b H3=>if b=true then te σ2 H3 K1 else K2 H3)
 (fin:∀zs H,Same H1 H→P xs.length zs H→zs.length≤xs.length→H D=some (.lst zs)→R H) :
 ∃W:Nat→Nat→Hp→Prop,(∃m,W 0 m (upd H1 D (.lst [])))∧∀i m H,W i m H→((Itl K a).stop i H∧R H)∨((Itl K a).go i H∧∀x H',(Itl K a).yld i H x H'→g x σ₀ H' fun σ2 H2=>(∀(k:Nat) v,σ₀[k]? = some (some v)→σ2[k]? = some (some v))∧ti σ2 H2 fun b H3=>
  if b=true then te σ2 H3 fun y H4=>∃zs,H4 D=some (.lst zs)∧zs.length<sizeLine∧∃m',m' < m∧W (i+1) m' (upd H4 D (.lst (zs++[y]))) else ∃m',m' < m∧W (i+1) m' H3):=by
 refine⟨fun i m H=>i+m=xs.length∧Same H1 H∧∃zs,H D=some (.lst zs)∧zs.length≤i∧P i zs H,⟨xs.length,by omega,yad hD _,[],yaa,Nat.le_refl _,st _ _ _ _ h0 fun b o hb e=>by rw[yal hb];exact e⟩,?_⟩
 rintro i m H ⟨him,s1,zs,hz,hl,hp⟩
 have ex:=s1 _ _ hx
 by_cases hi:i<xs.length
 ·refine .inr ⟨⟨xs,_,SqL.of ex,List.getElem?_eq_getElem hi⟩,?_⟩
  rintro x H' ⟨rfl,hy⟩
  refine step i x zs H' (hy _ (SqL.of ex)) s1 hp _ _ (fun y H4 s4 p4=>⟨zs,s4 _ _ hz,yau (by omega),m-1,by omega,by omega,(s1.trans s4).young hD,zs++[y],yaa,by rw[List.length_append,List.length_singleton];omega,st _ _ _ _ p4 fun b o hb e=>by rw[yal hb];exact e⟩) fun H3 s3 p3=>⟨m-1,by omega,by omega,s1.trans s3,zs,s3 _ _ hz,by omega,p3⟩
 ·have e:i=xs.length:=by omega
  subst e
  exact .inl ⟨⟨xs,SqL.of ex,Nat.le_refl _⟩,fin zs H s1 hp hl hz⟩
def Tups (H:Hp)(xs:List V)(rs:List (List Int)):Prop:=xs.length=rs.length∧∀(i:Nat) x r,xs[i]? = some x→rs[i]? = some r→∃p,x = .ref p∧H p=some (.tup (r.map V.int))
theorem Tups.nil {H:Hp}:Tups H [] []:=⟨rfl,fun i x r e=>by cases e⟩
theorem Tups.one {H:Hp}{p:Addr}{r:List Int}(h:H p=some (.tup (r.map V.int))):Tups H [.ref p] [r]:=⟨rfl,fun i x r' e1 e2=>by
 match i,e1,e2 with
 |0,e1,e2=>cases e1;cases e2;exact⟨p,rfl,h⟩
 |i+1,e1,_=>cases e1⟩
theorem Tups.append {H:Hp}{xs ys:List V}{rs ts:List (List Int)}(h:Tups H xs rs)(h':Tups H ys ts):Tups H (xs++ys) (rs++ts):=by
 refine⟨by rw[List.length_append,List.length_append,h.1,h'.1],fun i x r e1 e2=>?_⟩
 by_cases hi:i<xs.length
 ·rw[List.getElem?_append_left hi] at e1
  rw[List.getElem?_append_left (by rw[← h.1];exact hi)] at e2
  exact h.2 i x r e1 e2
 ·rw[List.getElem?_append_right (by omega)] at e1
  rw[List.getElem?_append_right (by rw[← h.1];omega),← h.1] at e2
  exact h'.2 _ x r e1 e2
theorem Tups.take {H:Hp}{xs:List V}{rs:List (List Int)}(h:Tups H xs rs)(n:Nat):Tups H (xs.take n) (rs.take n):=by
 refine⟨by rw[List.length_take,List.length_take,h.1],fun i x r e1 e2=>?_⟩
 have hi:i<n:=by have:=(List.getElem?_eq_some_iff.mp e1).1;rw[List.length_take] at this;omega
 rw[List.getElem?_take_of_lt hi] at e1 e2
 exact h.2 i x r e1 e2
theorem Tups.drop {H:Hp}{xs:List V}{rs:List (List Int)}(h:Tups H xs rs)(n:Nat):Tups H (xs.drop n) (rs.drop n):=by
 refine⟨by rw[List.length_drop,List.length_drop,h.1],fun i x r e1 e2=>?_⟩
 rw[List.getElem?_drop] at e1 e2
 exact h.2 _ x r e1 e2
theorem Tups.keep {H H':Hp}{xs:List V}{rs:List (List Int)}(h:Tups H xs rs)(k:∀(p:Addr) (z:List V),H p=some (.tup z)→H' p=some (.tup z)):Tups H' xs rs:=⟨h.1,fun i x r e1 e2=>by
 obtain ⟨p,e,hp⟩:=h.2 i x r e1 e2
 exact⟨p,e,k _ _ hp⟩⟩
theorem Tups.same {H H':Hp}{xs:List V}{rs:List (List Int)}(h:Tups H xs rs)(s:Same H H'):Tups H' xs rs:=h.keep fun _ _ e=>s _ _ e
theorem Tups.but {H H':Hp}{D:Addr}{ys xs:List V}{rs:List (List Int)}(h:Tups H xs rs)(hD:H D=some (.lst ys))(k:∀b o,b≠D→H b=some o→H' b=some o):Tups H' xs rs:=h.keep fun p z e=>k _ _ (yo0 e hD (by intro z;cases z)) e
theorem Tups.draw {H H':Hp}{a c:Addr}{xs:List V}{rs:List (List Int)}(h:Tups H xs rs)(d:DrawAt H a c)(k:KeepBut a H H'):Tups H' xs rs:=h.keep fun p z e=>k _ _ (d.neT e) e
theorem Tups.at {H:Hp}{xs:List V}{rs:List (List Int)}(h:Tups H xs rs){i:Nat}{x:V}(e:xs[i]? = some x):∃p r,x = .ref p∧rs[i]? = some r∧H p=some (.tup (r.map V.int)):=by
 have hi:=(List.getElem?_eq_some_iff.mp e).1
 have hr:rs[i]? = some (rs[i]'(by rw[← h.1];exact hi)):=List.getElem?_eq_getElem (by rw[← h.1];exact hi)
 obtain ⟨p,e',hp⟩:=h.2 i x _ e hr
 exact⟨p,_,e',hr,hp⟩
theorem Tups.rows {H:Hp}{a:Addr}{xs:List V}{rs:List (List Int)}(h:Tups H xs rs)(ha:H a=some (.lst xs)):Rows H a rs:=by
 obtain ⟨ps,e⟩ : ∃ps:List Addr,xs=ps.map V.ref:=by
  have:∀(xs:List V) (rs:List (List Int)),Tups H xs rs→∃ps:List Addr,xs=ps.map V.ref:=by
   intro xs
   induction xs with
   |nil=>exact fun _ _=>⟨[],rfl⟩
   |cons x r ih=>
    intro rs h
    obtain ⟨p,_,e,_⟩:=h.at (i:=0) rfl
    obtain ⟨ps,e'⟩:=ih (rs.drop 1) (by simpa using h.drop 1)
    exact⟨p::ps,by rw[e,e'];rfl⟩
  exact this xs rs h
 subst e
 refine⟨ps,ha,by rw[← h.1,List.length_map],fun i p r e1 e2=>?_⟩
 obtain ⟨q,e,hq⟩:=h.2 i (.ref p) r (by rw[List.getElem?_map,e1];rfl) e2
 cases e
 exact hq
theorem Rows.tups {H:Hp}{a:Addr}{rs:List (List Int)}(h:Rows H a rs):∃xs,H a=some (.lst xs)∧Tups H xs rs:=by
 obtain ⟨ps,h1,h2,h3⟩:=h
 refine⟨_,h1,by rw[List.length_map,h2],fun i x r e1 e2=>?_⟩
 rw[List.getElem?_map] at e1
 cases q:ps[i]? with
 |none=>rw[q] at e1;cases e1
 |some p=>rw[q] at e1;cases e1;exact⟨p,rfl,h3 i p r q e2⟩
theorem ybb {α:Type}{rs:List α}{i:Nat}{r:α}(e:rs[i]? = some r):rs.take (i+1)=rs.take i++[r]:=by
 obtain ⟨hi,e'⟩:=List.getElem?_eq_some_iff.mp e
 rw[List.take_succ_eq_append_getElem hi,e']
def yt9:Nat→Nat
 |0=>1
 |1=>3
 |_=>4
theorem ymf (cl:Nat→Addr)(j:Nat):yje cl j=cl (yt9 j):=by
 match j with
 |0=>rfl
 |1=>rfl
 |j+2=>rfl
def ya3 (rs:List (List Int)):Option Nat:=if 30<rs.length then some 5 else (ybk rs).map yt9
def ybj (rs os:List (List Int))(tm:Int):Option Nat:=match ya3 rs with
 |some n=>some n
 |none=>match ya3 os with
  |some n=>some n
  |none=>if yeu tm then none else some 2
theorem yjj {rs:List (List Int)}(h:ya3 rs=none):rs.length≤30∧ybk rs=none:=by
 unfold ya3 at h
 split at h
 ·cases h
 ·refine⟨by omega,?_⟩
  cases e:ybk rs with
  |none=>rfl
  |some j=>rw[e] at h;cases h
theorem yjk {rs:List (List Int)}(h:30<rs.length):ya3 rs=some 5:=by unfold ya3;rw[if_pos h]
theorem yk9 {rs:List (List Int)}{j:Nat}(h:rs.length≤30)(e:ybk rs=some j):ya3 rs=some (yt9 j):=by unfold ya3;rw[if_neg (by omega),e];rfl
theorem yn1 {rs:List (List Int)}(h:rs.length≤30)(e:ybk rs=none):ya3 rs=none:=by unfold ya3;rw[if_neg (by omega),e];rfl
theorem yjl {rs os:List (List Int)}{tm:Int}{n:Nat}(h:ya3 rs=some n):ybj rs os tm=some n:=by unfold ybj;rw[h]
theorem yjm {rs os:List (List Int)}{tm:Int}{n:Nat}(h:ya3 rs=none)(h':ya3 os=some n):ybj rs os tm=some n:=by unfold ybj;rw[h,h']
theorem yjn {rs os:List (List Int)}{tm:Int}(h:ya3 rs=none)(h':ya3 os=none):ybj rs os tm=if yeu tm then none else some 2:=by unfold ybj;rw[h,h']
def yla (cl:Nat→Addr):Sp:=fun vs H Q E=>∃(a b:Addr) (tm:Int) (rs os:List (List Int)),vs=[.ref a,.ref b,.int tm]∧Rows H a rs∧(∀r∈rs,r.length=3)∧Rows H b os∧(∀r∈os,r.length=2)∧
 (∀n,ybj rs os tm=some n→∀H',Same H H'→E (.ref (cl n)) none H')∧(ybj rs os tm=none→∀t l o H',H t=none→H l=none→H o=none→Same H H'→Rows H' l rs→Rows H' o os→H' t=some (.tup [.ref l,.ref o])→Q (.ref t) H')
def yek (u:Int)(r:List Int):Bool:=decide (u≤r.getD 2 0)
def yfr (rs:List (List Int)):Int:=(rs.map fun r=>r.getD 1 0).sum
def yfs:Int→List (List Int)→Bool
 |_,[]=>true
 |e,r::rs=>decide (e<r.getD 0 0∧r.getD 0 0≤r.getD 1 0∧r.getD 1 0≤999)&&yfs (r.getD 1 0) rs
def yjo (d:Int)(r:List Int):Bool:=decide (r.getD 0 0≤d∧d≤r.getD 1 0)
def yim (d:Int)(ss:List (List Int)):Bool:=ss.any (yjo d)
def yxr (os:List (List Int))(tm:Int)(ss:List (List Int)):Int:=(ss.map fun r=>ybc os tm (r.getD 0 0) (r.getD 1 0)).sum
def yua (rs os:List (List Int))(tm u:Int)(ss:List (List Int)):Int:=yfr ((rs.filter (yek u)).filter fun r=>!yim (r.getD 0 0) ss)+yxr os tm ss
def yqr:Sp:=fun vs H Q _=>∃(a:Addr) (u:Int) (rs:List (List Int)),vs=[.ref a,.int u]∧Rows H a rs∧(∀r∈rs,r.length=3)∧rs.length≤100∧∀l H',H l=none→Same H H'→Rows H' l (rs.filter (yek u))→Q (.ref l) H'
def ymg:Sp:=fun vs H Q _=>∃(a:Addr) (rs:List (List Int)),vs=[.ref a]∧Rows H a rs∧(∀r∈rs,r.length=3)∧rs.length≤100∧∀H',Same H H'→Q (.int (yfr rs)) H'
def ymh:Sp:=fun vs H Q _=>∃(a:Addr) (ss:List (List Int)),vs=[.ref a]∧Rows H a ss∧(∀r∈ss,r.length=2)∧Q (.bl (yfs 0 ss)) H
def yqs:Sp:=fun vs H Q _=>∃(d:Int) (a:Addr) (ss:List (List Int)),vs=[.int d,.ref a]∧Rows H a ss∧(∀r∈ss,r.length=2)∧ss.length≤100∧∀H',Same H H'→Q (.bl (yim d ss)) H'
def yub (cl:Nat→Addr):Sp:=fun vs H Q E=>∃(a b p s:Addr) (tm u n:Int) (rs os ss:List (List Int)),vs=[.ref a,.ref b,.int tm,.ref p]∧Rows H a rs∧(∀r∈rs,r.length=3)∧Rows H b os∧(∀r∈os,r.length=2)∧H p=some (.tup [.int u,.int n,.ref s])∧Rows H s ss∧(∀r∈ss,r.length=2)∧ss.length≤100∧
 (∀n,ybj rs os tm=some n→∀H',Same H H'→E (.ref (cl n)) none H')∧(ybj rs os tm=none→∀H',Same H H'→Q (.bl (yfs 0 ss&&decide (n=yua rs os tm u ss))) H')
end L2
namespace K28
open PySem L2
abbrev ycg:Stmt:=top 27
abbrev ykq:List Str:=["lots","outs","term","goods","gone"]
abbrev ybo:List Str:=["lots","outs","term"]
theorem sc_checked_both:FnScope ykq ybo (yac ycg):=⟨rfl,rfl,rfl,by decide +kernel,rfl,by decide +kernel,by decide +kernel⟩
abbrev yc4:Stmt:=top 54
abbrev yjp:List Str:=["lots","duty"]
abbrev ydv:List Str:=["lots","duty"]
theorem yn2:FnScope yjp ydv (yac yc4):=⟨rfl,rfl,rfl,by decide +kernel,rfl,by decide +kernel,by decide +kernel⟩
abbrev ydw:Stmt:=top 55
abbrev ylb:List Str:=["lots"]
abbrev yem:List Str:=["lots"]
theorem yph:FnScope ylb yem (yac ydw):=⟨rfl,rfl,rfl,by decide +kernel,rfl,by decide +kernel,by decide +kernel⟩
abbrev yda:Stmt:=top 59
abbrev yn3:List Str:=["stretches","end","first","last"]
abbrev yd9:List Str:=["stretches"]
theorem sc_are_rising:FnScope yn3 yd9 (yac yda):=⟨rfl,rfl,rfl,by decide +kernel,rfl,by decide +kernel,by decide +kernel⟩
abbrev yew:Stmt:=top 60
abbrev yn4:List Str:=["day","stretches"]
abbrev yf5:List Str:=["day","stretches"]
theorem yrr:FnScope yn4 yf5 (yac yew):=⟨rfl,rfl,rfl,by decide +kernel,rfl,by decide +kernel,by decide +kernel⟩
abbrev yb8:Stmt:=top 61
abbrev yf6:List Str:=["lots","outs","term","paper","goods","gone","duty","units","stretches","outside","gone_against"]
abbrev yea:List Str:=["lots","outs","term","paper"]
theorem sc_good_paper:FnScope yf6 yea (yac yb8):=⟨rfl,rfl,rfl,by decide +kernel,rfl,by decide +kernel,by decide +kernel⟩
section
variable {P:Program}{w:World}{K:PySem.W.Frag}{mg:Str→Option Value}{base:Heap}{f:Addr}{fd:FuncData}{cl:Nat→Addr}(T:Txt K mg cl)(B:Bn mg)
include T B
theorem yjq (G_checked_lots:Cal P w K mg base (CXE P w) 3 "checked_lots" yce (ypa (cl 5) (yje cl) 3)) (G_checked_outs:Cal P w K mg base (CXE P w) 3 "checked_outs" ycu (ypa (cl 5) (yje cl) 2)) (G_check_term:Cal P w K mg base (CXE P w) 2 "check_term" yc6 (yqp (cl 2))) (F:Fun K "checked_both" "checked_both" ycg f fd):FnOk P w K mg base (CXE P w) 4 f fd ybo (yla cl):=by
 refine F.okE sc_checked_both (fun vs H Q E h=>?_) (fun cdv A outer s H vs Q E hr h=>?_)
 ·obtain ⟨a,b,tm,rs,os,rfl,_⟩:=h;rfl
 obtain ⟨a,b,tm,rs,os,rfl,hR,h3,hO,h2,q1,q2⟩:=h
 refine⟨_,(yae (yas (i:=3) sc_checked_both.nd rfl (Or.inl rfl) (yam (E:=E) G_checked_lots hr rfl (yeg fun _ _ z=>z) (yaj (pv 0) yab)))
  (yae (yas (i:=4) sc_checked_both.nd rfl (Or.inl rfl) (yam (E:=E) G_checked_outs hr rfl (yeg fun _ _ z=>z) (yaj (pv 1) yab)))
  (yae (ybm (yam (E:=E) G_check_term hr rfl (yeg fun _ _ z=>z) (yaj (pv 2) yab)))
  (yah (yat (ybd (yaj (pv 3) (yaj (pv 4) yab)))))))),?_⟩
 refine⟨_,rfl,a,rs,rfl,hR,h3,fun c=>q1 5 (yjl (yjk c)) H (Same.refl H),fun c j e H' sm=>by rw[ymf];exact q1 _ (yjl (yk9 c e)) H' sm,fun rn rb l H1 hl s1 R1=>?_⟩
 have r0:=yn1 rn rb
 refine⟨_,rfl,b,os,rfl,hO.same s1,h2,fun c=>q1 5 (yjm r0 (yjk c)) H1 s1,fun c j e H' sm=>by rw[ymf];exact q1 _ (yjm r0 (yk9 c e)) H' (s1.trans sm),fun on ob o H2 ho s2 R2=>?_⟩
 have o0:=yn1 on ob
 have bt:=yjn (tm:=tm) r0 o0
 have s12:=s1.trans s2
 refine⟨_,rfl,tm,rfl,fun c=>?_,fun c=>q1 2 (by rw[bt,if_neg c]) H2 s12⟩
 rw[if_pos c] at bt
 refine⟨_,rfl,_,rfl,by show 2≤sizeLine;decide,fun t ht=>?_⟩
 have s3:=yad (H:=H2) ht (.tup [.ref l,.ref o])
 exact q2 bt t l o _ (s12.free ht) hl (s1.free ho) (s12.trans s3) ((R1.same s2).same s3) (R2.same s3) yaa
theorem yn5 (F:Fun K "dear_ones" "dear_ones" yc4 f fd):FnOk P w K mg base CX0 1 f fd ydv yqr:=by
 refine F.ok yn2 (fun vs H Q E h=>?_) (fun cdv A outer s H vs Q E hr h=>?_)
 ·obtain ⟨a,u,rs,rfl,_⟩:=h;rfl
 obtain ⟨a,u,rs,rfl,hR,h3,hn,q⟩:=h
 refine⟨_,(yah (yat (yc0 (N':=["lot","duty"]) (ix:=[none,some 1]) (g:=(ybg 0)) (ti:=(yna (tOp (rI0 fun i j=>.bl (decide (j≤i))) (tOp (yvj K) (ycc 0) (tC (.int 2))) (ycc 1)))) (te:=(ycc 0)) rfl (yaw (N:=yjp) (D:=yac yc4) (by decide +kernel)) (ya9 (pv 0)) (fun C s H fp=>(yai (i:=0) (show (["lot","duty"]:List Str).Nodup by decide +kernel) rfl (Or.inl rfl))) (fun C s H fp=>(ye2 (yay ysy (yba ybt (pv 0) yaf (fun _ _=>rfl)) (pv 1) (ya7 _)))) (fun C s H fp=>(pv 0))))),?_⟩
 obtain ⟨xs,ex,ht⟩:=hR.tups
 refine⟨_,rfl,a,rfl,⟨xs,SqL.of ex⟩,fun D hD=>?_⟩
 refine yf4 (fun i zs H'=>(∀(p:Addr) (z:List V),H p=some (.tup z)→H' p=some (.tup z))∧Tups H zs ((rs.take i).filter (yek u))) hD ex (by rw[ht.1];omega) (fun i zs H1 H2 h k=>⟨fun p z e=>k _ _ (yak e hD) (h.1 p z e),h.2⟩) ⟨fun _ _ e=>e,Tups.nil⟩ ?_ ?_
 ·rintro i x zs H1 ei s1 ⟨k1,ht1⟩ K1 K2 q1 q2
  obtain ⟨p,r,rfl,er,hp⟩:=ht.at ei
  obtain ⟨d,c,v,rfl⟩:=yl2 (h3 r (List.mem_of_getElem? er))
  have ft:=yci (rs:=rs) (yek u) er
  refine⟨ya5 ybi rfl,?_⟩
  refine⟨_,rfl,p,_,_,.int v,rfl,rfl,SqT.of (s1 _ _ hp),rfl,_,rfl,_,_,rfl,rfl,_,rfl,?_⟩
  by_cases c1:u≤v
  ·rw[decide_eq_true c1]
   refine ycl ⟨_,rfl,q1 _ _ (Same.refl _) ⟨k1,?_⟩⟩
   rw[ft,if_pos (show yek u [d,c,v]=true from decide_eq_true c1)]
   exact ht1.append (Tups.one hp)
  ·rw[decide_eq_false c1]
   refine yct (q2 _ (Same.refl _) ⟨k1,?_⟩)
   rw[ft,if_neg (show ¬ yek u [d,c,v]=true from fun z=>c1 (of_decide_eq_true z)),List.append_nil]
   exact ht1
 ·rintro zs H1 s1 ⟨k1,ht1⟩ hl hz
  rw[ht.1,List.take_length] at ht1
  exact q D H1 hD s1 ((ht1.keep k1).rows hz)
theorem ypi (F:Fun K "units_of" "units_of" ydw f fd):FnOk P w K mg base CX0 1 f fd yem ymg:=by
 refine F.ok yph (fun vs H Q E h=>?_) (fun cdv A outer s H vs Q E hr h=>?_)
 ·obtain ⟨a,rs,rfl,_⟩:=h;rfl
 obtain ⟨a,rs,rfl,hR,h3,hn,q⟩:=h
 refine⟨_,(yah (yat (yaq (yf3 rfl) rfl B.sum PyProof.Rows.boot_sum (yaj (yc0 (N':=["day","count","duty"]) (ix:=[none,none,none]) (g:=(ym6 K 3 (ybw (ybg 0) (ybw (ybg 1) (ybw (ybg 2) ym5))))) (ti:=ykh) (te:=(ycc 1)) rfl (yaw (N:=ylb) (D:=yac ydw) (by decide +kernel)) (ya9 (pv 0)) (fun C s H fp=>(ya8 rfl (yag (yai (i:=0) (show (["day","count","duty"]:List Str).Nodup by decide +kernel) rfl (Or.inl rfl)) (yag (yai (i:=1) (show (["day","count","duty"]:List Str).Nodup by decide +kernel) rfl (Or.inl rfl)) (yag (yai (i:=2) (show (["day","count","duty"]:List Str).Nodup by decide +kernel) rfl (Or.inl rfl)) yax))))) (fun C s H fp=>ybs) (fun C s H fp=>(pv 1))) yab)))),?_⟩
 obtain ⟨xs,ex,ht⟩:=hR.tups
 refine⟨_,rfl,a,rfl,⟨xs,SqL.of ex⟩,fun D hD=>?_⟩
 refine yf4 (fun i zs _=>zs=((rs.take i).map fun r=>r.getD 1 0).map V.int) hD ex (by rw[ht.1];omega) (fun i zs H1 H2 h k=>h) rfl ?_ ?_
 ·rintro i x zs H1 ei s1 rfl K1 K2 q1 q2
  obtain ⟨p,r,rfl,er,hp⟩:=ht.at ei
  obtain ⟨d,c,v,rfl⟩:=yl2 (h3 r (List.mem_of_getElem? er))
  refine⟨p,_,rfl,SqT.of (s1 _ _ hp),rfl,_,_,rfl,_,_,rfl,_,_,rfl,rfl,ya5 (ya5 (ya5 ybi rfl) rfl) rfl,?_⟩
  refine⟨_,rfl,q1 _ _ (Same.refl _) ?_⟩
  rw[ybb er,List.map_append,List.map_append];rfl
 ·rintro zs H1 s1 rfl hl hz
  rw[ht.1,List.take_length] at hz
  exact⟨D,_,rfl,SqL.of hz,q H1 s1⟩
theorem ymi (F:Fun K "are_rising" "are_rising" yda f fd):FnOk P w K mg base CX0 1 f fd yd9 ymh:=by
 refine F.ok sc_are_rising (fun vs H Q E h=>?_) (fun cdv A outer s H vs Q E hr h=>?_)
 ·obtain ⟨a,ss,rfl,_⟩:=h;rfl
 obtain ⟨a,ss,rfl,hR,h2,q⟩:=h
 refine⟨_,(yae (yas (i:=1) sc_are_rising.nd rfl (Or.inl rfl) yaf)
  (yae (ycr PassesOwn.never rfl (ya9 (pv 0)) (ya8 rfl (yag (yai (i:=2) sc_are_rising.nd rfl (Or.inl rfl)) (yag (yai (i:=3) sc_are_rising.nd rfl (Or.inl rfl)) yax))) (yae (yb7 (yfa (yt8 yil ydk ydk (pv 1) (pv 2) (pv 3) (yii rfl T.LAST_DAY))) (yah (yat yke)) ya6)
   (yah (yas (i:=1) sc_are_rising.nd rfl (Or.inl rfl) (pv 3)))))
  (yah (yat yke)))),?_⟩
 obtain ⟨xs,ex,ht⟩:=hR.tups
 refine⟨_,rfl,a,rfl,⟨xs,SqL.of ex⟩,?_⟩
 refine ydb (xs:=xs) (fun i σ H3=>∃(e:Int) (o2 o3:Option V),σ=[some (.ref a),some (.int e),o2,o3]∧H3=H∧yfs 0 ss=yfs e (ss.drop i)) ⟨_,_,_,rfl,rfl,rfl⟩ ?_ ?_ ?_
 ·rintro i σ H3 hi ⟨e,o2,o3,rfl,rfl,_⟩
  exact SqL.of ex
 ·rintro i x σ H3 ei ⟨e,o2,o3,rfl,rfl,hb⟩
  obtain ⟨p,r,rfl,er,hp⟩:=ht.at ei
  obtain ⟨d,c,rfl⟩:=ypb (h2 r (List.mem_of_getElem? er))
  have hd:ss.drop i=[d,c]::ss.drop (i+1):=by
   obtain ⟨hi,e'⟩:=List.getElem?_eq_some_iff.mp er
   rw[List.drop_eq_getElem_cons hi,e']
  have hs:yfs e ([d,c]::ss.drop (i+1))=(decide (e<d∧d≤c∧c≤999)&&yfs c (ss.drop (i+1))):=rfl
  rw[hd,hs] at hb
  refine⟨p,_,rfl,SqT.of hp,rfl,_,_,rfl,_,_,rfl,rfl,?_⟩
  have no:¬ (e<d∧d≤c∧c≤999)→Q (.bl false) H3:=fun z=>by
   rw[decide_eq_false z,Bool.false_and] at hb
   rw[← hb];exact q
  refine⟨_,rfl,_,rfl,_,_,rfl,rfl,_,rfl,?_⟩
  by_cases c1:e<d
  ·rw[decide_eq_true c1]
   refine ycl ⟨_,rfl,_,_,rfl,rfl,_,rfl,?_⟩
   by_cases c2:d≤c
   ·rw[decide_eq_true c2]
    refine ycl ⟨_,_,rfl,rfl,_,rfl,?_⟩
    by_cases c3:c≤999
    ·rw[decide_eq_true c3]
     refine yct ⟨_,rfl,c,_,_,rfl,rfl,?_⟩
     rw[hb,decide_eq_true ⟨c1,c2,c3⟩,Bool.true_and]
    ·rw[decide_eq_false c3]
     exact ycl (no fun z=>c3 z.2.2)
   ·rw[decide_eq_false c2]
    exact yct (ycl (no fun z=>c2 z.2.1))
  ·rw[decide_eq_false c1]
   exact yct (ycl (no fun z=>c1 z.1))
 ·rintro σ H3 ⟨e,o2,o3,rfl,rfl,hb⟩
  rw[ht.1,List.drop_length] at hb
  have:yfs 0 ss=true:=hb
  rw[this] at q
  exact q
theorem yrs (F:Fun K "lies_in" "lies_in" yew f fd):FnOk P w K mg base CX0 1 f fd yf5 yqs:=by
 refine F.ok yrr (fun vs H Q E h=>?_) (fun cdv A outer s H vs Q E hr h=>?_)
 ·obtain ⟨d,a,ss,rfl,_⟩:=h;rfl
 obtain ⟨d,a,ss,rfl,hR,h2,hn,q⟩:=h
 refine⟨_,(yah (yat (yaq (yti rfl) rfl B.any PyProof.Rows.boot_any (yaj (yc0 (N':=["first","last","day"]) (ix:=[none,none,some 0]) (g:=(ym6 K 2 (ybw (ybg 0) (ybw (ybg 1) ym5)))) (ti:=ykh) (te:=(ynb (rI0 fun i j=>.bl (decide (i≤j))) (rI0 fun i j=>.bl (decide (i≤j))) (ycc 0) (ycc 2) (ycc 1))) rfl (yaw (N:=yn4) (D:=yac yew) (by decide +kernel)) (ya9 (pv 1)) (fun C s H fp=>(ya8 rfl (yag (yai (i:=0) (show (["first","last","day"]:List Str).Nodup by decide +kernel) rfl (Or.inl rfl)) (yag (yai (i:=1) (show (["first","last","day"]:List Str).Nodup by decide +kernel) rfl (Or.inl rfl)) yax)))) (fun C s H fp=>ybs) (fun C s H fp=>(yls ydk ydk (pv 0) (pv 2) (pv 1)))) yab)))),?_⟩
 obtain ⟨xs,ex,ht⟩:=hR.tups
 refine⟨_,rfl,a,rfl,⟨xs,SqL.of ex⟩,fun D hD=>?_⟩
 refine yf4 (fun i zs _=>zs=((ss.take i).map (yjo d)).map V.bl) hD ex (by rw[ht.1];omega) (fun i zs H1 H2 h k=>h) rfl ?_ ?_
 ·rintro i x zs H1 ei s1 rfl K1 K2 q1 q2
  obtain ⟨p,r,rfl,er,hp⟩:=ht.at ei
  obtain ⟨e,c,rfl⟩:=ypb (h2 r (List.mem_of_getElem? er))
  have nx:((ss.take (i+1)).map (yjo d)).map V.bl=((ss.take i).map (yjo d)).map V.bl++[.bl (decide (e≤d∧d≤c))]:=by
   rw[ybb er,List.map_append,List.map_append];rfl
  refine⟨p,_,rfl,SqT.of (s1 _ _ hp),rfl,_,_,rfl,_,_,rfl,rfl,ya5 (ya5 ybi rfl) rfl,?_⟩
  refine⟨_,rfl,_,rfl,_,_,rfl,rfl,_,rfl,?_⟩
  by_cases c1:e≤d
  ·rw[decide_eq_true c1]
   refine ycl ⟨_,rfl,_,_,rfl,rfl,q1 _ _ (Same.refl _) ?_⟩
   rw[nx]
   by_cases c2:d≤c <;> simp [c1,c2]
  ·rw[decide_eq_false c1]
   refine yct (q1 _ _ (Same.refl _) ?_)
   rw[nx]
   simp [c1]
 ·rintro zs H1 s1 rfl hl hz
  rw[ht.1,List.take_length] at hz
  refine⟨D,_,rfl,SqL.of hz,?_⟩
  have:yim d ss=(ss.map (yjo d)).any id:=by unfold yim;rw[List.any_map];rfl
  rw[← this]
  exact q H1 s1
theorem ymj (G_checked_both:Cal P w K mg base (CXE P w) 4 "checked_both" ybo (yla cl)) (G_are_rising:Cal P w K mg base CX0 1 "are_rising" yd9 ymh) (G_dear_ones:Cal P w K mg base CX0 1 "dear_ones" ydv yqr) (G_lies_in:Cal P w K mg base CX0 1 "lies_in" yf5 yqs) (G_going:Cal P w K mg base CX0 1 "going" yhy yhw) (G_units_of:Cal P w K mg base CX0 1 "units_of" yem ymg) (F:Fun K "good_paper" "good_paper" yb8 f fd):FnOk P w K mg base (CXE P w) 5 f fd yea (yub cl):=by
 refine F.okE sc_good_paper (fun vs H Q E h=>?_) (fun cdv A outer s H vs Q E hr h=>?_)
 ·obtain ⟨a,b,p,s,tm,u,n,rs,os,ss,rfl,_⟩:=h;rfl
 obtain ⟨a,b,p,sr,tm,u,n,rs,os,ss,rfl,hR,h3,hO,h2,hp,hS,s2,sn,q1,q2⟩:=h
 refine⟨_,(yae (ych (yam (E:=E) G_checked_both hr rfl (yeg fun _ _ z=>z) (yaj (pv 0) (yaj (pv 1) (yaj (pv 2) yab)))) (ya8 rfl (yag (yai (i:=4) sc_good_paper.nd rfl (Or.inl rfl)) (yag (yai (i:=5) sc_good_paper.nd rfl (Or.inr rfl)) yax))))
  (yae (ych (pv 3) (ya8 rfl (yag (yai (i:=6) sc_good_paper.nd rfl (Or.inl rfl)) (yag (yai (i:=7) sc_good_paper.nd rfl (Or.inl rfl)) (yag (yai (i:=8) sc_good_paper.nd rfl (Or.inr rfl)) yax)))))
  (yae (yb7 (yfa (yfq (yam G_are_rising hr rfl ya1 (yaj (pv 8) yab)) (fun _=>rfl))) (yah (yat yke)) ya6)
  (yae (yel (i:=9) sc_good_paper.nd rfl (Or.inl rfl) (N':=["lot","stretches"]) (ix:=[none,some 8]) (g:=(ybg 0)) (ti:=(zcj (fun σ H Q=>(ykf yqs [] E0 (ybn (tOp (yvj K) (ycc 0) (tC (.int 0))) (ybn (ycc 1) yky))) σ H fun x H'=>∃k,yz0 K x H' k∧Q k H'))) (te:=(ycc 0)) rfl (yaw (N:=yf6) (D:=yac yb8) (by decide +kernel)) (ya9 (yam G_dear_ones hr rfl ya1 (yaj (pv 4) (yaj (pv 6) yab)))) (fun C s H fp=>(yai (i:=0) (show (["lot","stretches"]:List Str).Nodup by decide +kernel) rfl (Or.inl rfl))) (fun C s H fp=>(ye2 (yfa (yfq (yam G_lies_in hr rfl ya1 (yaj (yba ybt (pv 0) yaf (fun _ _=>rfl)) (yaj (pv 1) yab))) (fun _=>rfl))))) (fun C s H fp=>(pv 0)))
  (yae (yas (i:=10) sc_good_paper.nd rfl (Or.inl rfl) (yaq (yf3 rfl) rfl B.sum PyProof.Rows.boot_sum (yaj (yc0 (N':=["stretch","gone","term"]) (ix:=[none,some 5,some 2]) (g:=(ybg 0)) (ti:=ykh) (te:=(ykf yhw [] E0 (ybn (ycc 1) (ybn (ycc 2) (ybn (ycc 0) yky))))) rfl (yaw (N:=yf6) (D:=yac yb8) (by decide +kernel)) (ya9 (pv 8)) (fun C s H fp=>(yai (i:=0) (show (["stretch","gone","term"]:List Str).Nodup by decide +kernel) rfl (Or.inl rfl))) (fun C s H fp=>ybs) (fun C s H fp=>(yam G_going hr rfl ya1 (yaj (pv 1) (yaj (pv 2) (yaj (pv 0) yab)))))) yab)))
  (yah (yat (ysz yg7 (pv 7) (ybh ycs (yam G_units_of hr rfl ya1 (yaj (pv 9) yab)) (pv 10)) (ya7 _))))))))),?_⟩
 refine⟨_,rfl,_,rfl,_,rfl,a,b,tm,rs,os,rfl,hR,h3,hO,h2,q1,fun bn t l o H1 ht hl ho s1 R1 O1 et=>?_⟩
 have q3:=q2 bn
 have rn:rs.length≤30∧os.length≤30:=by
  unfold ybj at bn
  cases e1:ya3 rs with
  |some j=>rw[e1] at bn;cases bn
  |none=>
   rw[e1] at bn
   cases e2:ya3 os with
   |some j=>rw[e2] at bn;cases bn
   |none=>exact⟨(yjj e1).1,(yjj e2).1⟩
 refine⟨t,_,rfl,SqT.of et,rfl,_,_,rfl,_,_,rfl,rfl,?_⟩
 refine⟨_,rfl,p,_,rfl,SqT.of (s1 _ _ hp),rfl,_,_,rfl,_,_,rfl,_,_,rfl,rfl,?_⟩
 refine⟨_,rfl,sr,ss,rfl,hS.same s1,s2,_,rfl,?_⟩
 cases rb:yfs 0 ss with
 |false=>
  rw[rb] at q3
  exact ycl (q3 H1 s1)
 |true=>
  rw[rb] at q3
  refine yct ?_
  refine⟨_,rfl,_,rfl,l,u,rs,rfl,R1,h3,by omega,fun dl H2 hdl s12 R2=>?_⟩
  obtain ⟨xs,ex,hx⟩:=R2.tups
  have d3:∀r∈rs.filter (yek u),r.length=3:=fun r hr=>h3 r ((List.mem_filter.mp hr).1)
  have dn:(rs.filter (yek u)).length≤30:=Nat.le_trans (List.length_filter_le _ _) rn.1
  refine⟨dl,rfl,⟨xs,SqL.of ex⟩,fun D hD=>?_⟩
  have S2:=s1.trans s12
  refine yf4 (fun i zs H'=>(∀(p:Addr) (z:List V),H2 p=some (.tup z)→H' p=some (.tup z))∧Tups H2 zs (((rs.filter (yek u)).take i).filter fun r=>!yim (r.getD 0 0) ss)) hD ex (by rw[hx.1];omega) (fun i zs H1 H3 h k=>⟨fun p z e=>k _ _ (yak e hD) (h.1 p z e),h.2⟩) ⟨fun _ _ e=>e,Tups.nil⟩ ?_ ?_
  ·rintro i x zs H3 ei s3 ⟨k3,ht3⟩ K1 K2 q4 q5
   obtain ⟨pr,r,rfl,er,hpr⟩:=hx.at ei
   obtain ⟨d,c,v,rfl⟩:=yl2 (d3 r (List.mem_of_getElem? er))
   have ft:=yci (rs:=rs.filter (yek u)) (fun r=>!yim (r.getD 0 0) ss) er
   refine⟨ya5 ybi rfl,?_⟩
   refine⟨_,rfl,pr,_,_,.int d,rfl,rfl,SqT.of (s3 _ _ hpr),rfl,_,rfl,d,sr,ss,rfl,hS.same (S2.trans s3),s2,sn,fun H4 s4=>?_⟩
   refine⟨_,rfl,?_⟩
   have eb:(!yim (([d,c,v]:List Int).getD 0 0) ss) = !yim d ss:=rfl
   cases lb:yim d ss with
   |false=>
    refine ycl ⟨_,rfl,q4 _ _ s4 ⟨fun p z e=>s4 _ _ (k3 p z e),?_⟩⟩
    rw[ft,if_pos (by rw[eb,lb];rfl)]
    exact ht3.append (Tups.one hpr)
   |true=>
    refine yct (q5 _ s4 ⟨fun p z e=>s4 _ _ (k3 p z e),?_⟩)
    rw[ft,if_neg (by rw[eb,lb];decide),List.append_nil]
    exact ht3
  ·rintro zs H3 s3 ⟨k3,ht3⟩ hl3 hz3
   rw[hx.1,List.take_length] at ht3
   have R3:Rows H3 D ((rs.filter (yek u)).filter fun r=>!yim (r.getD 0 0) ss):=(ht3.keep k3).rows hz3
   have S3:=S2.trans s3
   have O3:=O1.same (s12.trans s3)
   have T3:=hS.same S3
   obtain ⟨ys,ey,hy⟩:=T3.tups
   refine⟨_,rfl,sr,rfl,⟨ys,SqL.of ey⟩,fun D' hD'=>?_⟩
   refine yf4 (fun i zs _=>zs=((ss.take i).map fun r=>ybc os tm (r.getD 0 0) (r.getD 1 0)).map V.int) hD' ey (by rw[hy.1];omega) (fun i zs H1 H3 h k=>h) rfl ?_ ?_
   ·rintro i x zs H4 ei s4 rfl K1 K2 q4 q5
    obtain ⟨pr,r,rfl,er,hpr⟩:=hy.at ei
    obtain ⟨d,c,rfl⟩:=ypb (s2 r (List.mem_of_getElem? er))
    refine⟨ya5 ybi rfl,?_⟩
    refine⟨_,rfl,_,rfl,_,rfl,o,pr,tm,d,c,os,rfl,O3.same s4,h2,by omega,s4 _ _ hpr,fun H5 s5=>q4 _ _ s5 ?_⟩
    rw[ybb er,List.map_append,List.map_append];rfl
   ·rintro zs H4 s4 rfl hl4 hz4
    rw[hy.1,List.take_length] at hz4
    refine⟨D',_,rfl,SqL.of hz4,?_⟩
    have S4:=S3.trans s4
    refine⟨_,rfl,_,rfl,D,_,rfl,R3.same s4,fun r hr=>d3 r ((List.mem_filter.mp hr).1),Nat.le_trans (List.length_filter_le _ _) (by omega),fun H5 s5=>?_⟩
    refine⟨_,rfl,_,_,rfl,rfl,rfl,?_⟩
    have:=q3 H5 (S4.trans s5)
    rw[Bool.true_and] at this
    have e:decide (V.int n=V.int (yfr ((rs.filter (yek u)).filter fun r=>!yim (r.getD 0 0) ss)+(ss.map fun r=>ybc os tm (r.getD 0 0) (r.getD 1 0)).sum))=decide (n=yua rs os tm u ss):=by
     unfold yua yxr
     by_cases z:n=yfr ((rs.filter (yek u)).filter fun r=>!yim (r.getD 0 0) ss)+(ss.map fun r=>ybc os tm (r.getD 0 0) (r.getD 1 0)).sum
     ·rw[decide_eq_true z,decide_eq_true (congrArg V.int z)]
     ·rw[decide_eq_false z,decide_eq_false (fun y=>z (V.int.inj y))]
    show Q (.bl (decide (V.int n=_))) H5
    rw[e]
    exact this
end
end K28
namespace L2
open PySem PySem.Spec PyProof.Rows
section
variable {κ:Type}[DecidableEq κ]
def ypj (kvs:List (κ×V))(k:κ):Option V:=(kvs.find? fun kv=>decide (kv.1=k)).map (·.2)
def yjr (kvs:List (κ×V))(k:κ)(v:V):List (κ×V):=
 if (kvs.any fun kv=>decide (kv.1=k))=true then kvs.map (fun kv=>if kv.1=k then (kv.1,v) else kv) else kvs++[(k,v)]
theorem yiu {p:κ×V}{r:List (κ×V)}{k:κ}(e:p.1=k):ypj (p::r) k=some p.2:=by simp [ypj,List.find?_cons,e]
theorem yiv {p:κ×V}{r:List (κ×V)}{k:κ}(e:¬ p.1=k):ypj (p::r) k=ypj r k:=by simp [ypj,List.find?_cons,e]
theorem ymk (k:κ):∀kvs:List (κ×V),(kvs.any fun kv=>decide (kv.1=k))=(ypj kvs k).isSome
 |[]=>rfl
 |p::r=>by
  rw[List.any_cons]
  by_cases e:p.1=k
  ·simp only[yiu e,decide_eq_true e,Bool.true_or,Option.isSome_some]
  ·rw[yiv e,decide_eq_false e,Bool.false_or];exact ymk k r
theorem yft (kvs:List (κ×V))(k:κ)(v:V):(yjr kvs k v).length≤kvs.length+1:=by
 unfold yjr
 split
 ·rw[List.length_map];omega
 ·rw[List.length_append,List.length_cons,List.length_nil];omega
theorem ywa {kvs:List (κ×V)}{k:κ}(v:V)(h:ypj kvs k=none):yjr kvs k v=kvs++[(k,v)]:=by
 unfold yjr
 rw[ymk,h]
 exact if_neg (by decide)
theorem RelO.isSome_eq {o:Option V}{u:Option Value}(r:RelO o u):o.isSome=u.isSome:=by
 cases o with
 |none=>cases u with
  |none=>rfl
  |some _=>exact(show False from r).elim
 |some _=>cases u with
  |none=>exact(show False from r).elim
  |some _=>rfl
theorem KV.val {kvs:List (κ×V)}{vs:List (κ×Value)}(r:KV kvs vs)(k:κ):RelO (ypj kvs k) (valueAt vs k):=by
 unfold KV at r
 induction r with
 |nil=>exact True.intro
 |@cons p q ps qs h t ih=>
  obtain ⟨h1,h2⟩:=h
  by_cases e:p.1=k
  ·have e':q.1=k:=h1.symm.trans e
   have b:valueAt (q::qs) k=some q.2:=by simp [valueAt,List.find?_cons,e']
   rw[yiu e,b];exact h2
  ·have e':¬ q.1=k:=fun z=>e (h1.trans z)
   have b:valueAt (q::qs) k=valueAt qs k:=by simp [valueAt,List.find?_cons,e']
   rw[yiv e,b];exact ih
theorem KV.any {kvs:List (κ×V)}{vs:List (κ×Value)}(r:KV kvs vs)(k:κ):(kvs.any fun kv=>decide (kv.1=k))=vs.any fun kv=>decide (kv.1=k):=by
 unfold KV at r
 induction r with
 |nil=>rfl
 |cons h t ih=>rw[List.any_cons,List.any_cons,ih,h.1]
theorem KV.repl {kvs:List (κ×V)}{vs:List (κ×Value)}(r:KV kvs vs)(k:κ){y:V}{u:Value}(ry:RelV y u) :
 KV (kvs.map fun kv=>if kv.1=k then (kv.1,y) else kv) (vs.map fun kv=>if kv.1=k then (kv.1,u) else kv):=by
 unfold KV at r ⊢
 induction r with
 |nil=>exact .nil
 |@cons p q ps qs h t ih=>
  rw[List.map_cons,List.map_cons]
  refine .cons ?_ ih
  obtain ⟨h1,h2⟩:=h
  by_cases e:p.1=k
  ·rw[if_pos e,if_pos (h1.symm.trans e)];exact⟨h1,ry⟩
  ·rw[if_neg e,if_neg (fun z=>e (h1.trans z))];exact⟨h1,h2⟩
theorem KV.put {kvs:List (κ×V)}{vs:List (κ×Value)}(r:KV kvs vs)(k:κ){y:V}{u:Value}(ry:RelV y u):KV (yjr kvs k y) (stored vs k u):=by
 unfold yjr stored
 rw[r.any k]
 by_cases e:(vs.any fun kv=>decide (kv.1=k))=true
 ·rw[if_pos e,if_pos e];exact r.repl k ry
 ·rw[if_neg e,if_neg e];exact Paired.snoc r ⟨rfl,ry⟩
theorem KV.length {kvs:List (κ×V)}{vs:List (κ×Value)}(r:KV kvs vs):kvs.length=vs.length:=Paired.length r
end
theorem yyw {P:Program}{w:World}{k:Key}{u:Value}(r:RelV (kV k) u):(yb4 P w).is k u=true:=by
 cases k with
 |inl i=>obtain ⟨t,e⟩:=(show ∃t,u=Value.int i t from r);subst e;exact yoy P w i t
 |inr x=>obtain ⟨t,e⟩:=(show ∃t,u=Value.str x t from r);subst e;exact yoz P w x t
theorem yn6 {P:Program}{w:World}:∀{ks:List Key}{us:List Value},Vals (ks.map kV) us→ItemsAre (yb4 P w) ks us
 |[],_,r=>by rw[List.map_nil] at r;cases r;exact .nil
 |k::ks,_,r=>by
  rw[List.map_cons] at r
  cases r with
  |cons h t=>exact .cons (yyw h) (yn6 t)
abbrev KT (H:Hp):List (List Key×V)→List (List Key×Addr×Value)→Prop:=Paired fun p q=>p.1=q.1∧H q.2.1=some (.tup (p.1.map kV))∧RelV p.2 q.2.2
theorem KT.val {H:Hp}{kvs:List (List Key×V)}{xs:List (List Key×Addr×Value)}(r:KT H kvs xs)(k:List Key):RelO (ypj kvs k) ((atKey xs k).map (·.2)):=by
 induction r with
 |nil=>exact True.intro
 |@cons p q ps qs h t ih=>
  obtain ⟨h1,_,h2⟩:=h
  by_cases e:p.1=k
  ·have e':q.1=k:=h1.symm.trans e
   have b:atKey (q::qs) k=some q.2:=by simp [atKey,List.find?_cons,e']
   rw[yiu e,b];exact h2
  ·have e':¬ q.1=k:=fun z=>e (h1.trans z)
   have b:atKey (q::qs) k=atKey qs k:=by simp [atKey,List.find?_cons,e']
   rw[yiv e,b];exact ih
theorem KT.repl {H:Hp}{kvs:List (List Key×V)}{xs:List (List Key×Addr×Value)}(r:KT H kvs xs)(k:List Key){y:V}{u:Value}(ry:RelV y u) :
 KT H (kvs.map fun kv=>if kv.1=k then (kv.1,y) else kv) (xs.map (putAt k u)):=by
 induction r with
 |nil=>exact .nil
 |@cons p q ps qs h t ih=>
  rw[List.map_cons,List.map_cons]
  refine .cons ?_ ih
  obtain ⟨h1,h2,h3⟩:=h
  unfold putAt
  by_cases e:p.1=k
  ·rw[if_pos e,if_pos (h1.symm.trans e)];exact⟨h1,h2,ry⟩
  ·rw[if_neg e,if_neg (fun z=>e (h1.trans z))];exact⟨h1,h2,h3⟩
theorem KT.put {H:Hp}{kvs:List (List Key×V)}{xs:List (List Key×Addr×Value)}(r:KT H kvs xs)(k:List Key){b:Addr}{y:V}{u:Value}(hb:H b=some (.tup (k.map kV)))(ry:RelV y u) :
 KT H (yjr kvs k y) (storedH xs k b u):=by
 have e:(kvs.any fun kv=>decide (kv.1=k))=(atKey xs k).isSome:=by
  rw[ymk,(r.val k).isSome_eq,Option.isSome_map]
 unfold yjr storedH
 rw[e]
 by_cases q:(atKey xs k).isSome=true
 ·rw[if_pos q,if_pos q];exact r.repl k ry
 ·rw[if_neg q,if_neg q];exact Paired.snoc r ⟨rfl,hb,ry⟩
theorem KT.keeps {H H':Hp}{kvs:List (List Key×V)}{xs:List (List Key×Addr×Value)}(r:KT H kvs xs)(ht:∀b ys,H b=some (.tup ys)→H' b=some (.tup ys)):KT H' kvs xs:=
 Paired.mapP r fun _ _ z=>⟨z.1,ht _ _ z.2.1,z.2.2⟩
section
variable {P:Program}{w:World}{H:Hp}{h:Heap}{a:Addr}
theorem zaq {u:HO}(ok:HOk P w H h)(e:Rd H a u):ObjOk P w H h a u:=e.ok ok
theorem ywb {kvs:List (Key×V)}(ok:HOk P w H h)(e:Rd H a (.dK kvs)):kvs.length≤sizeLine∧(a == sysModules)=false∧∃vs,KV kvs vs∧h.DictOf (yb4 P w) a vs:=
 show ObjOk P w H h a (.dK kvs) from zaq ok e
theorem zb9 {kvs:List (Key×V)}(ok:HOk P w H h)(e:H a=some (.dK kvs)):kvs.length≤sizeLine∧(a == sysModules)=false∧∃vs,KV kvs vs∧h.DictOf (yb4 P w) a vs:=ywb ok (.inl e)
theorem yqt {ks:List Key}(ok:HOk P w H h)(e:H a=some (.tup (ks.map kV))):(tupleKind (yb4 P w)).is h ks a:=by
 obtain ⟨_,its,r,o,h1,h2,n,h3⟩:=(show ObjOk P w H h a (.tup (ks.map kV)) from ok a _ e)
 exact⟨o,its.toArray,n,h1,h2,h3,by simpa using yn6 r⟩
theorem ywc {kvs:List (List Key×V)}(ok:HOk P w H h)(e:Rd H a (.dT kvs)):kvs.length≤sizeLine∧(a == sysModules)=false∧
 ∃xs,KT H kvs xs∧h.DictOfH (tupleKind (yb4 P w)) a xs:=by
 obtain ⟨z,y,xs,r,o,es,ep,h1,h2,h3,h4,h5⟩:=(show ObjOk P w H h a (.dT kvs) from zaq ok e)
 refine⟨z,y,xs,r,o,es,ep,h1,h2,h3,h4,fun x hx=>?_,h5⟩
 have all:∀{l:List (List Key×V)}{m:List (List Key×Addr×Value)},KT H l m→∀x∈m,(tupleKind (yb4 P w)).is h x.1 x.2.1:=by
  intro l m q
  induction q with
  |nil=>intro x hx;exact nomatch hx
  |@cons p q ps qs hq t ih=>
   intro x hx
   rcases List.mem_cons.mp hx with e|hx
   ·subst e
    exact yqt ok (by rw[← hq.1];exact hq.2.1)
   ·exact ih x hx
 exact all r x hx
theorem zar {kvs:List (List Key×V)}(ok:HOk P w H h)(e:H a=some (.dT kvs)):kvs.length≤sizeLine∧(a == sysModules)=false∧
 ∃xs,KT H kvs xs∧h.DictOfH (tupleKind (yb4 P w)) a xs:=ywc ok (.inl e)
end
def zbj (H:Hp)(a:Addr)(y:V)(r:Option V):Prop:=
 (∃kvs k,Rd H a (.dK kvs)∧y=kV k∧r=ypj kvs k)∨∃kvs k b,Rd H a (.dT kvs)∧y = .ref b∧H b=some (.tup (k.map kV))∧r=ypj kvs k
def DPut (H:Hp)(a:Addr)(y v:V)(H':Hp):Prop:=
 (∃kvs k,H a=some (.dK kvs)∧y=kV k∧kvs.length<sizeLine∧H'=upd H a (.dK (yjr kvs k v)))∨
 ∃kvs k b,H a=some (.dT kvs)∧y = .ref b∧H b=some (.tup (k.map kV))∧kvs.length<sizeLine∧H'=upd H a (.dT (yjr kvs k v))
theorem DPut.t {H:Hp}{a b:Addr}{kvs:List (List Key×V)}{k:List Key}{v:V}(e:H a=some (.dT kvs))(eb:H b=some (.tup (k.map kV)))(hl:kvs.length<sizeLine) :
 DPut H a (.ref b) v (upd H a (.dT (yjr kvs k v))):=.inr ⟨kvs,k,b,e,rfl,eb,hl,rfl⟩
section
variable {X:Cx}{pins:List (Addr×Obj)}{σ:St}{H:Hp}{s:Shared}{a:Addr}{y v:V}{u r:Value}{o:Option V}{A:Around}{E:Value→Shared→Prop}
theorem Inv.big (I:Inv X pins σ H s):sysModules<s.heap.objs.size:=by
 have h:mainGlobals<s.heap.objs.size:=(I.mod.glob.keeps I.bk).lt
 exact Nat.lt_trans (by decide) h
theorem yuc {Q:Value→Shared→Prop}(hu:A.units+1<cLine)(I:Inv X pins σ H s)(g:zbj H a y (some v))(ry:RelV y u)(h:∀w' s',Inv X pins σ H s'→RelV v w'→Q w' s') :
 wpAny (model X.prog X.w) A (getItem (.ref a) u) Q E s:=by
 rcases g with ⟨kvs,k,e,ey,l⟩ | ⟨kvs,k,b,e,ey,eb,l⟩
 ·subst ey
  obtain ⟨z,hd,vs,rel,dd⟩:=ywb I.hok e
  obtain ⟨w',hw,rw'⟩:=RelO.some_of (v:=v) (o:=valueAt vs k) (by rw[l];exact rel.val k)
  exact wpAny_getItem_of (yyw ry) dd.mapOf hw (h w' _ (I.tok _) rw')
 ·subst ey
  cases (show u=Value.ref b from ry)
  obtain ⟨z,hd,xs,rel,dd⟩:=ywc I.hok e
  obtain ⟨w',hw,rw'⟩:=RelO.some_of (v:=v) (o:=(atKey xs k).map (·.2)) (by rw[l];exact rel.val k)
  obtain ⟨p,hp,hp2⟩:=Option.map_eq_some_iff.mp hw
  refine wpAny_getItem_heap (tupleKind_room_in1 hu) (yqt I.hok eb) dd hp ?_
  rw[hp2]
  exact h w' _ (I.tok _) rw'
theorem yml {h':Heap}{t':Nat}{ob:HO}(I:Inv X pins σ H s)(mu:Mut (H a))(hs:Heap.SameBut a s.heap h')(he:∃q,h'.get? a=some q)(new:ObjOk X.prog X.w (upd H a ob) h' a ob) :
 Inv X pins σ (upd H a ob) { s with heap:=h',toks:=t' }:=
 I.write (x:=a) (e:=a) mu (.inl rfl) (fun b q hb z=>(hs.2 b hb).trans z) he new
theorem zas {P:Program}{w:World}{H':Hp}{h':Heap}{kvs:List (Key×V)}{vs:List (Key×Value)}(z:kvs.length≤sizeLine)(hd:(a == sysModules)=false)(rel:KV kvs vs)(dd:h'.DictOf (yb4 P w) a vs) :
 ObjOk P w H' h' a (.dK kvs):=⟨z,hd,vs,rel,dd⟩
theorem yud {H':Hp}{Q:Unit→Shared→Prop}(hu:A.units+1<cLine)(I:Inv X pins σ H s)(g:DPut H a y v H')(ry:RelV y u)(rv:RelV v r)(h:∀s',Inv X pins σ H' s'→Q () s') :
 wpAny (model X.prog X.w) A (setItem (.ref a) u r) Q E s:=by
 rcases g with ⟨kvs,k,e,ey,l,eH⟩ | ⟨kvs,k,b,e,ey,eb,l,eH⟩
 ·subst ey eH
  obtain ⟨z,hd,vs,rel,dd⟩:=zb9 I.hok e
  have hz:vs.length≤sizeLine:=by rw[← rel.length];exact z
  have hl:(yjr kvs k v).length≤sizeLine:=by have:=yft kvs k v;omega
  refine wpAny_setItem_pairs (hsz:=hz) (yyw ry) dd fun h' dd' hs=>h _ ?_
  have he:∃q,h'.get? a=some q:=let ⟨q,_,_,hq,_⟩:=dd';⟨q,hq⟩
  exact yml I (by rw[e];exact True.intro) hs he (zas hl hd (rel.put k rv) dd')
 ·subst ey eH
  cases (show u=Value.ref b from ry)
  obtain ⟨z,hd,xs,rel,dd⟩:=zar I.hok e
  have hz:xs.length≤sizeLine:=by rw[← Paired.length rel];exact z
  have hl:(yjr kvs k v).length≤sizeLine:=by have:=yft kvs k v;omega
  refine wpAny_setItem_heap (hsz:=hz) (tupleKind_room_in1 hu) (yqt I.hok eb) dd fun h' dd' hs=>h _ ?_
  obtain ⟨q,es,ep,hq,h2,h3,h4,_,h5⟩:=dd'
  refine yml I (by rw[e];exact True.intro) hs ⟨q,hq⟩ ⟨hl,hd,_,(rel.put k eb rv).keeps fun c ys ec=>?_,q,es,ep,hq,h2,h3,h4,h5⟩
  rw[yal (yo0 ec e (fun z=>nomatch z))]
  exact ec
end
section
variable {X:Cx}{pins:List (Addr×Obj)}{σ:St}{H:Hp}{s:Shared}{a:Addr}{kvs:List (Key×V)}{k:Key}{u:Value}{A:Around}{E:Value→Shared→Prop}
end
def zct (i:Expr):Prop:=∀ov iv,subscripted i false ov iv=operate [ov,iv] (getItem ov iv)
theorem yyx {prog:Program}{w:World}{A:Around}{E:Value→Shared→Prop}{s:Shared}{env:Env}{value slice:Expr}{pos:Pos}{T id:String}{Q:Value→Shared→Prop}
 (hl:typeLookup (.type T) "__getitem__" = pure (some (.builtin id))) (hs:zct slice)
 (h:wpAny (model prog w) A (eval value env) (fun o s₁=>wpAny (model prog w) A (eval slice env) (fun i s₂=>s₂.TypeIs o T∧wpAny (model prog w) A (getItem o i) Q E s₂) E s₁) E s) :
 wpAny (model prog w) A (eval (.Subscript value slice pos) env) Q E s:=by
 refine Subscript_ (wpAny_mono h (fun o s₁ h₁=>wpAny_mono h₁ (fun i s₂ h₂=>?_) fun _ _ x=>x) fun _ _ x=>x)
 obtain ⟨hT,h₂⟩:=h₂
 unfold subscriptTail
 refine zwb0 ?_
 rw[getitemInPython_of_ne hT.not_modules]
 refine zwb0 (wpAny_specialOf hT hl ?_)
 have fin:wpAny (model prog w) A (subscripted slice false o i) (fun r s₃=>wpAny (model prog w) A (letTemporaryGo value o r >>= fun _=>pure r) Q E s₃) E s₂:=by
  rw[hs o i]
  exact wpAny_operating (wpAny_mono h₂ (fun r s₃ h₃=>zwb0 (wpAny_letTemporaryGo (zwp0 h₃))) fun _ _ x=>x)
 first
  |exact zwp0 (zwb0 fin)
  |exact zwb0 (zwp0 (zwb0 fin))
  |exact zwb0 fin
theorem ypk {X:Cx}{pins:List (Addr×Obj)}{σ:St}{H:Hp}{s:Shared}{a:Addr}{y:V}{o:Option V} (I:Inv X pins σ H s) (g:zbj H a y o):s.TypeIs (.ref a) "dict" := by
 rcases g with ⟨kvs,k,e,_,_⟩ | ⟨kvs,k,b,e,_,_,_⟩
 ·obtain ⟨_,_,vs,_,dd⟩:=ywb I.hok e
  exact dd.typeIs
 ·obtain ⟨_,_,xs,_,dd⟩:=ywc I.hok e
  exact dd.typeIs
def zca (td ty:TE):TE:=fun σ H Q=>td σ H fun x H1=>ty σ H1 fun y H2=>∃a v,x = .ref a∧zbj H2 a y (some v)∧Q v H2
def zcb (td ty tv:TE):TS:=fun D σ H=>tv σ H fun v H1=>td σ H1 fun x H2=>ty σ H2 fun y H3=>∃a H4,x = .ref a∧DPut H3 a y v H4∧D.nx σ H4
section
variable {X:Cx}{o i e value:Expr}{pos pos' tpos:Pos}{td ty tv:TE}
theorem yyy (hu:X.A.units+1<cLine)(ho:PE X o td)(hi:PE X i ty)(hs:zct i):PE X (.Subscript o i pos) (zca td ty):=by
 intro pins s σ H Q I h
 refine yyx PySem.F.slot_dict_getitem.lookup hs (thn (ho pins s σ H _ I h) fun u s1 ⟨x,H1,I1,rx,q1⟩=>thn (hi pins s1 σ H1 _ I1 q1) fun iv s2 ⟨y,H2,I2,ry,a,v,ex,g,q2⟩=>?_)
 subst ex
 obtain rfl:u=Value.ref a:=rx
 exact⟨ypk I2 g,yuc hu I2 g ry fun w' s3 I3 rw'=>⟨v,H2,I3,rw',q2⟩⟩
theorem yyz (hu:X.A.units+1<cLine)(ho:PE X o td)(hi:PE X i ty)(hv:PE X value tv)(hs:swapsWith value (some (.Subscript o i pos')) pos.line X.env=pure false) :
 PS X (.Assign [.Subscript o i pos'] value pos) (zcb td ty tv):=by
 intro pins s σ H D I h
 refine wpAny_Assign_Subscript (thn (hv pins s σ H _ I h) fun r s1 ⟨v,H1,I1,rv,q1⟩=>thn (ho pins s1 σ H1 _ I1 q1) fun u s2 ⟨x,H2,I2,rx,q2⟩=>thn (hi pins s2 σ H2 _ I2 q2) fun iv s3 ⟨y,H3,I3,ry,a,H4,ex,g,q3⟩=>?_) hs
 subst ex
 obtain rfl:u=Value.ref a:=rx
 exact yud hu I3 g ry rv fun s4 I4=>⟨σ,H4,I4,q3⟩
end
theorem yqu {P:Program}{w:World}{H:Hp} (h:Heap) (hb:sysModules<h.objs.size):ObjOk P w H (h.push { cls:=.type "dict",data:=.dict #[] }) h.objs.size (.dT []) :=
 ⟨Nat.zero_le _,beq_eq_false_iff_ne.mpr (Ne.symm (Nat.ne_of_lt hb)),[],.nil,_,#[],0,Heap.get?_push_size _ rfl,⟨rfl,rfl,rfl⟩,rfl,rfl,List.nodup_nil⟩
def zat:TE:=fun _ H Q=>∀p,H p=none→Q (.ref p) (upd H p (.dT []))
section
variable {X:Cx}{pos:Pos}
theorem ywd:PE X (.Dict [] [] pos) zat:=fun pins s σ H Q I h=>
 wpAny_Dict_empty ⟨.ref s.heap.objs.size,_,I.laid (a:=s.heap.objs.size) (o:=.dT []) (t':=s.toks) (fun _ _ q=>Heap.get?_push_of_some _ q) (Nat.le_refl _) (yqu s.heap I.big),rfl,h _ (I.hok.fresh (Nat.le_refl _))⟩
end
def IsD (H:Hp)(a:Addr):Prop:=(∃kvs,Rd H a (.dK kvs))∨∃kvs,Rd H a (.dT kvs)
theorem zau {X:Cx}{pins:List (Addr×Obj)}{σ:St}{H:Hp}{s:Shared}{a:Addr}(I:Inv X pins σ H s)(d:IsD H a) :
 s.TypeIs (.ref a) "dict" ∧ (∀b,Value.ref a = .ref b→∃ob,s.heap.get? b=some ob∧ob.dict=none)∧(a == sysModules)=false:=by
 rcases d with ⟨kvs,e⟩ | ⟨kvs,e⟩
 ·obtain ⟨_,hd,vs,_,dd⟩:=ywb I.hok e
  refine⟨dd.typeIs,fun b q=>?_,hd⟩
  cases q
  obtain ⟨ob,_,_,h1,h2,_⟩:=dd
  exact⟨ob,h1,h2.2.1⟩
 ·obtain ⟨_,hd,xs,_,dd⟩:=ywc I.hok e
  refine⟨dd.typeIs,fun b q=>?_,hd⟩
  cases q
  obtain ⟨ob,_,_,h1,h2,_⟩:=dd
  exact⟨ob,h1,h2.2.1⟩
section
variable {X:Cx}{pins:List (Addr×Obj)}{σ:St}{H:Hp}{s:Shared}{a:Addr}{y d:V}{u r:Value}{o:Option V}{A:Around}{E:Value→Shared→Prop}
end
section
variable {X:Cx}{o e f:Expr}{apos cpos:Pos}{td ty tx:TE}
end
section
variable {X:Cx}{pins:List (Addr×Obj)}{σ:St}{H:Hp}{s:Shared}{a:Addr}{kvs:List (Key×V)}{A:Around}{E:Value→Shared→Prop}
end
section
variable {X:Cx}{pins:List (Addr×Obj)}{σ:St}{H:Hp}{s:Shared}{a:Addr}{y:V}{u:Value}{A:Around}{E:Value→Shared→Prop}
end
section
variable {X:Cx}{pins:List (Addr×Obj)}{σ:St}{H:Hp}{s:Shared}
theorem yue {a b:Addr}{kvs:List (List Key×V)}{k:List Key}{v:V}{r:Value}{A:Around}{E:Value→Shared→Prop}{Q:Unit→Shared→Prop}(hu:A.units<cLine)(I:Inv X pins σ H s)(e:H a=some (.dT kvs))(eb:H b=some (.tup (k.map kV)))(l:kvs.length<sizeLine)(rv:RelV v r)
 (h:∀s',Inv X pins σ (upd H a (.dT (yjr kvs k v))) s'→Q () s'):wpAny (model X.prog X.w) A (dictSet a (.ref b) r) Q E s:=by
 obtain ⟨z,hd,xs,rel,dd⟩:=zar I.hok e
 have lp:=yft kvs k v
 refine wpAny_dictSet_heap (hsz:=by rw[← Paired.length rel];exact z) (show (tupleKind (yb4 X.prog X.w)).room A from hu) (yqt I.hok eb) dd fun h' dd' hs=>h _ ?_
 obtain ⟨q,es,ep,hq,h2,h3,h4,_,h5⟩:=dd'
 refine yml I (by rw[e];exact True.intro) hs ⟨q,hq⟩ ⟨by omega,hd,_,(rel.put k eb rv).keeps fun c ys ec=>?_,q,es,ep,hq,h2,h3,h4,h5⟩
 rw[yal (yo0 ec e (fun z=>nomatch z))];exact ec
theorem Inv.freeze {a:Addr}{u:HO}{o:Obj}(I:Inv X pins σ H s)(e:H a=some u)(mu:Mut (H a))(ho:s.heap.get? a=some o)(hu:ObjOk X.prog X.w (upd H a (.frz o u)) s.heap a u):Inv X pins σ (upd H a (.frz o u)) s:=
 I.write (x:=a) (e:=a) (t':=s.toks) (h':=s.heap) mu (.inl rfl) (fun b q _ z=>z) ⟨o,ho⟩ ⟨ho,hu⟩
def zdc (t:TE):TE:=fun σ H Q=>t σ H fun x H1=>∃a kvs,x = .ref a∧H1 a=some (.dT kvs)∧∀o,Q x (upd H1 a (.frz o (.dT kvs)))
theorem yxs {e:Expr}{t:TE}(h:PE X e t):PE X e (zdc t):=by
 intro pins s σ H Q I hw
 refine thn (h pins s σ H _ I hw) fun v s1 ⟨x,H1,I1,r1,a,kvs,ex,ea,q⟩=>?_
 obtain ⟨z,hd,xs,rel,o,es,ep,h1,h2,h3,h4,h5⟩:=(show ObjOk X.prog X.w H1 s1.heap a (.dT kvs) from I1.hok a _ ea)
 refine⟨x,_,I1.freeze ea (by rw[ea];exact True.intro) h1 ⟨z,hd,xs,Paired.mapP rel fun _ _ y=>⟨y.1,?_,y.2.2⟩,o,es,ep,h1,h2,h3,h4,h5⟩,r1,q o⟩
 rw[yal (yo0 y.2.1 ea (fun z=>nomatch z))];exact y.2.1
end
def zav (ix:List (Option Nat))(wi:TI)(g:TG)(ti:TT)(tk tv:TE):TE:=fun σ H Q=>wi σ H fun J H1=>∀D,H1 D=none→∃W:Nat→Nat→Hp→Prop,(∃m,W 0 m (upd H1 D (.dT [])))∧∀i m H,W i m H→
 (J.stop i H∧Q (.ref D) H)∨(J.go i H∧∀x H',J.yld i H x H'→g x (yb1 ix σ) H' fun σ2 H2=>(∀(k:Nat) v,(yb1 ix σ)[k]? = some (some v)→σ2[k]? = some (some v))∧ti σ2 H2 fun b H3=>
  if b=true then tk σ2 H3 fun y H4=>tv σ2 H4 fun z H5=>∃kvs k bb,H5 D=some (.dT kvs)∧y = .ref bb∧H5 bb=some (.tup (k.map kV))∧kvs.length<sizeLine∧∃m',m' < m∧W (i+1) m' (upd H5 D (.dT (yjr kvs k z))) else ∃m',m' < m∧W (i+1) m' H3)
section
variable {X:Cx}{N':List Str}{ix:List (Option Nat)}{scope:Scope}{kx vx tg iter:Expr}{ifs:List Expr}{pos:Pos}{wi:TI}{g:TG}{ti:TT}{tk tv:TE}
theorem yrt {X':Cx}{σ₀:St}{H:Hp}{s:Shared}{Q:VK}{it D:Addr}{fp:List Addr}{tn:Nat→Heap→Prop}{J:It}{W:Nat→Nat→Hp→Prop}{m0:Nat}(hu:X'.A.units<cLine)(I:Inv X' [] σ₀ H s)(hcalm:X'.calm=true)(hxe:X'.xe=fun _ _=>False)
 (T:Turn X'.prog X'.w X'.K tg J fp it tn) (st:tn 0 s.heap) (hf:∀b∈fp,ygv X' [] H b) (hg:PG X' tg g) (hi:yow X' ifs ti) (hk:PE X' kx tk) (hv:PE X' vx tv) (w0:W 0 m0 H)
 (turn:∀i m H,W i m H→(J.stop i H∧Q (.ref D) H)∨(J.go i H∧∀x H',J.yld i H x H'→g x σ₀ H' fun σ2 H2=>(∀(k:Nat) v,σ₀[k]? = some (some v)→σ2[k]? = some (some v))∧ti σ2 H2 fun b H3=>
  if b=true then tk σ2 H3 fun y H4=>tv σ2 H4 fun z H5=>∃kvs k bb,H5 D=some (.dT kvs)∧y = .ref bb∧H5 bb=some (.tup (k.map kV))∧kvs.length<sizeLine∧∃m',m' < m∧W (i+1) m' (upd H5 D (.dT (yjr kvs k z))) else ∃m',m' < m∧W (i+1) m' H3)) :
 codeAny (model X'.prog X'.w) X'.A (.compStart (.DictComp kx vx [⟨tg,iter,ifs,0⟩] scope pos) 0 (.ref it) (.ref D) X'.env) (fun r s'=>(∃f,r = .ok f)∧∃H',Inv X' [] σ₀ H' s'∧Q (.ref D) H') s:=by
 have stat:∀{H':Hp},(∀b∈fp,H' b=none)→∀b∈fp,ygv X' [] H' b:=fun hn b hb=>⟨hn b hb,(hf b hb).2⟩
 have loop:codeAny (model X'.prog X'.w) X'.A (.compLoop (.DictComp kx vx [⟨tg,iter,ifs,0⟩] scope pos) 0 (.ref it) (.ref D) X'.env) (fun r s'=>(∃f,r = .ok f)∧∃H',Inv X' [] σ₀ H' s'∧Q (.ref D) H') s:=by
  refine codeAny_loop rfl (fun n s'=>∃i H',Inv X' [] σ₀ H' s'∧tn i s'.heap∧(∀b∈fp,H' b=none)∧W i n H') ?_ m0 ⟨0,H,I,st,fun b hb=>(hf b hb).1,w0⟩
  rintro n s1 ⟨i,H1,I1,st1,fr1,w1⟩
  show wpAny _ X'.A ((compTurn (.DictComp kx vx [⟨tg,iter,ifs,0⟩] scope pos) 0 (.ref it) (.ref D) X'.env).onRaise (fun x=>do noteFrame x X'.env;theTreesLotGoes x)) _ _ s1
  refine wpAny_noted ?_
  have noE:∀{α:Type}{t:Sem α}{P:α→Shared→Prop}{F:Value→Shared→Prop}{s:Shared},wpAny (model X'.prog X'.w) X'.A t P X'.xe s→wpAny (model X'.prog X'.w) X'.A t P F s:=fun h=>wpAny_mono h (fun _ _ x=>x) fun e s' x=>by rw[hxe] at x;exact x.elim
  rw[compTurn_dict]
  refine zwb0 (wpAny_standAt (zwb0 ?_))
  rcases turn i n H1 w1 with ⟨stop,qn⟩ | ⟨go,step⟩
  ·refine thn (T.done X' rfl rfl rfl hcalm i [] s1 σ₀ H1 _ I1 (stat fr1) st1 stop) fun r s2 ⟨hr,I2⟩=>?_
   subst hr
   exact zwp0 ⟨⟨_,rfl⟩,H1,I2,qn⟩
  ·refine thn (T.item X' rfl rfl rfl hcalm i [] s1 σ₀ H1 _ I1 (stat fr1) st1 go) fun r s2 ⟨u,hr,h2⟩=>?_
   subst hr
   refine zwb0 (thn h2 fun _ s3 ⟨x,H3,I3,r3,y3,st3,fr3⟩=>?_)
   have I3':=I3.pinned (stat fr3) (T.obj _ _ st3)
   refine zwb0 (noE (thn (hg _ s3 σ₀ H3 x u _ I3' r3 (step x H3 y3)) fun _ s4 ⟨σ4,H4,I4,hk4,q4⟩=>?_))
   refine zwb0 (noE (thn (hi _ s4 σ4 H4 _ I4 q4) fun ok s5 ⟨H5,I5,q5⟩=>?_))
   have again':∀{s7:Shared}{H7:Hp}{m':Nat},Inv X' ([]++yg5 fp s3.heap) σ4 H7 s7→m' < n→W (i+1) m' H7→∃m,m<n∧∃i H',Inv X' [] σ₀ H' s7∧tn i s7.heap∧(∀b∈fp,H' b=none)∧W i m H':=fun {s7 H7 m'} I7 hm w7=>by
    refine⟨m',hm,i+1,H7,I7.unpinned.weak (by rw[I3.len,I7.len]) hk4,T.keep _ _ _ st3 fun b hb o e=>(I7.pin (b,o) (List.mem_append_right _ (List.mem_append_right _ (ybu hb e)))).1,fun b hb=>?_,w7⟩
    obtain ⟨o,e,d⟩:=T.obj _ _ st3 b hb
    exact(I7.pin (b,o) (List.mem_append_right _ (List.mem_append_right _ (ybu hb e)))).2.1
   cases ok with
   |false=>
    obtain ⟨m',hm,w7⟩:=q5
    exact zwp0 ⟨rfl,again' I5 hm w7⟩
   |true=>
    refine zwb0 (zwb0 (noE (thn (hk _ s5 σ4 H5 _ I5 q5) fun kv s6 ⟨yv,H6,I6,r6,q6⟩=>?_)))
    refine zwb0 (wpAny_holding (noE (thn (hv _ s6 σ4 H6 _ I6 q6) fun vv s7 ⟨zv,H7,I7,r7,kvs,k,bb,hD,ey,hbb,hz,m',hm,w7⟩=>?_)))
    subst ey
    cases r6
    refine zwb0 (wpAny_standAt (wpAny_holding ?_))
    exact yue hu I7 hD hbb hz r7 fun s8 I8=>zwp0 ⟨rfl,again' I8 hm w7⟩
 refine codeAny_compStart_dict loop (T.self _ 0 s _ _ st loop)
theorem ypl {pins:List (Addr×Obj)}{σ:St}{H:Hp}{s:Shared}{Q:VK}{it:Addr}{fp:List Addr}{tn:Nat→Heap→Prop}{J:It}{E:Value→Shared→Prop}(hu:X.A.units<cLine)(I:Inv X pins σ H s)(hcalm:X.calm=true)(S:CompScope X N' ix scope)
 (T:Turn X.prog X.w X.K tg J fp it tn) (st:tn 0 s.heap) (hf:∀b∈fp,ygv X pins H b)
 (hg:∀C s H fp,PG (ya4 X N' scope C s H fp) tg g) (hi:∀C s H fp,yow (ya4 X N' scope C s H fp) ifs ti) (hk:∀C s H fp,PE (ya4 X N' scope C s H fp) kx tk) (hv:∀C s H fp,PE (ya4 X N' scope C s H fp) vx tv)
 (h:∀D,H D=none→∃W:Nat→Nat→Hp→Prop,(∃m,W 0 m (upd H D (.dT [])))∧∀i m H,W i m H→
  (J.stop i H∧Q (.ref D) H)∨(J.go i H∧∀x H',J.yld i H x H'→g x (yb1 ix σ) H' fun σ2 H2=>(∀(k:Nat) v,(yb1 ix σ)[k]? = some (some v)→σ2[k]? = some (some v))∧ti σ2 H2 fun b H3=>
   if b=true then tk σ2 H3 fun y H4=>tv σ2 H4 fun z H5=>∃kvs k bb,H5 D=some (.dT kvs)∧y = .ref bb∧H5 bb=some (.tup (k.map kV))∧kvs.length<sizeLine∧∃m',m' < m∧W (i+1) m' (upd H5 D (.dT (yjr kvs k z))) else ∃m',m' < m∧W (i+1) m' H3)) :
 wpAny (model X.prog X.w) X.A newDict (fun acc s3=>wpAny (model X.prog X.w) X.A (newFunctionEnv scope X.env.globals (yhp X.env scope.names []) [] X.env.qual none .none (some X.env)) (fun cenv s4=>
  codeAny (model X.prog X.w) X.A (.compStart (.DictComp kx vx [⟨tg,iter,ifs,0⟩] scope pos) 0 (.ref it) acc { cenv with scope:=relabel scope X.env }) (ylx X pins σ Q acc cenv.locals) s4) E s3) E s:=by
 refine wpAny_newObj_type ?_
 have fresh0:H s.heap.objs.size=none:=I.hok.fresh (Nat.le_refl _)
 have I3:Inv X pins σ (upd H s.heap.objs.size (.dT [])) { s with heap:=s.heap.push { cls:=.type "dict",data:=.dict #[] } } :=
  I.laid (a:=s.heap.objs.size) (o:=.dT []) (t':=s.toks) (fun b u e=>Heap.get?_push_of_some _ e) (Nat.le_refl _) (yqu s.heap I.big)
 obtain ⟨W,⟨m0,w0⟩,turn⟩:=h s.heap.objs.size fresh0
 generalize hD:s.heap.objs.size=D at *
 have lt0:∀b∈fp,b<s.heap.objs.size:=fun b hb=>by obtain ⟨o,e,_⟩:=T.obj 0 _ st b hb;exact Heap.lt_size e
 have hf3:∀b∈fp,ygv X pins (upd H D (.dT [])) b:=fun b hb=>by
  have nb:b≠D:=by rw[← hD];exact Nat.ne_of_lt (lt0 b hb)
  obtain ⟨f0,fr⟩:=hf b hb
  exact⟨by rw[yal nb];exact f0,fr⟩
 have st3:tn 0 (s.heap.push { cls:=.type "dict",data:=.dict #[] }):=T.keep _ _ _ st fun b hb o e=>Heap.get?_push_of_some _ e
 revert I3 st3
 generalize (s.heap.push { cls:=.type "dict",data:=.dict #[] })=h3
 intro I3 st3
 have lt3:∀b∈fp,b<h3.objs.size:=fun b hb=>by obtain ⟨o,e,_⟩:=T.obj 0 _ st3 b hb;exact Heap.lt_size e
 refine wpAny_newFunctionEnv S.nocell (fun x hx=>nomatch hx) (fun h4 hns hsb=>?_) S.kind
 have k4:∀b o,h3.get? b=some o→h4.get? b=some o:=fun b o e=>(hsb.2 b (Nat.ne_of_lt (Heap.lt_size e))).trans (Heap.get?_push_of_some _ e)
 have J4:Inv (ya4 X N' scope h3.objs.size { s with heap:=h3 } (upd H D (.dT [])) fp) [] (yb1 ix σ) (upd H D (.dT [])) { s with heap:=h4,toks:=s.toks+([]:List (Str×Value)).length }:=
  yir (s:={ s with heap:=h3 }) (tk:=s.toks+([]:List (Str×Value)).length) I3 hcalm S hf3 lt3 hns k4
 have st4:tn 0 ({ s with heap:=h4,toks:=s.toks+([]:List (Str×Value)).length }:Shared).heap:=T.keep _ _ _ st3 fun b hb o e=>k4 b o e
 have fr4:∀b∈fp,upd H D (.dT []) b=none:=fun b hb=>(hf3 b hb).1
 revert J4 st4
 generalize ({ s with heap:=h4,toks:=s.toks+([]:List (Str×Value)).length }:Shared)=s4
 intro J4 st4
 have hf4:∀b∈fp,ygv (ya4 X N' scope h3.objs.size { s with heap:=h3 } (upd H D (.dT [])) fp) [] (upd H D (.dT [])) b:=fun b hb=>
  ⟨fr4 b hb,Nat.ne_of_lt (lt3 b hb),J4.ok.exfs b hb,.inl hb,fun x c e=>(J4.ok.exf b hb).2 x c e,fun p hp=>nomatch hp⟩
 refine codeAny_mono (yrt (X':=ya4 X N' scope h3.objs.size { s with heap:=h3 } (upd H D (.dT [])) fp) (Q:=Q) (D:=D) hu J4 rfl rfl T st4 hf4 (hg _ _ _ _) (hi _ _ _ _) (hk _ _ _ _) (hv _ _ _ _) w0 turn) fun r s' ⟨hr,H',J',q'⟩=>?_
 refine⟨D,H',rfl,hr,I3.call' J'.os J'.base J'.hok J'.bare fun b hb=>?_,?_,?_,q'⟩
 ·obtain ⟨_,f1,_,f3,f4,f5⟩:=hf3 b hb
  exact⟨f3,f1,f4,f5⟩
 ·exact I3.fpOk (H':=H') (Nat.le_refl _) J'.free
 ·obtain ⟨m,hn,_⟩:=J'.loc
  exact⟨m,hn⟩
theorem ywe (hu:X.A.units<cLine)(hcalm:X.calm=true)(S:CompScope X N' ix scope)(hit:PI X tg iter wi)
 (hg:∀C s H fp,PG (ya4 X N' scope C s H fp) tg g) (hi:∀C s H fp,yow (ya4 X N' scope C s H fp) ifs ti) (hk:∀C s H fp,PE (ya4 X N' scope C s H fp) kx tk) (hv:∀C s H fp,PE (ya4 X N' scope C s H fp) vx tv)
 (hs:∀x,foldedSetIterable iter X.env x=pure x:=by intro _;rfl):PE X (.DictComp kx vx [⟨tg,iter,ifs,0⟩] scope pos) (zav ix wi g ti tk tv):=by
 intro pins s σ H Q I h
 show wpAny _ X.A (comprehension (.DictComp kx vx [⟨tg,iter,ifs,0⟩] scope pos) scope X.env _ newDict false (eval iter X.env)) _ _ s
 refine wpAny_comprehension_free (use:=none) rfl hs (yd7 I S) S.kind S.loc (thn (hit pins s σ H _ I h) fun v s1 h1=>thn h1 fun itv s2 h2=>?_)
 obtain ⟨it,fp,tn,J,H2,rfl,I2,T,st2,f2,q2⟩:=h2
 refine thn (ypl (E:=X.xe) (kx:=kx) (vx:=vx) (iter:=iter) (pos:=pos) hu I2 hcalm S T st2 f2 hg hi hk hv q2) fun acc s3 h3=>thn h3 fun cenv s4 h4=>codeAny_mono h4 fun r s' hr=>?_
 obtain ⟨D,H',rfl,⟨f,rfl⟩,I',⟨g0,g1,_,g3,g4,g5⟩,⟨m,hm⟩,q'⟩:=hr
 exact⟨m,hm,fun h' hsb=>⟨.ref D,H',I'.turned (t':=s'.toks) (fun b o hb e=>(hsb.2 b hb).trans e) g0 g1 g3 g4 g5,rfl,q'⟩⟩
end
section
variable {prog:Program}{w:World}{A:Around}{E:Value→Shared→Prop}{s:Shared}
def yy0 (h:Heap)(d:Addr)(es:Array DictEntry)(ep:Nat):Prop:=∃o,h.get? d=some o∧o.data = .dict es ep
theorem ywf {v d:Addr}{es:Array DictEntry}{ep:Nat}{Q:Value→Shared→Prop}(hv:s.heap.IsItemsView v d)(hm:yy0 s.heap d es ep)
 (hQ:Q (.ref s.heap.objs.size) { s with heap:=s.heap.push { cls:=.type "dict_itemiterator",data:=.fields #[.none,.bool false,.ref d,.int 0 0,.int es.size 0,.int ep 0,.none,.none] } }):wpAny (model prog w) A (pyIter (.ref v)) Q E s:=by
 obtain ⟨ov,e1,_,e2⟩:=id hv
 obtain ⟨o,e3,e4⟩:=hm
 refine wpAny_pyIter_slot hv.typeIs PySem.F.slot_dict_items_iter (wpAny_call_entry PySem.F.slot_dict_items_iter hv.typeIs PySem.F.entry_dict_items_iter ?_ (PySem.F.args_dict_items_iter_1 _))
 unfold Builtin.«dict_items.__iter__»
 refine zwb0 (zwp0 (zwb0 ?_))
 unfold Builtin.Dict_items.dictOf
 refine zwb0 (wpAny_field e1 e2 (x:=.ref d) rfl (zwp0 (zwb0 ?_)))
 unfold Builtin.Dict_items.newIterator
 refine zwb0 (wpAny_dictEntries e3 e4 (zwb0 (wpAny_dictEpoch e3 e4 ?_)))
 simp only[show Builtin.Dict_items.ownsTuple "dict_itemiterator" = true from by decide,if_true]
 refine wpAny_newObj_type (zwp0 ⟨_,rfl,"dict_itemiterator",_,⟨_,Heap.get?_push_size _ rfl,rfl⟩,PySem.F.slot_dict_itemiterator_next.lookup,?_⟩) (by simp only[sizeOk,Builtin.Dict_items.ownedTupleFields,List.size_toArray,List.length_append,List.length_cons,List.length_nil,sizeLine_eq];omega)
 simpa [rawInt,Builtin.Dict_items.ownedTupleFields] using hQ
theorem ywg {it d:Addr}{i ep:Nat}{es:Array DictEntry}{ok ov:Value}{Q:Option Value→Shared→Prop}(hit:IsItemIter s.heap it d i es.size ep ok ov)(hm:yy0 s.heap d es ep)(hi:i<es.size)
 (hQ:∀h',IsItemIterOut h' it d (i+1) es.size ep es[i].key es[i].val s.heap.objs.size→h'.get? s.heap.objs.size=some { cls:=.type "tuple",data:=.seq #[es[i].key,es[i].val] } →
  h'.objs.size=s.heap.objs.size+1→(∀b o,b≠it→s.heap.get? b=some o→h'.get? b=some o)→Q (some (.ref s.heap.objs.size)) { s with heap:=h' }):wpAny (model prog w) A (pyNext (.ref it)) Q E s:=by
 obtain ⟨hp,g,dr,tk,os⟩:=s
 obtain ⟨od,hod,hdd⟩:=hm
 have hT:Shared.TypeIs ⟨hp,g,dr,tk,os⟩ (.ref it) "dict_itemiterator" := ⟨_,hit,rfl⟩
 unfold pyNext
 refine zwb0 (wpAny_attempt (wpAny_callSpecial?_slot (name:=Str.ofString "__next__") hT PySem.F.slot_dict_itemiterator_next (wpAny_call_entry PySem.F.slot_dict_itemiterator_next hT PySem.F.entry_dict_itemiterator_next ?_ (PySem.F.args_dict_itemiterator_next_1 _))))
 refine zwb0 (zwp0 (zwb0 (zwb0 ?_)))
 first|refine zwb0 (wpAny_typeNameOfWhole_itemiter hT (zwp0 ?_))|refine zwb0 (wpAny_typeNameOf_itemiter hT (zwp0 ?_))
 refine zwb0 (wpAny_fieldsOf hit rfl ?_)
 simp only[show Builtin.Dict_items.ownsTuple "dict_itemiterator" = true from by decide,if_true]
 show wpAny _ _ (if (Value.ref d == Value.none)=true then _ else _) _ _ _
 rw[if_neg (show ¬ ((Value.ref d == Value.none)=true) from Bool.false_ne_true)]
 refine zwb0 (zwp0 (zwb0 (wpAny_dictEntries hod hdd ?_)))
 rw[if_neg (by simp)]
 refine zwb0 (zwp0 (zwb0 (wpAny_dictEpoch hod hdd ?_)))
 rw[if_neg (by simp)]
 refine zwp0 ?_
 simp only[show ¬ ((i:Int)<0) from by omega,if_false,Int.toNat_natCast,Array.getElem?_eq_getElem hi]
 refine zwb0 ?_
 first|refine zwb0 (wpAny_typeNameOfWhole_itemiter hT (zwp0 ?_))|refine zwb0 (wpAny_typeNameOf_itemiter hT (zwp0 ?_))
 refine zwb0 (wpAny_isOneOf_itemiter hT ?_)
 show wpAny _ _ (setField (.ref it) 3 (rawInt ((i:Int)+1)) >>= _) _ _ ⟨hp,g,dr,tk,os⟩
 refine zwb0 (wpAny_setField_rec hit (by simp) fun h1 x1 y1=>?_)
 have y1':Heap.SameBut it hp h1:=y1
 have x1':IsItemIter h1 it d (i+1) es.size ep ok ov:=by
  unfold IsItemIter
  rw[show ((i+1:Nat):Int)=(i:Int)+1 from by omega]
  simpa [rawInt] using x1
 have hT1:Shared.TypeIs ⟨h1,g,dr,tk,os⟩ (.ref it) "dict_itemiterator" := ⟨_,x1',rfl⟩
 refine zwb0 (wpAny_holding (zwb0 (wpAny_isOneOf_itemiter hT1 (zwb0 (wpAny_isOneOf_itemiter hT1 ?_)))))
 show wpAny _ _ (Builtin.Dict_items.pairFromOwner (.ref it) 6 es[i].key es[i].val) _ _ ⟨h1,g,dr,tk,os⟩
 unfold Builtin.Dict_items.pairFromOwner
 refine zwb0 (wpAny_newTuple ?_)
 have x2:IsItemIter (h1.push { cls:=.type "tuple",data:=.seq #[es[i].key,es[i].val] }) it d (i+1) es.size ep ok ov:=Heap.get?_push_of_some _ x1'
 generalize e2:h1.push { cls:=.type "tuple",data:=.seq #[es[i].key,es[i].val] } = h2 at x2
 have z1:h1.objs.size=hp.objs.size:=y1'.1
 have lt:it<hp.objs.size:=Heap.lt_size hit
 have t2:h2.get? hp.objs.size=some { cls:=.type "tuple",data:=.seq #[es[i].key,es[i].val] }:=by rw[← e2,← z1];exact Heap.get?_push_size _ rfl
 have z2:h2.objs.size=hp.objs.size+1:=by rw[← e2,Heap.size_push,z1]
 have k2:∀b o,b≠it→hp.get? b=some o→h2.get? b=some o:=fun b o hb e=>by rw[← e2];exact Heap.get?_push_of_some _ (y1'.extBut b o hb e)
 show wpAny _ _ (Builtin.Dict_items.ownedTupleIsFree (.ref it) >>= _) _ _ ⟨h2,g,dr,tk,os⟩
 rw[z1]
 clear e2 x1 x1' y1 y1' hT1 z1 h1
 refine zwb0 ?_
 unfold Builtin.Dict_items.ownedTupleIsFree
 refine zwb0 (wpAny_field x2 rfl (x:=.none) rfl (zwp0 ?_))
 simp only[if_true]
 refine zwb0 (wpAny_field x2 rfl (x:=ok) rfl (zwb0 (wpAny_field x2 rfl (x:=ov) rfl ?_)))
 refine zwb0 (wpAny_setField_rec x2 (by simp) fun h3 x3 y3=>?_)
 have y3':Heap.SameBut it h2 h3:=y3
 have x3':IsItemIter h3 it d (i+1) es.size ep es[i].key ov:=x3
 refine zwb0 (wpAny_setField_rec x3' (by simp) fun h4 x4 y4=>?_)
 have y4':Heap.SameBut it h3 h4:=y4
 have x4':IsItemIter h4 it d (i+1) es.size ep es[i].key es[i].val:=x4
 refine zwb0 (wpAny_setField_rec x4' (by simp) fun h5 x5 y5=>?_)
 have y5':Heap.SameBut it h4 h5:=y5
 have x5':IsItemIterOut h5 it d (i+1) es.size ep es[i].key es[i].val hp.objs.size:=x5
 refine zwb0 (wpAny_setField_rec x5' (by simp) fun h6 x6 y6=>?_)
 have y6':Heap.SameBut it h5 h6:=y6
 have x6':IsItemIterOut h6 it d (i+1) es.size ep es[i].key es[i].val hp.objs.size:=x6
 have all:∀b o,b≠it→h2.get? b=some o→h6.get? b=some o:=fun b o hb e=>y6'.extBut b o hb (y5'.extBut b o hb (y4'.extBut b o hb (y3'.extBut b o hb e)))
 refine zwb0 (wpAny_letGo (zwp0 (zwp0 ⟨_,rfl,zwp0 (hQ h6 x6' (all _ _ (Nat.ne_of_gt lt) t2) ?_ fun b o hb e=>all b o hb (k2 b o hb e))⟩)))
 show h6.objs.size=hp.objs.size+1
 rw[y6'.1,y5'.1,y4'.1,y3'.1,z2]
theorem yy1 {it d:Addr}{i ep:Nat}{es:Array DictEntry}{ok ov:Value}{Q:Option Value→Shared→Prop}(hh:A.handled=none)(hit:IsItemIter s.heap it d i es.size ep ok ov)(hm:yy0 s.heap d es ep)(hi:es.size≤i)
 (hQ:∀h',Heap.ExtBut it s.heap h'→Q none { s with heap:=h' }):wpAny (model prog w) A (pyNext (.ref it)) Q E s:=by
 obtain ⟨od,hod,hdd⟩:=hm
 have hT:s.TypeIs (.ref it) "dict_itemiterator" := ⟨_,hit,rfl⟩
 unfold pyNext
 refine zwb0 (wpAny_attempt (wpAny_callSpecial?_slot (name:=Str.ofString "__next__") hT PySem.F.slot_dict_itemiterator_next (wpAny_call_entry PySem.F.slot_dict_itemiterator_next hT PySem.F.entry_dict_itemiterator_next ?_ (PySem.F.args_dict_itemiterator_next_1 _))))
 refine zwb0 (zwp0 (zwb0 (zwb0 ?_)))
 first|refine zwb0 (wpAny_typeNameOfWhole_itemiter hT (zwp0 ?_))|refine zwb0 (wpAny_typeNameOf_itemiter hT (zwp0 ?_))
 refine zwb0 (wpAny_fieldsOf hit rfl ?_)
 simp only[show Builtin.Dict_items.ownsTuple "dict_itemiterator" = true from by decide,if_true]
 show wpAny _ _ (if (Value.ref d == Value.none)=true then _ else _) _ _ s
 rw[if_neg (show ¬ ((Value.ref d == Value.none)=true) from Bool.false_ne_true)]
 refine zwb0 (zwp0 (zwb0 (wpAny_dictEntries hod hdd ?_)))
 rw[if_neg (by simp)]
 refine zwb0 (zwp0 (zwb0 (wpAny_dictEpoch hod hdd ?_)))
 rw[if_neg (by simp)]
 refine zwp0 ?_
 simp only[show ¬ ((i:Int)<0) from by omega,if_false,Int.toNat_natCast,Array.getElem?_eq_none hi]
 refine zwb0 ?_
 first|refine zwb0 (wpAny_typeNameOfWhole_itemiter hT (zwp0 ?_))|refine zwb0 (wpAny_typeNameOf_itemiter hT (zwp0 ?_))
 show wpAny _ _ (setField (.ref it) 2 .none >>= _) _ _ s
 refine zwb0 (wpAny_setField hit rfl (by simp) ?_)
 show wpAny _ _ (newExc (.type "StopIteration") [] >>= _) _ _ _
 refine zwb0 ?_
 simp only[newExc,newTuple]
 refine zwb0 (wpAny_newObj_type ?_ (by size_fits))
 refine zwb0 (m:=firstArgMember _ _) (wpAny_of_eq (a:=Value.none) (by first|rfl|(simp only[firstArgMember];rfl)) ?_)
 refine wpAny_newObj_type ?_ (by size_fits)
 simp only[raiseNew]
 refine zwb0 (wpAny_handled ?_)
 rw[show A.in1.handled=none from hh]
 refine zwb0 (zwp0 (wpAny_throw ?_))
 refine zwb0 (wpAny_isInstance (b:=true) (T := "StopIteration") ⟨_,Heap.get?_push_size _ rfl,rfl⟩ isSubtype_stop ?_)
 exact zwp0 (hQ _ (((Heap.SameBut.update ..).extBut.push _).push _))
end
section
variable {prog:Program}{w:World}{A:Around}{E:Value→Shared→Prop}{s:Shared}
theorem yuf {v d:Addr}{es:Array DictEntry}{ep:Nat}{Q:Value→Shared→Prop}(hv:s.heap.IsValuesView v d)(hm:yy0 s.heap d es ep)
 (hQ:Q (.ref s.heap.objs.size) { s with heap:=s.heap.push { cls:=.type "dict_valueiterator",data:=.fields #[.ref d,.int 0 0,.int es.size 0,.int ep 0] } }):wpAny (model prog w) A (pyIter (.ref v)) Q E s:=by
 obtain ⟨ov,e1,_,e2⟩:=id hv
 obtain ⟨o,e3,e4⟩:=hm
 refine wpAny_pyIter_slot hv.typeIs PySem.F.slot_dict_values_iter (wpAny_call_entry PySem.F.slot_dict_values_iter hv.typeIs PySem.F.entry_dict_values_iter ?_ (PySem.F.args_dict_values_iter_1 _))
 unfold Builtin.«dict_values.__iter__»
 refine zwb0 (zwp0 (zwb0 ?_))
 unfold Builtin.Dict_items.dictOf
 refine zwb0 (wpAny_field e1 e2 (x:=.ref d) rfl (zwp0 (zwb0 ?_)))
 unfold Builtin.Dict_items.newIterator
 refine zwb0 (wpAny_dictEntries e3 e4 (zwb0 (wpAny_dictEpoch e3 e4 ?_)))
 simp only[show Builtin.Dict_items.ownsTuple "dict_valueiterator" = false from by decide,Bool.false_eq_true,if_false]
 refine wpAny_newObj_type (zwp0 ⟨_,rfl,"dict_valueiterator",_,⟨_,Heap.get?_push_size _ rfl,rfl⟩,PySem.F.slot_dict_valueiterator_next.lookup,?_⟩)
 simpa [rawInt] using hQ
theorem yug {it d:Addr}{i ep:Nat}{es:Array DictEntry}{Q:Option Value→Shared→Prop}(hit:s.heap.IsValIter it d i es.size ep)(hm:yy0 s.heap d es ep)(hi:i<es.size)
 (hQ:∀h',h'.IsValIter it d (i+1) es.size ep→Heap.SameBut it s.heap h'→Q (some es[i].val) { s with heap:=h' }):wpAny (model prog w) A (pyNext (.ref it)) Q E s:=by
 obtain ⟨o,ho,hc,hd⟩:=id hit
 obtain ⟨od,hod,hdd⟩:=hm
 unfold pyNext
 refine zwb0 (wpAny_attempt (wpAny_callSpecial?_slot (name:=Str.ofString "__next__") hit.typeIs PySem.F.slot_dict_valueiterator_next (wpAny_call_entry PySem.F.slot_dict_valueiterator_next hit.typeIs PySem.F.entry_dict_valueiterator_next ?_ (PySem.F.args_dict_valueiterator_next_1 _))))
 refine zwb0 (zwp0 (zwb0 (zwb0 ?_)))
 first|refine zwb0 (wpAny_typeNameOfWhole_valiter hit.typeIs (zwp0 ?_))|refine zwb0 (wpAny_typeNameOf_valiter hit.typeIs (zwp0 ?_))
 refine zwb0 (wpAny_fieldsOf ho hd ?_)
 simp only[show Builtin.Dict_items.ownsTuple "dict_valueiterator" = false from by decide,Bool.false_eq_true,if_false]
 show wpAny _ _ (if (Value.ref d == Value.none)=true then _ else _) _ _ s
 rw[if_neg (show ¬ ((Value.ref d == Value.none)=true) from Bool.false_ne_true)]
 refine zwb0 (zwp0 (zwb0 (wpAny_dictEntries hod hdd ?_)))
 rw[if_neg (by simp)]
 refine zwb0 (zwp0 (zwb0 (wpAny_dictEpoch hod hdd ?_)))
 rw[if_neg (by simp)]
 refine zwp0 ?_
 simp only[show ¬ ((i:Int)<0) from by omega,if_false,Int.toNat_natCast,Array.getElem?_eq_getElem hi]
 refine zwb0 ?_
 first|refine zwb0 (wpAny_typeNameOfWhole_valiter hit.typeIs (zwp0 ?_))|refine zwb0 (wpAny_typeNameOf_valiter hit.typeIs (zwp0 ?_))
 refine zwb0 (wpAny_isOneOf_valiter hit.typeIs ?_)
 show wpAny _ _ (setField (.ref it) 1 (rawInt ((i:Int)+1)) >>= _) _ _ s
 refine zwb0 (wpAny_setField ho hd (by simp) ?_)
 have x1:(s.heap.update it (Obj.mapFields (·.setIfInBounds 1 (rawInt ((i:Int)+1))))).IsValIter it d (i+1) es.size ep:=
  ⟨_,Heap.get?_update_self _ ho (Obj.isFreed_of_fields (Obj.data_mapFields hd _)),(Obj.cls_mapFields ..).trans hc,by rw[Obj.data_mapFields hd];simp [rawInt]⟩
 have y1:=Heap.SameBut.update s.heap it (Obj.mapFields (·.setIfInBounds 1 (rawInt ((i:Int)+1))))
 have q1:=hQ _ x1 y1
 revert x1 q1
 generalize s.heap.update it (Obj.mapFields (·.setIfInBounds 1 (rawInt ((i:Int)+1))))=h1
 intro x1 q1
 refine zwb0 (wpAny_holding (zwb0 (wpAny_isOneOf_valiter (s:={ s with heap:=h1 }) x1.typeIs (zwb0 (wpAny_isOneOf_valiter (s:={ s with heap:=h1 }) x1.typeIs ?_)))))
 show wpAny _ _ (pure es[i].val) _ _ _
 exact zwp0 (zwp0 ⟨_,rfl,zwp0 q1⟩)
theorem ywh {it d:Addr}{i ep:Nat}{es:Array DictEntry}{Q:Option Value→Shared→Prop}(hh:A.handled=none)(hit:s.heap.IsValIter it d i es.size ep)(hm:yy0 s.heap d es ep)(hi:es.size≤i)
 (hQ:∀h',Heap.ExtBut it s.heap h'→Q none { s with heap:=h' }):wpAny (model prog w) A (pyNext (.ref it)) Q E s:=by
 obtain ⟨o,ho,hc,hd⟩:=id hit
 obtain ⟨od,hod,hdd⟩:=hm
 unfold pyNext
 refine zwb0 (wpAny_attempt (wpAny_callSpecial?_slot (name:=Str.ofString "__next__") hit.typeIs PySem.F.slot_dict_valueiterator_next (wpAny_call_entry PySem.F.slot_dict_valueiterator_next hit.typeIs PySem.F.entry_dict_valueiterator_next ?_ (PySem.F.args_dict_valueiterator_next_1 _))))
 refine zwb0 (zwp0 (zwb0 (zwb0 ?_)))
 first|refine zwb0 (wpAny_typeNameOfWhole_valiter hit.typeIs (zwp0 ?_))|refine zwb0 (wpAny_typeNameOf_valiter hit.typeIs (zwp0 ?_))
 refine zwb0 (wpAny_fieldsOf ho hd ?_)
 simp only[show Builtin.Dict_items.ownsTuple "dict_valueiterator" = false from by decide,Bool.false_eq_true,if_false]
 show wpAny _ _ (if (Value.ref d == Value.none)=true then _ else _) _ _ s
 rw[if_neg (show ¬ ((Value.ref d == Value.none)=true) from Bool.false_ne_true)]
 refine zwb0 (zwp0 (zwb0 (wpAny_dictEntries hod hdd ?_)))
 rw[if_neg (by simp)]
 refine zwb0 (zwp0 (zwb0 (wpAny_dictEpoch hod hdd ?_)))
 rw[if_neg (by simp)]
 refine zwp0 ?_
 simp only[show ¬ ((i:Int)<0) from by omega,if_false,Int.toNat_natCast,Array.getElem?_eq_none hi]
 refine zwb0 ?_
 first|refine zwb0 (wpAny_typeNameOfWhole_valiter hit.typeIs (zwp0 ?_))|refine zwb0 (wpAny_typeNameOf_valiter hit.typeIs (zwp0 ?_))
 show wpAny _ _ (setField (.ref it) 0 .none >>= _) _ _ s
 refine zwb0 (wpAny_setField ho hd (by simp) ?_)
 show wpAny _ _ (newExc (.type "StopIteration") [] >>= _) _ _ _
 refine zwb0 ?_
 simp only[newExc,newTuple]
 refine zwb0 (wpAny_newObj_type ?_ (by size_fits))
 refine zwb0 (m:=firstArgMember _ _) (wpAny_of_eq (a:=Value.none) (by first|rfl|(simp only[firstArgMember];rfl)) ?_)
 refine wpAny_newObj_type ?_ (by size_fits)
 simp only[raiseNew]
 refine zwb0 (wpAny_handled ?_)
 rw[show A.in1.handled=none from hh]
 refine zwb0 (zwp0 (wpAny_throw ?_))
 refine zwb0 (wpAny_isInstance (b:=true) (T := "StopIteration") ⟨_,Heap.get?_push_size _ rfl,rfl⟩ isSubtype_stop ?_)
 exact zwp0 (hQ _ (((Heap.SameBut.update ..).extBut.push _).push _))
end
def Itd (o:Obj)(kvs:List (List Key×V))(a:Addr):It:=
 ⟨fun i H=>H a=some (.frz o (.dT kvs))∧i<kvs.length,
  fun i H v H'=>∃p b k x,v = .ref p∧H p=none∧H' = upd H p (.tup [.ref b,x])∧kvs[i]? = some (k,x)∧H b=some (.tup (k.map kV)),
  fun i H=>H a=some (.frz o (.dT kvs))∧kvs.length≤i⟩
def zcc (it d:Addr)(n ep:Nat)(i:Nat)(h:Heap):Prop:=∃ok ov,IsItemIter h it d i n ep ok ov
theorem yhz {X:Cx}{pins:List (Addr×Obj)}{σ:St}{H:Hp}{s:Shared}{a:Addr}{o:Obj}{kvs:List (List Key×V)}(I:Inv X pins σ H s)(e:H a=some (.frz o (.dT kvs))):∃es ep xs,o.data = .dict es ep∧yy0 s.heap a es ep∧KT H kvs xs∧es.toList=xs.map (entryOfKey (tupleKind (yb4 X.prog X.w)))∧es.size=kvs.length:=by
 obtain ⟨h1,z,hd,xs,rel,o',es,ep,h2,h3,h4,h5,h6⟩:=(show ObjOk X.prog X.w H s.heap a (.frz o (.dT kvs)) from I.hok a _ e)
 rw[h1] at h2
 cases h2
 exact⟨es,ep,xs,h4,⟨o,h1,h4⟩,rel,h5,by rw[size_of_entries h5];exact(Paired.length rel).symm⟩
theorem zaw {H:Hp}{kvs:List (List Key×V)}{xs:List (List Key×Addr×Value)}(r:KT H kvs xs):∀{i:Nat}{q:List Key×Addr×Value},xs[i]? = some q→∃p,kvs[i]? = some p∧p.1=q.1∧H q.2.1=some (.tup (p.1.map kV))∧RelV p.2 q.2.2:=by
 induction r with
 |nil=>intro i q e;cases e
 |cons h t ih=>
  intro i q e
  cases i with
  |zero=>cases e;exact⟨_,rfl,h⟩
  |succ i=>exact ih e
theorem ykr:entryFor table "dict_itemiterator.__iter__" = some Builtin.«dict_keyiterator.__iter__»:=entryFor_alias (by kernel_rfl) rfl (id' := "dict_keyiterator.__iter__") (by decide +kernel) (by kernel_rfl)
theorem yru {P:Program}{w:World}{K:PySem.W.Frag}{es:List Expr}{x1:Nat}{tp:Pos}{it d:Addr}{n ep:Nat}{o:Obj}{ents:Array DictEntry}{kvs:List (List Key×V)}(ho:o.data = .dict ents ep)(hn:ents.size=n):Turn P w K (.Tuple es x1 tp) (Itd o kvs d) [it] it (zcc it d n ep) where
 mem:=by simp
 obj:=fun i h ⟨ok,ov,t1⟩ c hc=>by
  have e:c=it:=by simpa using hc
  subst e
  exact⟨_,t1,fun v q=>by cases q⟩
 keep:=fun i h h' ⟨ok,ov,t1⟩ k=>⟨ok,ov,k it (by simp) _ t1⟩
 item:=by
  intro X hP hw hK hc i pins s σ H E I hf ⟨ok,ov,t1⟩ ⟨ea,hi⟩
  subst hP hw hK hn
  obtain ⟨es',ep',xs,e1,hm,rel,he,hsz⟩:=yhz I ea
  rw[ho] at e1
  cases e1
  have hi':i<ents.size:=by omega
  refine ywg t1 hm hi' fun h' a1 a2 a3 a4=>?_
  refine⟨_,rfl,wpAny_letOwnedTupleGo_items a1 fun h'' c1 c2=>?_⟩
  have nz:s.heap.objs.size≠it:=Nat.ne_of_gt (Heap.lt_size t1)
  have I1:Inv X pins σ H { s with heap:=h'',toks:=s.toks }:=I.turnedL hf fun c o hc q=>by
   simp only[List.mem_cons,List.not_mem_nil,or_false] at hc
   exact c2.extBut c o hc (a4 c o hc q)
  have ex:ents[i]? = (xs[i]?).map (entryOfKey (tupleKind (yb4 X.prog X.w))):=entry_at he i
  rw[Array.getElem?_eq_getElem hi'] at ex
  cases q:xs[i]? with
  |none=>rw[q] at ex;cases ex
  |some x=>
   rw[q] at ex
   have eq1:ents[i]=entryOfKey (tupleKind (yb4 X.prog X.w)) x:=Option.some.inj ex
   obtain ⟨p,ep1,ek,hb,rv⟩:=zaw rel q
   have k1:ents[i].key = .ref x.2.1:=by rw[eq1];rfl
   have v1:ents[i].val=x.2.2:=by rw[eq1];rfl
   rw[k1,v1] at a2
   have I2:=I.trackNew (t':=s.toks) (o:=.tup [.ref x.2.1,p.2]) I1 (Nat.le_refl _) ⟨by show 2≤sizeLine;decide,[.ref x.2.1,x.2.2],.cons rfl (.cons rv .nil),⟨_,c2.extBut _ _ nz a2,rfl,_,rfl⟩⟩
   have fr:H s.heap.objs.size=none:=I.hok.fresh (Nat.le_refl _)
   refine⟨.ref s.heap.objs.size,_,I2,rfl,⟨s.heap.objs.size,x.2.1,p.1,p.2,rfl,fr,rfl,ep1,hb⟩,⟨_,_,c1⟩,fun c hc=>?_⟩
   have e:c=it:=by simpa using hc
   subst e
   rw[yal (Ne.symm nz)]
   exact(hf c (by simp)).1
 done:=by
  intro X hP hw hK hc i pins s σ H E I hf ⟨ok,ov,t1⟩ ⟨ea,hi⟩
  subst hP hw hK hn
  obtain ⟨es',ep',xs,e1,hm,rel,he,hsz⟩:=yhz I ea
  rw[ho] at e1
  cases e1
  refine yy1 (I.ok.hd hc) t1 hm (by omega) fun h' kk=>⟨rfl,I.turnedL (t':=s.toks) hf fun c o hc q=>?_⟩
  simp only[List.mem_cons,List.not_mem_nil,or_false] at hc
  exact kk c o hc q
 self:=fun A _ s Q E ⟨ok,ov,t1⟩ h=>by
  have hT:s.TypeIs (.ref it) "dict_itemiterator" := ⟨_,t1,rfl⟩
  refine wpAny_pyIter_slot hT PySem.F.slot_dict_itemiterator_iter (wpAny_call_entry PySem.F.slot_dict_itemiterator_iter hT ykr ?_ (PySem.F.args_dict_itemiterator_iter_1 _))
  show wpAny _ _ (ret (.ref it)) _ _ s
  exact zwp0 ⟨_,rfl,"dict_itemiterator",_,hT,PySem.F.slot_dict_itemiterator_next.lookup,h⟩
section
variable {X:Cx}{es:List Expr}{x1:Nat}{tp:Pos}{oe:Expr}{td:TE}{apos cpos:Pos}
def zdd (td:TE):TI:=fun σ H R=>td σ H fun x H1=>∃a o kvs,x = .ref a∧H1 a=some (.frz o (.dT kvs))∧R (Itd o kvs a) H1
theorem yxt {pins:List (Addr×Obj)}{σ:St}{H:Hp}{s:Shared}{a:Addr}{o:Obj}{kvs:List (List Key×V)} (I:Inv X pins σ H s) (e:H a=some (.frz o (.dT kvs))):s.TypeIs (.ref a) "dict" ∧ (∀b,Value.ref a = .ref b→∃ob,s.heap.get? b=some ob∧ob.dict=none)∧(a == sysModules)=false:=zau I (.inr ⟨kvs,.inr ⟨o,e⟩⟩)
theorem yqv (ho:PE X oe td) (hbase:attributeBase oe "items" X.env (eval oe X.env)=eval oe X.env:=by rfl) (hline:(apos.endLine == cpos.line)=true:=by rfl):PI X (.Tuple es x1 tp) (.Call (.Attribute oe "items" apos) [] [] cpos) (zdd td):=by
 intro pins s σ H R I h
 refine wpAny_Call_method0_late hbase hline (thn (ho pins s σ H _ I h) fun v s1 ⟨x,H1,I1,r1,a,o,kvs,ex,ea,q⟩=>?_)
 subst ex
 cases r1
 obtain ⟨t1,t2,t3⟩:=yxt I1 ea
 refine⟨"dict","dict.items",PySem.F.plainAttrs_dict,PySem.F.slot_dict_items,PySem.F.type_dict_items,t1,t2,Calls.callWith_builtin rfl (PySem.evalArgs_none ?_)⟩
 refine wpAny_call_entry PySem.F.slot_dict_items t1 PySem.F.entry_dict_items ?_ (PySem.F.args_dict_items_1 _)
 unfold Builtin.«dict.items» Builtin.Dict.noArgs
 refine zwb0 (zwb0 (wpAny_notOrdered_dict t1 ?_))
 show wpAny _ _ (pure a) _ _ s1
 refine zwp0 ?_
 show wpAny _ _ (Builtin.Dict.showsAll a >>= _) _ _ s1
 unfold Builtin.Dict.showsAll
 rw[if_neg (by rw[t3];exact Bool.false_ne_true)]
 refine zwb0 (zwp0 (zwb0 (wpAny_newObj_type (zwp0 ⟨_,rfl,?_⟩))))
 obtain ⟨ents,ep,xs,e1,⟨o',r1,r2⟩,rel,he,hsz⟩:=yhz I1 ea
 have I2:Inv X pins σ H1 { s1 with heap:=s1.heap.push { cls:=.type "dict_items",data:=.fields #[.ref a] } }:=I1.kept (t':=s1.toks) fun b o e=>Heap.get?_push_of_some _ e
 refine ywf (es:=ents) (ep:=ep) ⟨_,Heap.get?_push_size _ rfl,rfl,rfl⟩ ⟨o',Heap.get?_push_of_some _ r1,r2⟩ ?_
 revert I2
 generalize ({ s1 with heap:=s1.heap.push { cls:=.type "dict_items",data:=.fields #[.ref a] } }:Shared)=s2
 intro I2
 have I3:Inv X pins σ H1 { s2 with heap:=s2.heap.push { cls:=.type "dict_itemiterator",data:=.fields #[.none,.bool false,.ref a,.int 0 0,.int ents.size 0,.int ep 0,.none,.none] } }:=I2.kept (t':=s2.toks) fun b o e=>Heap.get?_push_of_some _ e
 refine⟨_,[s2.heap.objs.size],_,_,H1,rfl,I3,yru (ep:=ep) (n:=ents.size) e1 rfl,⟨.none,.none,Heap.get?_push_size _ rfl⟩,fun c hc=>?_,q⟩
 have e:c=s2.heap.objs.size:=by simpa using hc
 subst e
 exact I2.fpOk (H':=H1) (Nat.le_refl _) (I2.hok.fresh (Nat.le_refl _))
end
def Itv (o:Obj)(kvs:List (List Key×V))(a:Addr):It:=
 ⟨fun i H=>H a=some (.frz o (.dT kvs))∧i<kvs.length,fun i H v H'=>H' = H∧∃k,kvs[i]? = some (k,v),fun i H=>H a=some (.frz o (.dT kvs))∧kvs.length≤i⟩
theorem yuh {P:Program}{w:World}{K:PySem.W.Frag}{tg:Expr}{it d:Addr}{n ep:Nat}{o:Obj}{ents:Array DictEntry}{kvs:List (List Key×V)}(ho:o.data = .dict ents ep)(hn:ents.size=n):Turn P w K tg (Itv o kvs d) [it] it (fun i h=>h.IsValIter it d i n ep) where
 mem:=by simp
 obj:=fun i h st c hc=>by
  have e:c=it:=by simpa using hc
  subst e
  obtain ⟨o,e,_,d⟩:=st
  exact⟨o,e,fun v z=>by rw[d] at z;cases z⟩
 keep:=fun i h h' st k=>st.at fun o e=>k it (by simp) o e
 item:=by
  intro X hP hw hK hc i pins s σ H E I hf st ⟨ea,hi⟩
  subst hP hw hK hn
  obtain ⟨es',ep',xs,e1,hm,rel,he,hsz⟩:=yhz I ea
  rw[ho] at e1
  cases e1
  have hi':i<ents.size:=by omega
  refine yug st hm hi' fun h' a1 a2=>?_
  obtain ⟨oi,g1,g2,g3⟩:=a1
  refine⟨_,rfl,yx4 g1 g2 g3 (by decide) ?_⟩
  have I1:Inv X pins σ H { s with heap:=h',toks:=s.toks }:=I.turnedL hf fun c o hc q=>by
   simp only[List.mem_cons,List.not_mem_nil,or_false] at hc
   exact a2.extBut c o hc q
  have ex:ents[i]? = (xs[i]?).map (entryOfKey (tupleKind (yb4 X.prog X.w))):=entry_at he i
  rw[Array.getElem?_eq_getElem hi'] at ex
  cases q:xs[i]? with
  |none=>rw[q] at ex;cases ex
  |some x=>
   rw[q] at ex
   have eq1:ents[i]=entryOfKey (tupleKind (yb4 X.prog X.w)) x:=Option.some.inj ex
   obtain ⟨p,ep1,ek,hb,rv⟩:=zaw rel q
   have v1:ents[i].val=x.2.2:=by rw[eq1];rfl
   rw[v1]
   exact⟨p.2,H,I1,rv,⟨rfl,p.1,ep1⟩,⟨oi,g1,g2,g3⟩,fun c hc=>(hf c hc).1⟩
 done:=by
  intro X hP hw hK hc i pins s σ H E I hf st ⟨ea,hi⟩
  subst hP hw hK hn
  obtain ⟨es',ep',xs,e1,hm,rel,he,hsz⟩:=yhz I ea
  rw[ho] at e1
  cases e1
  refine ywh (I.ok.hd hc) st hm (by omega) fun h' kk=>⟨rfl,I.turnedL (t':=s.toks) hf fun c o hc q=>?_⟩
  simp only[List.mem_cons,List.not_mem_nil,or_false] at hc
  exact kk c o hc q
 self:=fun _ _ _ _ _ st h=>wpAny_pyIter_valiter st h
section
variable {X:Cx}{tg:Expr}{oe:Expr}{td:TE}{apos cpos:Pos}
def zde (td:TE):TI:=fun σ H R=>td σ H fun x H1=>∃a o kvs,x = .ref a∧H1 a=some (.frz o (.dT kvs))∧R (Itv o kvs a) H1
theorem yui (ho:PE X oe td) (hbase:attributeBase oe "values" X.env (eval oe X.env)=eval oe X.env:=by rfl) (hline:(apos.endLine == cpos.line)=true:=by rfl):PI X tg (.Call (.Attribute oe "values" apos) [] [] cpos) (zde td):=by
 intro pins s σ H R I h
 refine wpAny_Call_method0_late hbase hline (thn (ho pins s σ H _ I h) fun v s1 ⟨x,H1,I1,r1,a,o,kvs,ex,ea,q⟩=>?_)
 subst ex
 cases r1
 obtain ⟨t1,t2,t3⟩:=yxt I1 ea
 refine⟨"dict","dict.values",PySem.F.plainAttrs_dict,PySem.F.slot_dict_values,PySem.F.type_dict_values,t1,t2,Calls.callWith_builtin rfl (PySem.evalArgs_none ?_)⟩
 refine wpAny_call_entry PySem.F.slot_dict_values t1 PySem.F.entry_dict_values ?_ (PySem.F.args_dict_values_1 _)
 refine zwb0 ?_
 unfold Builtin.Dict.noArgs
 refine zwb0 (wpAny_notOrdered_dict t1 ?_)
 show wpAny _ _ (pure a) _ _ s1
 refine zwp0 ?_
 show wpAny _ _ (Builtin.Dict.showsAll a >>= _) _ _ s1
 unfold Builtin.Dict.showsAll
 rw[if_neg (by rw[t3];exact Bool.false_ne_true)]
 refine zwb0 (zwp0 (zwb0 (wpAny_newObj_type (zwp0 ⟨_,rfl,?_⟩))))
 obtain ⟨ents,ep,xs,e1,⟨o',r1,r2⟩,rel,he,hsz⟩:=yhz I1 ea
 have I2:Inv X pins σ H1 { s1 with heap:=s1.heap.push { cls:=.type "dict_values",data:=.fields #[.ref a] } }:=I1.kept (t':=s1.toks) fun b o e=>Heap.get?_push_of_some _ e
 refine yuf (es:=ents) (ep:=ep) ⟨_,Heap.get?_push_size _ rfl,rfl,rfl⟩ ⟨o',Heap.get?_push_of_some _ r1,r2⟩ ?_
 revert I2
 generalize ({ s1 with heap:=s1.heap.push { cls:=.type "dict_values",data:=.fields #[.ref a] } }:Shared)=s2
 intro I2
 have I3:Inv X pins σ H1 { s2 with heap:=s2.heap.push { cls:=.type "dict_valueiterator",data:=.fields #[.ref a,.int 0 0,.int ents.size 0,.int ep 0] } }:=I2.kept (t':=s2.toks) fun b o e=>Heap.get?_push_of_some _ e
 refine⟨_,[s2.heap.objs.size],_,_,H1,rfl,I3,yuh (ep:=ep) (n:=ents.size) e1 rfl,⟨_,Heap.get?_push_size _ rfl,rfl,rfl⟩,fun c hc=>?_,q⟩
 have e:c=s2.heap.objs.size:=by simpa using hc
 subst e
 exact I2.fpOk (H':=H1) (Nat.le_refl _) (I2.hok.fresh (Nat.le_refl _))
end
theorem ypm (elt target iter:Expr)(c0:Comprehension)(ifs:List Expr)(scope:Scope)(pos:Pos)(it acc:Value)(env:Env) :
 compTurn (.ListComp elt [c0,⟨target,iter,ifs,0⟩] scope pos) 1 it acc env=(do
  standAt iter.pos
  match ← pyNext it with
  |none=>pure (.done .next)
  |some v=>
   letOwnedTupleGo target it v
   assign target env v
   let mut ok:=true
   for c in ifs do
    if ok then ok ← isTrue c env (eval c env)
   if ok then
    (do let _ ← call (.builtin "list.append") [acc,← eval elt env])
   again (.compLoop (.ListComp elt [c0,⟨target,iter,ifs,0⟩] scope pos) 1 it acc env)):=by rfl
theorem yn7 (elt t0 i0 t1 i1:Expr)(ifs0 ifs:List Expr)(scope:Scope)(pos:Pos)(it acc:Value)(env:Env) :
 compTurn (.ListComp elt [⟨t0,i0,ifs0,0⟩,⟨t1,i1,ifs,0⟩] scope pos) 0 it acc env=(do
  standAt i0.pos
  match ← pyNext it with
  |none=>pure (.done .next)
  |some v=>
   letOwnedTupleGo t0 it v
   assign t0 env v
   let mut ok:=true
   for c in ifs0 do
    if ok then ok ← isTrue c env (eval c env)
   if ok then
    let x ← eval i1 env
    standAt i1.pos
    let x ← foldedSetIterable i1 env x
    let _ ← runOwn (.compStart (.ListComp elt [⟨t0,i0,ifs0,0⟩,⟨t1,i1,ifs,0⟩] scope pos) 1 (← holding [x] (pyIter x)) acc env) env
   again (.compLoop (.ListComp elt [⟨t0,i0,ifs0,0⟩,⟨t1,i1,ifs,0⟩] scope pos) 0 it acc env)):=by rfl
section
variable {prog:Program}{w:World}{A:Around}{R:Result→Shared→Prop}{s:Shared}
theorem yn8 {elt target iter ifs scope pos it acc env}{c0:Comprehension}
 (h0:codeAny (model prog w) A (.compLoop (.ListComp elt [c0,⟨target,iter,ifs,0⟩] scope pos) 1 it acc env) R s)
 (h:wpAny (model prog w) A (pyIter it) (fun it' s'=>codeAny (model prog w) A (.compLoop (.ListComp elt [c0,⟨target,iter,ifs,0⟩] scope pos) 1 it' acc env) R s') (notedBy (model prog w) A env fun x s'=>R (.error x) s') s) :
 codeAny (model prog w) A (.compStart (.ListComp elt [c0,⟨target,iter,ifs,0⟩] scope pos) 1 it acc env) R s:=by
 refine codeAny_of_tree ?_
 show wpAny _ _ ((compStart (.ListComp elt [c0,⟨target,iter,ifs,0⟩] scope pos) 1 it acc env).onRaise (fun x=>do noteFrame x env;standAt theWindowsPlace)) _ _ s
 refine wpAny_notedAt ?_
 unfold compStart
 show wpAny _ _ (ask >>= _) _ _ s
 refine zwb0 (wpAny_askSetting (wpAny_ite ?_))
 split
 ·first|exact zwb0 (zwp0 (zwp0 (And.intro rfl h0)))|exact zwp0 (And.intro rfl h0)
 ·refine zwb0 (wpAny_rule ?_)
  show wpAny _ _ (standAt iter.pos >>= _) _ _ s
  exact zwb0 (wpAny_standAt (zwb0 (wpAny_mono h (fun it' s' h'=>zwp0 (And.intro rfl h')) fun _ _ x=>x)))
end
section
variable {X:Cx}{N':List Str}{ix:List (Option Nat)}{scope:Scope}{elt tg iter:Expr}{ifs:List Expr}{pos:Pos}{wi:TI}{g:TG}{ti:TT}{te:TE}
theorem yy2 {X':Cx}{c0:Comprehension}{pins:List (Addr×Obj)}{R:Hp→Prop}{σ₀:St}{H:Hp}{s:Shared}{it D:Addr}{fp:List Addr}{tn:Nat→Heap→Prop}{J:It}{W:Nat→Nat→Hp→Prop}{m0:Nat}(I:Inv X' pins σ₀ H s)(hcalm:X'.calm=true)(hxe:X'.xe=fun _ _=>False)
 (T:Turn X'.prog X'.w X'.K tg J fp it tn) (st:tn 0 s.heap) (hf:∀b∈fp,ygv X' pins H b) (hg:PG X' tg g) (hi:yow X' ifs ti) (he:PE X' elt te) (w0:W 0 m0 H)
 (turn:∀i m H,W i m H→(J.stop i H∧R H)∨(J.go i H∧∀x H',J.yld i H x H'→g x σ₀ H' fun σ2 H2=>(∀(k:Nat) v,σ₀[k]? = some (some v)→σ2[k]? = some (some v))∧ti σ2 H2 fun b H3=>
  if b=true then te σ2 H3 fun y H4=>∃zs,H4 D=some (.lst zs)∧zs.length<sizeLine∧∃m',m' < m∧W (i+1) m' (upd H4 D (.lst (zs++[y]))) else ∃m',m' < m∧W (i+1) m' H3)) :
 codeAny (model X'.prog X'.w) X'.A (.compStart (.ListComp elt [c0,⟨tg,iter,ifs,0⟩] scope pos) 1 (.ref it) (.ref D) X'.env) (fun r s'=>(∃f,r = .ok f)∧∃H',Inv X' pins σ₀ H' s'∧R H') s:=by
 have stat:∀{H':Hp},(∀b∈fp,H' b=none)→∀b∈fp,ygv X' pins H' b:=fun hn b hb=>⟨hn b hb,(hf b hb).2⟩
 have loop:codeAny (model X'.prog X'.w) X'.A (.compLoop (.ListComp elt [c0,⟨tg,iter,ifs,0⟩] scope pos) 1 (.ref it) (.ref D) X'.env) (fun r s'=>(∃f,r = .ok f)∧∃H',Inv X' pins σ₀ H' s'∧R H') s:=by
  refine codeAny_loop rfl (fun n s'=>∃i H',Inv X' pins σ₀ H' s'∧tn i s'.heap∧(∀b∈fp,H' b=none)∧W i n H') ?_ m0 ⟨0,H,I,st,fun b hb=>(hf b hb).1,w0⟩
  rintro n s1 ⟨i,H1,I1,st1,fr1,w1⟩
  show wpAny _ X'.A ((compTurn (.ListComp elt [c0,⟨tg,iter,ifs,0⟩] scope pos) 1 (.ref it) (.ref D) X'.env).onRaise (fun x=>do noteFrame x X'.env;theTreesLotGoes x)) _ _ s1
  refine wpAny_noted ?_
  have noE:∀{α:Type}{t:Sem α}{P:α→Shared→Prop}{F:Value→Shared→Prop}{s:Shared},wpAny (model X'.prog X'.w) X'.A t P X'.xe s→wpAny (model X'.prog X'.w) X'.A t P F s:=fun h=>wpAny_mono h (fun _ _ x=>x) fun e s' x=>by rw[hxe] at x;exact x.elim
  rw[ypm]
  refine zwb0 (wpAny_standAt (zwb0 ?_))
  rcases turn i n H1 w1 with ⟨stop,qn⟩ | ⟨go,step⟩
  ·refine thn (T.done X' rfl rfl rfl hcalm i pins s1 σ₀ H1 _ I1 (stat fr1) st1 stop) fun r s2 ⟨hr,I2⟩=>?_
   subst hr
   exact zwp0 ⟨⟨_,rfl⟩,H1,I2,qn⟩
  ·refine thn (T.item X' rfl rfl rfl hcalm i pins s1 σ₀ H1 _ I1 (stat fr1) st1 go) fun r s2 ⟨u,hr,h2⟩=>?_
   subst hr
   refine zwb0 (thn h2 fun _ s3 ⟨x,H3,I3,r3,y3,st3,fr3⟩=>?_)
   have I3':=I3.pinned (stat fr3) (T.obj _ _ st3)
   refine zwb0 (noE (thn (hg _ s3 σ₀ H3 x u _ I3' r3 (step x H3 y3)) fun _ s4 ⟨σ4,H4,I4,hk4,q4⟩=>?_))
   refine zwb0 (noE (thn (hi _ s4 σ4 H4 _ I4 q4) fun ok s5 ⟨H5,I5,q5⟩=>?_))
   have again':∀{s7:Shared}{H7:Hp}{m':Nat},Inv X' (pins++yg5 fp s3.heap) σ4 H7 s7→m' < n→W (i+1) m' H7→∃m,m<n∧∃i H',Inv X' pins σ₀ H' s7∧tn i s7.heap∧(∀b∈fp,H' b=none)∧W i m H':=fun {s7 H7 m'} I7 hm w7=>by
    refine⟨m',hm,i+1,H7,I7.unpinned.weak (by rw[I3.len,I7.len]) hk4,T.keep _ _ _ st3 fun b hb o e=>(I7.pin (b,o) (List.mem_append_right _ (List.mem_append_right _ (ybu hb e)))).1,fun b hb=>?_,w7⟩
    obtain ⟨o,e,d⟩:=T.obj _ _ st3 b hb
    exact(I7.pin (b,o) (List.mem_append_right _ (List.mem_append_right _ (ybu hb e)))).2.1
   cases ok with
   |false=>
    obtain ⟨m',hm,w7⟩:=q5
    exact zwp0 ⟨rfl,again' I5 hm w7⟩
   |true=>
    refine zwb0 (zwb0 (noE (thn (he _ s5 σ4 H5 _ I5 q5) fun y s6 ⟨yv,H6,I6,r6,zs,hD,hz,m',hm,w7⟩=>?_)))
    refine zwb0 (noE (thn (ydd (X:=X') _ s6 σ4 H6 (.ref D) [yv] (.ref D) [y] (fun v H7=>H7=upd H6 D (.lst (zs++[yv]))) I6 rfl (.cons r6 .nil) ⟨D,zs,yv,rfl,rfl,hD,hz,rfl⟩) fun v s7 ⟨vv,H7,I7,_,e7⟩=>?_))
    subst e7
    exact zwp0 (zwp0 ⟨rfl,again' I7 hm w7⟩)
 refine yn8 loop (T.self _ 0 s _ _ st loop)
variable {t1 i1:Expr}{wi1:TI}{g1:TG}
def two (J:It)(R:Hp→Prop)(D:Addr)(σ₀:St)(g:TG)(wi1:TI)(g1:TG)(ti:TT)(te:TE)(W:Nat→Nat→Hp→Prop):Prop:=∀i m H,W i m H→(J.stop i H∧R H)∨(J.go i H∧∀x H',J.yld i H x H'→g x σ₀ H' fun σ1 H1=>(∀(k:Nat) v,σ₀[k]? = some (some v)→σ1[k]? = some (some v))∧wi1 σ1 H1 fun J1 H2=>
 ∃W1:Nat→Nat→Hp→Prop,(∃m1,W1 0 m1 H2)∧∀j m1 H3,W1 j m1 H3→(J1.stop j H3∧∃m',m' < m∧W (i+1) m' H3)∨(J1.go j H3∧∀y H4,J1.yld j H3 y H4→g1 y σ1 H4 fun σ2 H5=>(∀(k:Nat) v,σ1[k]? = some (some v)→σ2[k]? = some (some v))∧ti σ2 H5 fun b H6=>
  if b=true then te σ2 H6 fun z H7=>∃zs,H7 D=some (.lst zs)∧zs.length<sizeLine∧∃m',m' < m1∧W1 (j+1) m' (upd H7 D (.lst (zs++[z]))) else ∃m',m' < m1∧W1 (j+1) m' H6))
def zax (ix:List (Option Nat))(wi:TI)(g:TG)(wi1:TI)(g1:TG)(ti:TT)(te:TE):TE:=fun σ H Q=>wi σ H fun J H1=>∀D,H1 D=none→∃W:Nat→Nat→Hp→Prop,(∃m,W 0 m (upd H1 D (.lst [])))∧two J (Q (.ref D)) D (yb1 ix σ) g wi1 g1 ti te W
theorem yrv {X':Cx}{σ₀:St}{H:Hp}{s:Shared}{R:Hp→Prop}{it D:Addr}{fp:List Addr}{tn:Nat→Heap→Prop}{J:It}{W:Nat→Nat→Hp→Prop}{m0:Nat}(I:Inv X' [] σ₀ H s)(hcalm:X'.calm=true)(hxe:X'.xe=fun _ _=>False)
 (T:Turn X'.prog X'.w X'.K tg J fp it tn) (st:tn 0 s.heap) (hf:∀b∈fp,ygv X' [] H b) (hg:PG X' tg g) (hi1:PI X' t1 i1 wi1) (hg1:PG X' t1 g1) (hi:yow X' ifs ti) (he:PE X' elt te) (w0:W 0 m0 H) (hs1:∀x,foldedSetIterable i1 X'.env x=pure x)
 (turn:two J R D σ₀ g wi1 g1 ti te W) :
 codeAny (model X'.prog X'.w) X'.A (.compStart (.ListComp elt [⟨tg,iter,[],0⟩,⟨t1,i1,ifs,0⟩] scope pos) 0 (.ref it) (.ref D) X'.env) (fun r s'=>(∃f,r = .ok f)∧∃H',Inv X' [] σ₀ H' s'∧R H') s:=by
 have stat:∀{H':Hp},(∀b∈fp,H' b=none)→∀b∈fp,ygv X' [] H' b:=fun hn b hb=>⟨hn b hb,(hf b hb).2⟩
 have loop:codeAny (model X'.prog X'.w) X'.A (.compLoop (.ListComp elt [⟨tg,iter,[],0⟩,⟨t1,i1,ifs,0⟩] scope pos) 0 (.ref it) (.ref D) X'.env) (fun r s'=>(∃f,r = .ok f)∧∃H',Inv X' [] σ₀ H' s'∧R H') s:=by
  refine codeAny_loop rfl (fun n s'=>∃i H',Inv X' [] σ₀ H' s'∧tn i s'.heap∧(∀b∈fp,H' b=none)∧W i n H') ?_ m0 ⟨0,H,I,st,fun b hb=>(hf b hb).1,w0⟩
  rintro n s1 ⟨i,H1,I1,st1,fr1,w1⟩
  show wpAny _ X'.A ((compTurn (.ListComp elt [⟨tg,iter,[],0⟩,⟨t1,i1,ifs,0⟩] scope pos) 0 (.ref it) (.ref D) X'.env).onRaise (fun x=>do noteFrame x X'.env;theTreesLotGoes x)) _ _ s1
  refine wpAny_noted ?_
  have noE:∀{α:Type}{t:Sem α}{P:α→Shared→Prop}{F:Value→Shared→Prop}{s:Shared},wpAny (model X'.prog X'.w) X'.A t P X'.xe s→wpAny (model X'.prog X'.w) X'.A t P F s:=fun h=>wpAny_mono h (fun _ _ x=>x) fun e s' x=>by rw[hxe] at x;exact x.elim
  rw[yn7]
  refine zwb0 (wpAny_standAt (zwb0 ?_))
  rcases turn i n H1 w1 with ⟨stop,qn⟩ | ⟨go,step⟩
  ·refine thn (T.done X' rfl rfl rfl hcalm i [] s1 σ₀ H1 _ I1 (stat fr1) st1 stop) fun r s2 ⟨hr,I2⟩=>?_
   subst hr
   exact zwp0 ⟨⟨_,rfl⟩,H1,I2,qn⟩
  ·refine thn (T.item X' rfl rfl rfl hcalm i [] s1 σ₀ H1 _ I1 (stat fr1) st1 go) fun r s2 ⟨u,hr,h2⟩=>?_
   subst hr
   refine zwb0 (thn h2 fun _ s3 ⟨x,H3,I3,r3,y3,st3,fr3⟩=>?_)
   have I3':=I3.pinned (stat fr3) (T.obj _ _ st3)
   refine zwb0 (noE (thn (hg _ s3 σ₀ H3 x u _ I3' r3 (step x H3 y3)) fun _ s4 ⟨σ4,H4,I4,hk4,q4⟩=>?_))
   refine zwb0 (zwp0 ?_)
   simp only[if_true]
   refine zwb0 (noE (thn (hi1 _ s4 σ4 H4 _ I4 q4) fun v5 s5 h5=>?_))
   refine zwb0 (wpAny_standAt (zwb0 (wpAny_of_eq (hs1 v5) ?_)))
   refine zwb0 (wpAny_holding (noE (thn h5 fun itv s6 h6=>?_)))
   obtain ⟨it1,fp1,tn1,J1,H6,rfl,I6,T1,st6,f6,W1,⟨m1,w6⟩,turn1⟩:=h6
   refine zwb0 (wpAny_runOwn (h:=none) (codeAny_mono (yy2 (pins:=[]++yg5 fp s3.heap) (c0:=⟨tg,iter,[],0⟩) (R:=fun H'=>∃m',m' < n∧W (i+1) m' H') (tg:=t1) (iter:=i1) (pos:=pos) (scope:=scope) I6 hcalm hxe T1 st6 f6 hg1 hi he w6 turn1) fun r s7 h7=>?_))
   obtain ⟨⟨fl,rfl⟩,H7,I7,m',hm,w7⟩:=h7
   refine zwp0 ⟨rfl,m',hm,i+1,H7,I7.unpinned.weak (by rw[I3.len,I7.len]) hk4,T.keep _ _ _ st3 fun b hb o e=>(I7.pin (b,o) (List.mem_append_right _ (List.mem_append_right _ (ybu hb e)))).1,fun b hb=>?_,w7⟩
   obtain ⟨o,e,d⟩:=T.obj _ _ st3 b hb
   exact(I7.pin (b,o) (List.mem_append_right _ (List.mem_append_right _ (ybu hb e)))).2.1
 refine codeAny_compStart_list loop (T.self _ 0 s _ _ st loop)
theorem ypn {pins:List (Addr×Obj)}{σ:St}{H:Hp}{s:Shared}{Q:VK}{it:Addr}{fp:List Addr}{tn:Nat→Heap→Prop}{J:It}{E:Value→Shared→Prop}(I:Inv X pins σ H s)(hcalm:X.calm=true)(S:CompScope X N' ix scope)
 (T:Turn X.prog X.w X.K tg J fp it tn) (st:tn 0 s.heap) (hf:∀b∈fp,ygv X pins H b)
 (hg:∀C s H fp,PG (ya4 X N' scope C s H fp) tg g) (hi1:∀C s H fp,PI (ya4 X N' scope C s H fp) t1 i1 wi1) (hg1:∀C s H fp,PG (ya4 X N' scope C s H fp) t1 g1) (hi:∀C s H fp,yow (ya4 X N' scope C s H fp) ifs ti) (he:∀C s H fp,PE (ya4 X N' scope C s H fp) elt te) (hs1:∀C s H fp x,foldedSetIterable i1 (ya4 X N' scope C s H fp).env x=pure x)
 (h:∀D,H D=none→∃W:Nat→Nat→Hp→Prop,(∃m,W 0 m (upd H D (.lst [])))∧two J (Q (.ref D)) D (yb1 ix σ) g wi1 g1 ti te W) :
 wpAny (model X.prog X.w) X.A (newList []) (fun acc s3=>wpAny (model X.prog X.w) X.A (newFunctionEnv scope X.env.globals (yhp X.env scope.names []) [] X.env.qual none .none (some X.env)) (fun cenv s4=>
  codeAny (model X.prog X.w) X.A (.compStart (.ListComp elt [⟨tg,iter,[],0⟩,⟨t1,i1,ifs,0⟩] scope pos) 0 (.ref it) acc { cenv with scope:=relabel scope X.env }) (ylx X pins σ Q acc cenv.locals) s4) E s3) E s:=by
 refine wpAny_newList ?_
 have fresh0:H s.heap.objs.size=none:=I.hok.fresh (Nat.le_refl _)
 have I3:Inv X pins σ (upd H s.heap.objs.size (.lst [])) { s with heap:=s.heap.push { cls:=.type "list",data:=.seq ([]:List Value).toArray } } :=
  I.laid (t':=s.toks) (fun b u e=>Heap.get?_push_of_some _ e) (Nat.le_refl _) ⟨by show 0≤sizeLine;exact Nat.zero_le _,[],0,.nil,Heap.get?_push_size _ rfl⟩
 obtain ⟨W,⟨m0,w0⟩,turn⟩:=h s.heap.objs.size fresh0
 generalize hD:s.heap.objs.size=D at *
 have lt0:∀b∈fp,b<s.heap.objs.size:=fun b hb=>by obtain ⟨o,e,_⟩:=T.obj 0 _ st b hb;exact Heap.lt_size e
 have hf3:∀b∈fp,ygv X pins (upd H D (.lst [])) b:=fun b hb=>by
  have nb:b≠D:=by rw[← hD];exact Nat.ne_of_lt (lt0 b hb)
  obtain ⟨f0,fr⟩:=hf b hb
  exact⟨by rw[yal nb];exact f0,fr⟩
 have st3:tn 0 (s.heap.push { cls:=.type "list",data:=.seq ([]:List Value).toArray }):=T.keep _ _ _ st fun b hb o e=>Heap.get?_push_of_some _ e
 revert I3 st3
 generalize (s.heap.push { cls:=.type "list",data:=.seq ([]:List Value).toArray })=h3
 intro I3 st3
 have lt3:∀b∈fp,b<h3.objs.size:=fun b hb=>by obtain ⟨o,e,_⟩:=T.obj 0 _ st3 b hb;exact Heap.lt_size e
 refine wpAny_newFunctionEnv S.nocell (fun x hx=>nomatch hx) (fun h4 hns hsb=>?_) S.kind
 have k4:∀b o,h3.get? b=some o→h4.get? b=some o:=fun b o e=>(hsb.2 b (Nat.ne_of_lt (Heap.lt_size e))).trans (Heap.get?_push_of_some _ e)
 have J4:Inv (ya4 X N' scope h3.objs.size { s with heap:=h3 } (upd H D (.lst [])) fp) [] (yb1 ix σ) (upd H D (.lst [])) { s with heap:=h4,toks:=s.toks+([]:List (Str×Value)).length }:=
  yir (s:={ s with heap:=h3 }) (tk:=s.toks+([]:List (Str×Value)).length) I3 hcalm S hf3 lt3 hns k4
 have st4:tn 0 ({ s with heap:=h4,toks:=s.toks+([]:List (Str×Value)).length }:Shared).heap:=T.keep _ _ _ st3 fun b hb o e=>k4 b o e
 have fr4:∀b∈fp,upd H D (.lst []) b=none:=fun b hb=>(hf3 b hb).1
 revert J4 st4
 generalize ({ s with heap:=h4,toks:=s.toks+([]:List (Str×Value)).length }:Shared)=s4
 intro J4 st4
 have hf4:∀b∈fp,ygv (ya4 X N' scope h3.objs.size { s with heap:=h3 } (upd H D (.lst [])) fp) [] (upd H D (.lst [])) b:=fun b hb=>
  ⟨fr4 b hb,Nat.ne_of_lt (lt3 b hb),J4.ok.exfs b hb,.inl hb,fun x c e=>(J4.ok.exf b hb).2 x c e,fun p hp=>nomatch hp⟩
 refine codeAny_mono (yrv (X':=ya4 X N' scope h3.objs.size { s with heap:=h3 } (upd H D (.lst [])) fp) (R:=Q (.ref D)) (D:=D) J4 rfl rfl T st4 hf4 (hg _ _ _ _) (hi1 _ _ _ _) (hg1 _ _ _ _) (hi _ _ _ _) (he _ _ _ _) w0 (hs1 _ _ _ _) turn) fun r s' ⟨hr,H',J',q'⟩=>?_
 refine⟨D,H',rfl,hr,I3.call' J'.os J'.base J'.hok J'.bare fun b hb=>?_,?_,?_,q'⟩
 ·obtain ⟨_,f1,_,f3,f4,f5⟩:=hf3 b hb
  exact⟨f3,f1,f4,f5⟩
 ·exact I3.fpOk (H':=H') (Nat.le_refl _) J'.free
 ·obtain ⟨m,hn,_⟩:=J'.loc
  exact⟨m,hn⟩
theorem ywi (hcalm:X.calm=true)(S:CompScope X N' ix scope)(hit:PI X tg iter wi)
 (hg:∀C s H fp,PG (ya4 X N' scope C s H fp) tg g) (hi1:∀C s H fp,PI (ya4 X N' scope C s H fp) t1 i1 wi1) (hg1:∀C s H fp,PG (ya4 X N' scope C s H fp) t1 g1) (hi:∀C s H fp,yow (ya4 X N' scope C s H fp) ifs ti) (he:∀C s H fp,PE (ya4 X N' scope C s H fp) elt te)
 (hs1:∀C s H fp x,foldedSetIterable i1 (ya4 X N' scope C s H fp).env x=pure x:=by intros;rfl) (hs:∀x,foldedSetIterable iter X.env x=pure x:=by intro _;rfl):PE X (.ListComp elt [⟨tg,iter,[],0⟩,⟨t1,i1,ifs,0⟩] scope pos) (zax ix wi g wi1 g1 ti te):=by
 intro pins s σ H Q I h
 rw[eval_ListComp]
 refine wpAny_comprehension_free (use:=none) rfl hs (yd7 I S) S.kind S.loc (thn (hit pins s σ H _ I h) fun v s1 h1=>thn h1 fun itv s2 h2=>?_)
 obtain ⟨it,fp,tn,J,H2,rfl,I2,T,st2,f2,q2⟩:=h2
 refine thn (ypn (E:=X.xe) (elt:=elt) (iter:=iter) (pos:=pos) I2 hcalm S T st2 f2 hg hi1 hg1 hi he hs1 q2) fun acc s3 h3=>thn h3 fun cenv s4 h4=>codeAny_mono h4 fun r s' hr=>?_
 obtain ⟨D,H',rfl,⟨f,rfl⟩,I',⟨g0,g1,_,g3,g4,g5⟩,⟨m,hm⟩,q'⟩:=hr
 exact⟨m,hm,fun h' hsb=>⟨.ref D,H',I'.turned (t':=s'.toks) (fun b o hb e=>(hsb.2 b hb).trans e) g0 g1 g3 g4 g5,rfl,q'⟩⟩
end
def yrw (xs:Array Nat):Prop:=∀(i j:Nat) (hi:i<xs.size) (hj:j<xs.size),i<j→xs[i]<xs[j]
theorem ywj {xs:Array Nat}{j:Nat}(h:yrw xs):∀(fuel lo hi:Nat),lo≤hi→hi≤xs.size→hi-lo≤fuel→(∀(k:Nat) (hk:k<xs.size),k<lo→xs[k]<j)→(∀(k:Nat) (hk:k<xs.size),hi≤k→j≤xs[k])→
 SetTable.below.go xs j fuel lo hi≤xs.size∧(∀(k:Nat) (hk:k<xs.size),k<SetTable.below.go xs j fuel lo hi→xs[k]<j)∧∀(k:Nat) (hk:k<xs.size),SetTable.below.go xs j fuel lo hi≤k→j≤xs[k]:=by
 intro fuel
 induction fuel with
 |zero=>
  intro lo hi h1 h2 h3 h4 h5
  have e:lo=hi:=by omega
  subst e
  exact⟨h2,h4,h5⟩
 |succ n ih=>
  intro lo hi h1 h2 h3 h4 h5
  unfold SetTable.below.go
  by_cases c:lo<hi
  ·rw[if_pos c]
   dsimp only
   have hm:(lo+hi) / 2<xs.size:=by omega
   have eg:xs.getD ((lo+hi) / 2) j=xs[(lo+hi) / 2]:=by rw[Array.getD_eq_getD_getElem?,Array.getElem?_eq_getElem hm];rfl
   rw[eg]
   by_cases c2:xs[(lo+hi) / 2]<j
   ·rw[if_pos c2]
    refine ih _ _ (by omega) h2 (by omega) (fun k hk hlt=>?_) h5
    by_cases c3:k=(lo+hi) / 2
    ·subst c3;exact c2
    ·have:=h k ((lo+hi) / 2) hk hm (by omega)
     omega
   ·rw[if_neg c2]
    refine ih _ _ (by omega) (by omega) (by omega) h4 (fun k hk hge=>?_)
    by_cases c3:k=(lo+hi) / 2
    ·subst c3;omega
    ·have:=h ((lo+hi) / 2) k hm hk (by omega)
     omega
  ·rw[if_neg c]
   have e:lo=hi:=by omega
   subst e
   exact⟨h2,h4,h5⟩
theorem yqw {xs:Array Nat}(h:yrw xs)(j:Nat):SetTable.below xs j≤xs.size∧(∀(k:Nat) (hk:k<xs.size),k<SetTable.below xs j→xs[k]<j)∧∀(k:Nat) (hk:k<xs.size),SetTable.below xs j≤k→j≤xs[k]:=
 ywj h xs.size 0 xs.size (Nat.zero_le _) (Nat.le_refl _) (by omega) (fun k _ z=>absurd z (Nat.not_lt_zero _)) (fun k hk z=>absurd hk (by omega))
theorem ypo {α:Type}(xs:Array α)(p:Nat)(x:α)(hp:p≤xs.size):(SetTable.insertAt xs p x).size=xs.size+1:=by
 unfold SetTable.insertAt
 rw[Array.size_append,Array.size_push,Array.size_extract,Array.size_extract]
 omega
theorem yrx {α:Type}(xs:Array α)(p:Nat)(x:α)(hp:p≤xs.size)(i:Nat):(SetTable.insertAt xs p x)[i]? = if i<p then xs[i]? else if i=p then some x else xs[i-1]?:=by
 unfold SetTable.insertAt
 have s1:((xs.extract 0 p).push x).size=p+1:=by rw[Array.size_push,Array.size_extract];omega
 by_cases c1:i<p
 ·rw[if_pos c1,Array.getElem?_append_left (by omega),Array.getElem?_push_lt (by rw[Array.size_extract];omega)]
  rw[← Array.getElem?_eq_getElem,Array.getElem?_extract]
  rw[if_pos (by omega)]
  congr 1
  omega
 ·rw[if_neg c1]
  by_cases c2:i=p
  ·subst c2
   rw[if_pos rfl,Array.getElem?_append_left (by omega),Array.getElem?_push,if_pos (by rw[Array.size_extract];omega)]
  ·rw[if_neg c2,Array.getElem?_append_right (by omega),Array.getElem?_extract,s1]
   by_cases c3:i-(p+1)<xs.size-p
   ·rw[if_pos (by omega)]
    congr 1
    omega
   ·rw[if_neg (by omega),Array.getElem?_eq_none (by omega)]
theorem ypp {xs:Array Nat}(h:yrw xs){j:Nat}(hn:xs[SetTable.below xs j]?≠some j):yrw (SetTable.insertAt xs (SetTable.below xs j) j):=by
 obtain ⟨b1,b2,b3⟩:=yqw h j
 generalize SetTable.below xs j=p at *
 have val:∀(i:Nat) (hi:i<(SetTable.insertAt xs p j).size),some (SetTable.insertAt xs p j)[i]=if i<p then xs[i]? else if i=p then some j else xs[i-1]?:=fun i hi=>by rw[← yrx xs p j b1 i,Array.getElem?_eq_getElem hi]
 have above:∀(k:Nat) (hk:k<xs.size),p≤k→j<xs[k]:=fun k hk hpk=>by
  have hp:p<xs.size:=by omega
  have h1:=b3 p hp (Nat.le_refl _)
  have h2:xs[p]≠j:=fun z=>hn (by rw[Array.getElem?_eq_getElem hp,z])
  by_cases c:k=p
  ·subst c;omega
  ·have:=h p k hp hk (by omega)
   omega
 intro i k hi hk hik
 have sz:=ypo xs p j b1
 have vi:=val i hi
 have vk:=val k hk
 by_cases c1:k<p
 ·rw[if_pos (by omega),Array.getElem?_eq_getElem (by omega)] at vi
  rw[if_pos c1,Array.getElem?_eq_getElem (by omega)] at vk
  rw[Option.some.inj vi,Option.some.inj vk]
  exact h i k (by omega) (by omega) hik
 ·rw[if_neg c1] at vk
  by_cases c2:k=p
  ·rw[if_pos c2] at vk
   rw[if_pos (by omega),Array.getElem?_eq_getElem (by omega)] at vi
   rw[Option.some.inj vi,Option.some.inj vk]
   exact b2 i (by omega) (by omega)
  ·rw[if_neg c2,Array.getElem?_eq_getElem (by omega)] at vk
   rw[Option.some.inj vk]
   by_cases c3:i<p
   ·rw[if_pos c3,Array.getElem?_eq_getElem (by omega)] at vi
    rw[Option.some.inj vi]
    exact h i (k-1) (by omega) (by omega) (by omega)
   ·rw[if_neg c3] at vi
    by_cases c4:i=p
    ·rw[if_pos c4] at vi
     rw[Option.some.inj vi]
     exact above (k-1) (by omega) (by omega)
    ·rw[if_neg c4,Array.getElem?_eq_getElem (by omega)] at vi
     rw[Option.some.inj vi]
     exact h (i-1) (k-1) (by omega) (by omega) (by omega)
theorem ygn (n:Nat):yrw (Array.range n):=fun i j hi hj hij=>by simpa using hij
theorem yn9 {t:SetTable}{j:Nat}(h:t.slot j = .empty∨t.slot j = .dummy):t.place[SetTable.below t.place j]?≠some j:=fun e=>by
 unfold SetTable.slot at h
 dsimp only at h
 rw[e] at h
 simp at h
theorem ywk {t:SetTable}{ha:Nat→Int}{h:Int}:∀(fuel:Nat) (p:SetTable.Probe) {j:Nat}{d:Option Nat},(∀x,p.dummy=some x→t.slot x = .dummy)→SetTable.probe.go t ha h fuel p=some (.empty j d)→t.slot j = .empty∧∀x,d=some x→t.slot x = .dummy:=by
 intro fuel
 induction fuel with
 |zero=>intro p j d _ e;cases e
 |succ n ih=>
  intro p j d hp e
  unfold SetTable.probe.go at e
  have adv:∀q:SetTable.Probe,(t.advance q).dummy=q.dummy:=fun q=>by unfold SetTable.advance;split <;> rfl
  cases q:t.slot p.j with
  |empty=>
   rw[q] at e
   cases e
   exact⟨q,hp⟩
  |dummy=>
   rw[q] at e
   refine ih _ (fun x hx=>?_) e
   rw[adv] at hx
   cases hx
   exact q
  |live i=>
   rw[q] at e
   dsimp only at e
   split at e
   ·cases e
   ·exact ih _ (fun x hx=>hp x (by rw[adv] at hx;exact hx)) e
theorem ymm {t:SetTable}{h:Int}{j:Nat}{b:Bool}(e:t.freeSlot h=some (j,b)):t.place[SetTable.below t.place j]?≠some j:=by
 unfold SetTable.freeSlot at e
 split at e
 ·rename_i j' d hp
  obtain ⟨p1,p2⟩:=ywk _ _ (fun x hx=>(by cases hx)) hp
  cases d with
  |none=>cases e;exact yn9 (.inl p1)
  |some x=>cases e;exact yn9 (.inr (p2 x rfl))
 ·cases e
theorem ypq {t:SetTable}(es:Array (Int×Value))(h:Int)(x:Value)(hr:yrw t.place):yrw (layNew t es h x).2.1.place∧(layNew t es h x).2.1.led=t.led:=by
 unfold layNew
 split
 ·rename_i slot wd e
  dsimp only
  unfold SetTable.orStandIn
  split
  ·exact⟨ypp hr (ymm e),rfl⟩
  ·exact⟨ygn _,rfl⟩
 ·exact⟨ygn _,rfl⟩
theorem ymn {t:SetTable}(es:Array (Int×Value))(n:Nat):yrw (relayAll t es n).2.1.place∧(relayAll t es n).2.1.led=t.led:=by
 unfold relayAll
 split
 ·rename_i t' order e
  dsimp only
  split
  ·unfold SetTable.relaid SetTable.laid at e
   cases q:SetTable.layClean (SetTable.sizeAbove n-1) (es.map (·.1)) with
   |none=>rw[q] at e;cases e
   |some owner=>
    rw[q] at e
    cases e
    refine⟨fun i j hi hj hij=>?_,rfl⟩
    have pw:(((List.range (SetTable.sizeAbove n-1+1)).filterMap fun j=>(owner.getD j none).map (j,·)).map (·.1)).Pairwise (· < ·):=by
     rw[List.pairwise_map]
     refine List.Pairwise.filterMap (R:=(· < ·)) _ (fun a a' haa b hb b' hb'=>?_) List.pairwise_lt_range
     cases q1:owner.getD a none with
     |none=>rw[q1] at hb;cases hb
     |some v1=>
      cases q2:owner.getD a' none with
      |none=>rw[q2] at hb';cases hb'
      |some v2=>rw[q1] at hb;rw[q2] at hb';cases hb;cases hb';exact haa
    have:=List.pairwise_iff_getElem.mp pw i j (by simpa using hi) (by simpa using hj) hij
    simpa using this
  ·exact⟨ygn _,rfl⟩
 ·exact⟨ygn _,rfl⟩
def byT (w:World):Bool:=w.params.followText "set-order"
def kOf (e:Int×Value):Int:=match e.2 with
 |.int k _=>k
 |_=>0
def AllI (l:List (Int×Value)):Prop:=∀e∈l,∃k t,e=(hashInt k,.int k t)
def SetI (w:World)(a:Addr)(ns:List Int)(h:Heap):Prop:=∃o es ep t,h.get? a=some o∧o.ExactSet∧o.data = .set es ep t∧AllI es.toList∧(es.toList.map kOf).Perm ns∧es.size<scanBound∧t.fits es.size=true∧t.led = !byT w∧yrw t.place
section
variable {prog:Program}{w:World}{A:Around}{E:Value→Shared→Prop}{s:Shared}
theorem AllI.elems {l:List (Int×Value)}(h:AllI l):ElemsOf (intKind prog w) l:=fun e he=>by
 obtain ⟨k,t,rfl⟩:=h e he
 exact⟨⟨k,intKind_is prog w k t,rfl⟩,rfl⟩
theorem AllI.perm {l l':List (Int×Value)}(h:AllI l)(p:l'.Perm l):AllI l':=fun e he=>h e (p.mem_iff.mp he)
theorem AllI.has {l:List (Int×Value)}(h:AllI l)(x:Int):x∈l.map kOf↔∃e∈l,(intKind prog w).is x e.2=true:=by
 constructor
 ·intro m
  obtain ⟨e,he,rfl⟩:=List.mem_map.mp m
  obtain ⟨k,t,rfl⟩:=h e he
  exact⟨_,he,intKind_is prog w k t⟩
 ·rintro ⟨e,he,hx⟩
  obtain ⟨k,t,rfl⟩:=h e he
  have:x=k:=(intKind prog w).inj _ x k hx (intKind_is prog w k t)
  subst this
  exact List.mem_map.mpr ⟨_,he,rfl⟩
theorem SetI.typeIs {a:Addr}{ns:List Int} (S:SetI w a ns s.heap):s.TypeIs (.ref a) "set" := let ⟨o,_,_,_,ho,hc,_⟩:=S;⟨o,ho,hc.1⟩
theorem SetI.keep {a:Addr}{ns:List Int}{h h':Heap}(S:SetI w a ns h)(k:∀o,h.get? a=some o→h'.get? a=some o):SetI w a ns h':=let ⟨o,es,ep,t,ho,r⟩:=S;⟨o,es,ep,t,k o ho,r⟩
theorem yoa {a:Addr}{o:Obj}{es es':Array (Int×Value)}{ep:Nat}{t t':SetTable}{ns:List Int}{h:Heap}(ho:h.get? a=some o)(hex:o.ExactSet)(hd:o.data = .set es ep t)(r:AllI es'.toList∧(es'.toList.map kOf).Perm ns∧es'.size<scanBound∧t'.fits es'.size=true∧t'.led = !byT w∧yrw t'.place) :
 (h.update a (Obj.putSet es' t')).get? a=some { o with data:=.set es' (ep+1) t' }∧SetI w a ns (h.update a (Obj.putSet es' t')):=by
 have hg:(h.update a (Obj.putSet es' t')).get? a=some { o with data:=.set es' (ep+1) t' }:=by
  have:=Heap.get?_update_self (Obj.putSet es' t') ho (by rw[putSet_of es' t' hd];rfl)
  rw[putSet_of es' t' hd] at this
  exact this
 exact⟨hg,_,es',ep+1,t',hg,hex,rfl,r⟩
theorem yy3 {Q:Value→Shared→Prop} (h:∀h',(∀b o,s.heap.get? b=some o→h'.get? b=some o)→h'.objs.size=s.heap.objs.size+1→SetI w s.heap.objs.size [] h'→Q (.ref s.heap.objs.size) { s with heap:=h' }):wpAny (model prog w) A (newSet (.type "set")) Q E s:=by
 unfold newSet setsByText
 refine zwb0 (zwb0 (wpAny_askSetting (zwp0 ?_)))
 dsimp only
 simp only[newObj]
 refine zwb0 (wpAny_alloc (zwp0 (h _ (fun b o e=>Heap.get?_push_of_some _ e) (Heap.size_push ..) ⟨_,#[],0,_,Heap.get?_push_size _ rfl,⟨rfl,rfl,rfl⟩,rfl,fun e he=>by simp at he,by exact List.Perm.refl _,by decide,by rfl,rfl,fun i j hi=>by simp [SetTable.fresh] at hi⟩)))
theorem yqx {g:Bool→Sem Unit}(hg:∀(b:Bool) (s₁:Shared) (Q':Unit→Shared→Prop),Q' () s₁→wpAny (model prog w) A (g b) Q' E s₁)
 {a:Addr}{o:Obj}{es es1:Array (Int×Value)}{ep:Nat}{t t2:SetTable}{ns:List Int}{wd:Bool}{R:Option Bool→Shared→Prop} (ho:s.heap.get? a=some o) (hex:o.ExactSet) (hd:o.data = .set es ep t)
 (r:AllI es1.toList∧(es1.toList.map kOf).Perm ns∧es1.size<scanBound∧t2.fits es1.size=true∧t2.led = !byT w∧yrw t2.place) (h:∀h',Heap.SameBut a s.heap h'→SetI w a ns h'→R (some true) { s with heap:=h' }) :
 wpAny (model prog w) A (do
  storeSet a es1 t2
  if (!wd&&t2.tooFull)=true then do
   g (relayAll t2 es1 (SetTable.grown es1.size)).2.2
   storeSet a (relayAll t2 es1 (SetTable.grown es1.size)).1 (relayAll t2 es1 (SetTable.grown es1.size)).2.1
   pure (some true)
   else pure (some true)) R E s:=by
 obtain ⟨r1,r2,r3,r4,r5,r6⟩:=id r
 refine zwb0 (wpAny_storeSet_of ho hd ?_ (fits_of_scanBound r3))
 obtain ⟨o1,S1⟩:=yoa (w:=w) ho hex hd r
 have u1:=Heap.SameBut.update s.heap a (Obj.putSet es1 t2)
 split
 ·have hp:=relayAll_perm t2 es1 (SetTable.grown es1.size)
  have hf:=relayAll_fits t2 es1 (SetTable.grown es1.size)
  obtain ⟨hr,hl⟩:=ymn (t:=t2) es1 (SetTable.grown es1.size)
  generalize relayAll t2 es1 (SetTable.grown es1.size)=Rl at hp hf hr hl ⊢
  obtain ⟨es2,t3,gave⟩:=Rl
  dsimp only at hp hf hr hl ⊢
  have hz:es2.size=es1.size:=by rw[← Array.length_toList,hp.length_eq,Array.length_toList]
  refine zwb0 (hg _ _ _ ?_)
  refine zwb0 (wpAny_storeSet_of o1 rfl ?_ (fits_of_scanBound (by rw[hz];exact r3)))
  obtain ⟨_,S2⟩:=yoa (w:=w) (ns:=ns) o1 hex rfl ⟨r1.perm hp,(hp.map kOf).trans r2,by rw[hz];exact r3,hf,by rw[hl];exact r5,hr⟩
  exact zwp0 (h _ (u1.trans (Heap.SameBut.update _ a _)) S2)
 ·exact zwp0 (h _ u1 S1)
theorem yy4 {a:Addr}{ns:List Int}{x:Int}{tx:Tok}{Q:Value→Shared→Prop}(S:SetI w a ns s.heap)(hn:ns.length+1<scanBound)
 (h:∀h',Heap.SameBut a s.heap h'→SetI w a (if x∈ns then ns else ns++[x]) h'→Q .none { s with heap:=h',toks:=s.toks+1 }):wpAny (model prog w) A (call (.builtin "set.add") [.ref a,.int x tx]) Q E s:=by
 refine wpAny_call_entry PySem.F.slot_set_add S.typeIs PySem.F.entry_set_add ?_ (PySem.F.args_set_add_2 _ _)
 unfold Builtin.«set.add» Builtin.Frozenset.oneOther
 simp only[List.isEmpty_nil,bind_assoc]
 unfold Builtin.Frozenset.addrOf setAdd
 refine zwb0 (zwp0 ?_)
 try dsimp only
 refine zwb0 (zwp0 ?_)
 try dsimp only
 refine zwb0 (wpAny_holding (zwb0 ((intKind prog w).pyHash (intKind_is prog w x tx) ?_)))
 obtain ⟨o,es,ep,t,ho,hex,hd,hel,hpm,hb,hf,hled,hrise⟩:=S
 have hsz:es.size=ns.length:=by rw[← Array.length_toList,← hpm.length_eq,List.length_map]
 have elems:ElemsOf (intKind prog w) es.toList:=hel.elems
 have key:=intKind_is prog w x tx
 unfold setAddHashed setAddHashedIn
 refine wpAny_holding (zwb0 (wpAny_setState_of (s:={ s with toks:=s.toks+1 }) ho hd hf ?_))
 dsimp only
 rw[byScan_of (x:=.int x tx) rfl hb elems]
 simp only[↓reduceIte]
 unfold setAddByScan
 refine zwb0 (zwb0 (wpAny_rule (zwb0 (wpAny_setScan_of key ho hd hf elems ?_))))
 have mem:=(hel.has (prog:=prog) (w:=w) x)
 cases hr:List.findIdx? (fun e=>(intKind prog w).is x e.2) es.toList with
 |some j=>
  dsimp only
  obtain ⟨hj,hpj,_⟩:=List.findIdx?_eq_some_iff_getElem.mp hr
  have hx:x∈ns:=hpm.mem_iff.mp (mem.mpr ⟨_,List.getElem_mem hj,hpj⟩)
  rw[if_pos hx] at h
  refine zwp0 (zwp0 ?_)
  show wpAny _ _ (ret Value.none) _ _ _
  exact zwp0 ⟨_,rfl,h s.heap (Heap.SameBut.refl a s.heap) ⟨o,es,ep,t,ho,hex,hd,hel,hpm,hb,hf,hled,hrise⟩⟩
 |none=>
  dsimp only
  have hx:x ∉ ns:=fun z=>by
   obtain ⟨e,he,hp⟩:=mem.mp (hpm.mem_iff.mpr z)
   have:=List.findIdx?_eq_none_iff.mp hr e he
   rw[hp] at this
   cases this
  rw[if_neg hx] at h
  have hgw:∀(b:Bool) {s₁:Shared}{Q':Unit→Shared→Prop},Q' () s₁→wpAny (model prog w) A.in1 (match b with|true=>rule "set.scan.the-table-gave-way" | false=>pure ()) Q' E s₁:=fun b s₁ Q' hq=>by cases b <;> first|exact zwp0 hq|exact wpAny_rule hq
  have hp1:=layNew_perm t es ((intKind prog w).hash x) (.int x tx)
  have hf1:=layNew_fits t es ((intKind prog w).hash x) (.int x tx)
  obtain ⟨hr1,hl1⟩:=ypq es ((intKind prog w).hash x) (.int x tx) hrise
  generalize layNew t es ((intKind prog w).hash x) (.int x tx)=L at hp1 hf1 hr1 hl1 ⊢
  obtain ⟨es1,t1,wd,gave⟩:=L
  dsimp only at hp1 hf1 hr1 hl1 ⊢
  rw[Array.toList_push] at hp1
  have el1:AllI es1.toList:=AllI.perm (l:=es.toList++[((intKind prog w).hash x,.int x tx)]) (fun e he=>by
   rcases List.mem_append.mp he with z|z
   ·exact hel e z
   ·rw[List.mem_singleton.mp z];exact⟨x,tx,rfl⟩) hp1
  have pm1:(es1.toList.map kOf).Perm (ns++[x]):=(hp1.map kOf).trans (by rw[List.map_append];exact hpm.append_right _)
  have sz1:es1.size<scanBound:=by rw[← Array.length_toList,hp1.length_eq,List.length_append,Array.length_toList,hsz];exact hn
  refine zwb0 (hgw _ ?_)
  have fin:∀h',Heap.SameBut a s.heap h'→SetI w a (ns++[x]) h'→wpAny (model prog w) A.in1 (ret Value.none) (fun r s'=>∃v,r = .done (.ret v)∧Q v s') E { s with heap:=h',toks:=s.toks+1 }:=fun h' sb S'=>zwp0 ⟨_,rfl,h h' sb S'⟩
  split
  ·refine zwb0 ?_
   rw[hashByValue_scannable 8 (x:=.int x tx) rfl]
   refine zwp0 ?_
   simp only[plainKind,↓reduceIte]
   refine yqx (w:=w) (ns:=ns++[x]) ?_ ho hex hd ⟨el1,pm1,sz1,hf1,by rw[hl1];exact hled,hr1⟩ ?_
   ·intro b s₁ Q' hq;cases b <;> first|exact zwp0 hq|exact wpAny_rule hq
   ·intro h' sb S';dsimp only;exact zwp0 (fin h' sb S')
  ·refine zwb0 (zwp0 ?_)
   simp only[↓reduceIte]
   refine yqx (w:=w) (ns:=ns++[x]) ?_ ho hex hd ⟨el1,pm1,sz1,hf1,by rw[hl1];exact hled,hr1⟩ ?_
   ·intro b s₁ Q' hq;cases b <;> first|exact zwp0 hq|exact wpAny_rule hq
   ·intro h' sb S';dsimp only;exact zwp0 (fin h' sb S')
end
def HS (w:World)(a:Addr)(ns:List Int):HO:=.ext (SetI w a ns)
theorem zay {P:Program}{w:World}{H:Hp}{h:Heap}{a:Addr}{ns:List Int}(S:SetI w a ns h):ObjOk P w H h a (HS w a ns):=⟨S,(let ⟨o,_,_,_,ho,_⟩:=S;⟨o,ho⟩),fun h1 h2 S1 k=>S1.keep k⟩
theorem zaz {X:Cx}{pins:List (Addr×Obj)}{σ:St}{H:Hp}{s:Shared}{a:Addr}{ns:List Int}(I:Inv X pins σ H s)(e:H a=some (HS X.w a ns)):SetI X.w a ns s.heap:=(show ObjOk X.prog X.w H s.heap a (HS X.w a ns) from I.hok a _ e).1
theorem zcd {X:Cx}{pins:List (Addr×Obj)}{σ:St}{H:Hp}{s:Shared}{a:Addr}{ns:List Int}{x:Int}{tx:Tok}{A:Around}{E:Value→Shared→Prop}{Q:Value→Shared→Prop}(I:Inv X pins σ H s)(e:H a=some (HS X.w a ns))(hn:ns.length+1<scanBound)
 (h:∀s',Inv X pins σ (upd H a (HS X.w a (if x∈ns then ns else ns++[x]))) s'→Q .none s'):wpAny (model X.prog X.w) A (call (.builtin "set.add") [.ref a,.int x tx]) Q E s :=
 yy4 (w:=X.w) (zaz I e) hn fun h' sb S'=>h _ (yml I (by rw[e];exact True.intro) sb (let ⟨o,_,_,_,ho,_⟩:=S';⟨o,ho⟩) (zay S'))
theorem yob (elt target iter:Expr)(ifs:List Expr)(scope:Scope)(pos:Pos)(it acc:Value)(env:Env) :
 compTurn (.SetComp elt [⟨target,iter,ifs,0⟩] scope pos) 0 it acc env=(do
  standAt iter.pos
  match ← pyNext it with
  |none=>pure (.done .next)
  |some v=>
   letOwnedTupleGo target it v
   assign target env v
   let mut ok:=true
   for c in ifs do
    if ok then ok ← isTrue c env (eval c env)
   if ok then
    (do let v ← eval elt env;standAt elt.pos;let _ ← call (.builtin "set.add") [acc,v])
   again (.compLoop (.SetComp elt [⟨target,iter,ifs,0⟩] scope pos) 0 it acc env)):=by rfl
section
variable {prog:Program}{w:World}{A:Around}{R:Result→Shared→Prop}{s:Shared}
theorem ymo {elt target iter ifs scope pos it acc env}
 (h0:codeAny (model prog w) A (.compLoop (.SetComp elt [⟨target,iter,ifs,0⟩] scope pos) 0 it acc env) R s)
 (h:wpAny (model prog w) A (pyIter it) (fun it' s'=>codeAny (model prog w) A (.compLoop (.SetComp elt [⟨target,iter,ifs,0⟩] scope pos) 0 it' acc env) R s') (notedBy (model prog w) A env fun x s'=>R (.error x) s') s) :
 codeAny (model prog w) A (.compStart (.SetComp elt [⟨target,iter,ifs,0⟩] scope pos) 0 it acc env) R s:=by
 refine codeAny_of_tree ?_
 show wpAny _ _ ((compStart (.SetComp elt [⟨target,iter,ifs,0⟩] scope pos) 0 it acc env).onRaise (fun x=>do noteFrame x env;standAt theWindowsPlace)) _ _ s
 refine wpAny_notedAt ?_
 unfold compStart
 show wpAny _ _ (ask >>= _) _ _ s
 refine zwb0 (wpAny_askSetting (wpAny_ite ?_))
 split
 ·first|exact zwb0 (zwp0 (zwp0 (And.intro rfl h0)))|exact zwp0 (And.intro rfl h0)
 ·refine zwb0 (wpAny_rule ?_)
  show wpAny _ _ (standAt iter.pos >>= _) _ _ s
  exact zwb0 (wpAny_standAt (zwb0 (wpAny_mono h (fun it' s' h'=>zwp0 (And.intro rfl h')) fun _ _ x=>x)))
end
section
variable {X:Cx}{N':List Str}{ix:List (Option Nat)}{scope:Scope}{elt tg iter:Expr}{ifs:List Expr}{pos:Pos}{wi:TI}{g:TG}{ti:TT}{te:TE}
def za0 (w:World)(ix:List (Option Nat))(wi:TI)(g:TG)(ti:TT)(te:TE):TE:=fun σ H Q=>wi σ H fun J H1=>∀D,H1 D=none→∃W:Nat→Nat→Hp→Prop,(∃m,W 0 m (upd H1 D (HS w D [])))∧∀i m H,W i m H→
 (J.stop i H∧Q (.ref D) H)∨(J.go i H∧∀x H',J.yld i H x H'→g x (yb1 ix σ) H' fun σ2 H2=>(∀(k:Nat) v,(yb1 ix σ)[k]? = some (some v)→σ2[k]? = some (some v))∧ti σ2 H2 fun b H3=>
  if b=true then te σ2 H3 fun y H4=>∃ns x,H4 D=some (HS w D ns)∧y = .int x∧ns.length+1<scanBound∧∃m',m' < m∧W (i+1) m' (upd H4 D (HS w D (if x∈ns then ns else ns++[x]))) else ∃m',m' < m∧W (i+1) m' H3)
theorem yry {X':Cx}{σ₀:St}{H:Hp}{s:Shared}{Q:VK}{it D:Addr}{fp:List Addr}{tn:Nat→Heap→Prop}{J:It}{W:Nat→Nat→Hp→Prop}{m0:Nat}(I:Inv X' [] σ₀ H s)(hcalm:X'.calm=true)(hxe:X'.xe=fun _ _=>False)
 (T:Turn X'.prog X'.w X'.K tg J fp it tn) (st:tn 0 s.heap) (hf:∀b∈fp,ygv X' [] H b) (hg:PG X' tg g) (hi:yow X' ifs ti) (he:PE X' elt te) (w0:W 0 m0 H)
 (turn:∀i m H,W i m H→(J.stop i H∧Q (.ref D) H)∨(J.go i H∧∀x H',J.yld i H x H'→g x σ₀ H' fun σ2 H2=>(∀(k:Nat) v,σ₀[k]? = some (some v)→σ2[k]? = some (some v))∧ti σ2 H2 fun b H3=>
  if b=true then te σ2 H3 fun y H4=>∃ns x,H4 D=some (HS X'.w D ns)∧y = .int x∧ns.length+1<scanBound∧∃m',m' < m∧W (i+1) m' (upd H4 D (HS X'.w D (if x∈ns then ns else ns++[x]))) else ∃m',m' < m∧W (i+1) m' H3)) :
 codeAny (model X'.prog X'.w) X'.A (.compStart (.SetComp elt [⟨tg,iter,ifs,0⟩] scope pos) 0 (.ref it) (.ref D) X'.env) (fun r s'=>(∃f,r = .ok f)∧∃H',Inv X' [] σ₀ H' s'∧Q (.ref D) H') s:=by
 have stat:∀{H':Hp},(∀b∈fp,H' b=none)→∀b∈fp,ygv X' [] H' b:=fun hn b hb=>⟨hn b hb,(hf b hb).2⟩
 have loop:codeAny (model X'.prog X'.w) X'.A (.compLoop (.SetComp elt [⟨tg,iter,ifs,0⟩] scope pos) 0 (.ref it) (.ref D) X'.env) (fun r s'=>(∃f,r = .ok f)∧∃H',Inv X' [] σ₀ H' s'∧Q (.ref D) H') s:=by
  refine codeAny_loop rfl (fun n s'=>∃i H',Inv X' [] σ₀ H' s'∧tn i s'.heap∧(∀b∈fp,H' b=none)∧W i n H') ?_ m0 ⟨0,H,I,st,fun b hb=>(hf b hb).1,w0⟩
  rintro n s1 ⟨i,H1,I1,st1,fr1,w1⟩
  show wpAny _ X'.A ((compTurn (.SetComp elt [⟨tg,iter,ifs,0⟩] scope pos) 0 (.ref it) (.ref D) X'.env).onRaise (fun x=>do noteFrame x X'.env;theTreesLotGoes x)) _ _ s1
  refine wpAny_noted ?_
  have noE:∀{α:Type}{t:Sem α}{P:α→Shared→Prop}{F:Value→Shared→Prop}{s:Shared},wpAny (model X'.prog X'.w) X'.A t P X'.xe s→wpAny (model X'.prog X'.w) X'.A t P F s:=fun h=>wpAny_mono h (fun _ _ x=>x) fun e s' x=>by rw[hxe] at x;exact x.elim
  rw[yob]
  refine zwb0 (wpAny_standAt (zwb0 ?_))
  rcases turn i n H1 w1 with ⟨stop,qn⟩ | ⟨go,step⟩
  ·refine thn (T.done X' rfl rfl rfl hcalm i [] s1 σ₀ H1 _ I1 (stat fr1) st1 stop) fun r s2 ⟨hr,I2⟩=>?_
   subst hr
   exact zwp0 ⟨⟨_,rfl⟩,H1,I2,qn⟩
  ·refine thn (T.item X' rfl rfl rfl hcalm i [] s1 σ₀ H1 _ I1 (stat fr1) st1 go) fun r s2 ⟨u,hr,h2⟩=>?_
   subst hr
   refine zwb0 (thn h2 fun _ s3 ⟨x,H3,I3,r3,y3,st3,fr3⟩=>?_)
   have I3':=I3.pinned (stat fr3) (T.obj _ _ st3)
   refine zwb0 (noE (thn (hg _ s3 σ₀ H3 x u _ I3' r3 (step x H3 y3)) fun _ s4 ⟨σ4,H4,I4,hk4,q4⟩=>?_))
   refine zwb0 (noE (thn (hi _ s4 σ4 H4 _ I4 q4) fun ok s5 ⟨H5,I5,q5⟩=>?_))
   have again':∀{s7:Shared}{H7:Hp}{m':Nat},Inv X' ([]++yg5 fp s3.heap) σ4 H7 s7→m' < n→W (i+1) m' H7→∃m,m<n∧∃i H',Inv X' [] σ₀ H' s7∧tn i s7.heap∧(∀b∈fp,H' b=none)∧W i m H':=fun {s7 H7 m'} I7 hm w7=>by
    refine⟨m',hm,i+1,H7,I7.unpinned.weak (by rw[I3.len,I7.len]) hk4,T.keep _ _ _ st3 fun b hb o e=>(I7.pin (b,o) (List.mem_append_right _ (List.mem_append_right _ (ybu hb e)))).1,fun b hb=>?_,w7⟩
    obtain ⟨o,e,d⟩:=T.obj _ _ st3 b hb
    exact(I7.pin (b,o) (List.mem_append_right _ (List.mem_append_right _ (ybu hb e)))).2.1
   cases ok with
   |false=>
    obtain ⟨m',hm,w7⟩:=q5
    exact zwp0 ⟨rfl,again' I5 hm w7⟩
   |true=>
    refine zwb0 (zwb0 (noE (thn (he _ s5 σ4 H5 _ I5 q5) fun y s6 ⟨yv,H6,I6,r6,ns,x6,hD,ey,hz,m',hm,w7⟩=>?_)))
    subst ey
    obtain ⟨tx,rfl⟩:=r6
    refine zwb0 (wpAny_standAt (zwb0 ?_))
    exact zcd I6 hD hz fun s8 I8=>zwp0 (zwp0 ⟨rfl,again' I8 hm w7⟩)
 refine ymo loop (T.self _ 0 s _ _ st loop)
theorem ypr {pins:List (Addr×Obj)}{σ:St}{H:Hp}{s:Shared}{Q:VK}{it:Addr}{fp:List Addr}{tn:Nat→Heap→Prop}{J:It}{E:Value→Shared→Prop}(I:Inv X pins σ H s)(hcalm:X.calm=true)(S:CompScope X N' ix scope)
 (T:Turn X.prog X.w X.K tg J fp it tn) (st:tn 0 s.heap) (hf:∀b∈fp,ygv X pins H b)
 (hg:∀C s H fp,PG (ya4 X N' scope C s H fp) tg g) (hi:∀C s H fp,yow (ya4 X N' scope C s H fp) ifs ti) (he:∀C s H fp,PE (ya4 X N' scope C s H fp) elt te)
 (h:∀D,H D=none→∃W:Nat→Nat→Hp→Prop,(∃m,W 0 m (upd H D (HS X.w D [])))∧∀i m H,W i m H→
  (J.stop i H∧Q (.ref D) H)∨(J.go i H∧∀x H',J.yld i H x H'→g x (yb1 ix σ) H' fun σ2 H2=>(∀(k:Nat) v,(yb1 ix σ)[k]? = some (some v)→σ2[k]? = some (some v))∧ti σ2 H2 fun b H3=>
   if b=true then te σ2 H3 fun y H4=>∃ns x,H4 D=some (HS X.w D ns)∧y = .int x∧ns.length+1<scanBound∧∃m',m' < m∧W (i+1) m' (upd H4 D (HS X.w D (if x∈ns then ns else ns++[x]))) else ∃m',m' < m∧W (i+1) m' H3)) :
 wpAny (model X.prog X.w) X.A (newSet (.type "set")) (fun acc s3=>wpAny (model X.prog X.w) X.A (newFunctionEnv scope X.env.globals (yhp X.env scope.names []) [] X.env.qual none .none (some X.env)) (fun cenv s4 =>
  codeAny (model X.prog X.w) X.A (.compStart (.SetComp elt [⟨tg,iter,ifs,0⟩] scope pos) 0 (.ref it) acc { cenv with scope:=relabel scope X.env }) (ylx X pins σ Q acc cenv.locals) s4) E s3) E s:=by
 refine yy3 (w:=X.w) fun h3 kk hsz S3=>?_
 have fresh0:H s.heap.objs.size=none:=I.hok.fresh (Nat.le_refl _)
 obtain ⟨W,⟨m0,w0⟩,turn⟩:=h s.heap.objs.size fresh0
 have lt0:∀b∈fp,b<s.heap.objs.size:=fun b hb=>by obtain ⟨o,e,_⟩:=T.obj 0 _ st b hb;exact Heap.lt_size e
 generalize hD:s.heap.objs.size=D at *
 have I3:Inv X pins σ (upd H D (HS X.w D [])) { s with heap:=h3 }:=I.laid (a:=D) (o:=HS X.w D []) (t':=s.toks) kk (Nat.le_of_eq hD) (zay S3)
 have hf3:∀b∈fp,ygv X pins (upd H D (HS X.w D [])) b:=fun b hb=>by
  obtain ⟨f0,fr⟩:=hf b hb
  exact⟨by rw[yal (Nat.ne_of_lt (lt0 b hb))];exact f0,fr⟩
 have st3:tn 0 h3:=T.keep _ _ _ st fun b hb o e=>kk b o e
 have lt3:∀b∈fp,b<h3.objs.size:=fun b hb=>by obtain ⟨o,e,_⟩:=T.obj 0 _ st3 b hb;exact Heap.lt_size e
 refine wpAny_newFunctionEnv S.nocell (fun x hx=>nomatch hx) (fun h4 hns hsb=>?_) S.kind
 have k4:∀b o,h3.get? b=some o→h4.get? b=some o:=fun b o e=>(hsb.2 b (Nat.ne_of_lt (Heap.lt_size e))).trans (Heap.get?_push_of_some _ e)
 have J4:Inv (ya4 X N' scope h3.objs.size { s with heap:=h3 } (upd H D (HS X.w D [])) fp) [] (yb1 ix σ) (upd H D (HS X.w D [])) { s with heap:=h4,toks:=s.toks+([]:List (Str×Value)).length }:=
  yir (s:={ s with heap:=h3 }) (tk:=s.toks+([]:List (Str×Value)).length) I3 hcalm S hf3 lt3 hns k4
 have st4:tn 0 ({ s with heap:=h4,toks:=s.toks+([]:List (Str×Value)).length }:Shared).heap:=T.keep _ _ _ st3 fun b hb o e=>k4 b o e
 have fr4:∀b∈fp,upd H D (HS X.w D []) b=none:=fun b hb=>(hf3 b hb).1
 revert J4 st4
 generalize ({ s with heap:=h4,toks:=s.toks+([]:List (Str×Value)).length }:Shared)=s4
 intro J4 st4
 have hf4:∀b∈fp,ygv (ya4 X N' scope h3.objs.size { s with heap:=h3 } (upd H D (HS X.w D [])) fp) [] (upd H D (HS X.w D [])) b:=fun b hb=>
  ⟨fr4 b hb,Nat.ne_of_lt (lt3 b hb),J4.ok.exfs b hb,.inl hb,fun x c e=>(J4.ok.exf b hb).2 x c e,fun p hp=>nomatch hp⟩
 refine codeAny_mono (yry (X':=ya4 X N' scope h3.objs.size { s with heap:=h3 } (upd H D (HS X.w D [])) fp) (Q:=Q) (D:=D) J4 rfl rfl T st4 hf4 (hg _ _ _ _) (hi _ _ _ _) (he _ _ _ _) w0 turn) fun r s' ⟨hr,H',J',q'⟩=>?_
 refine⟨D,H',rfl,hr,I3.call' J'.os J'.base J'.hok J'.bare fun b hb=>?_,?_,?_,q'⟩
 ·obtain ⟨_,f1,_,f3,f4,f5⟩:=hf3 b hb
  exact⟨f3,f1,f4,f5⟩
 ·exact I3.fpOk (H':=H') (Nat.le_refl _) J'.free
 ·obtain ⟨m,hn,_⟩:=J'.loc
  exact⟨m,hn⟩
theorem ymp (hcalm:X.calm=true)(S:CompScope X N' ix scope)(hit:PI X tg iter wi)
 (hg:∀C s H fp,PG (ya4 X N' scope C s H fp) tg g) (hi:∀C s H fp,yow (ya4 X N' scope C s H fp) ifs ti) (he:∀C s H fp,PE (ya4 X N' scope C s H fp) elt te)
 (hs:∀x,foldedSetIterable iter X.env x=pure x:=by intro _;rfl):PE X (.SetComp elt [⟨tg,iter,ifs,0⟩] scope pos) (za0 X.w ix wi g ti te):=by
 intro pins s σ H Q I h
 show wpAny _ X.A (comprehension (.SetComp elt [⟨tg,iter,ifs,0⟩] scope pos) scope X.env _ (newSet (.type "set")) false (eval iter X.env)) _ _ s
 refine wpAny_comprehension_free (use:=none) rfl hs (yd7 I S) S.kind S.loc (thn (hit pins s σ H _ I h) fun v s1 h1=>thn h1 fun itv s2 h2=>?_)
 obtain ⟨it,fp,tn,J,H2,rfl,I2,T,st2,f2,q2⟩:=h2
 refine thn (ypr (E:=X.xe) (elt:=elt) (iter:=iter) (pos:=pos) I2 hcalm S T st2 f2 hg hi he q2) fun acc s3 h3=>thn h3 fun cenv s4 h4=>codeAny_mono h4 fun r s' hr=>?_
 obtain ⟨D,H',rfl,⟨f,rfl⟩,I',⟨g0,g1,_,g3,g4,g5⟩,⟨m,hm⟩,q'⟩:=hr
 exact⟨m,hm,fun h' hsb=>⟨.ref D,H',I'.turned (t':=s'.toks) (fun b o hb e=>(hsb.2 b hb).trans e) g0 g1 g3 g4 g5,rfl,q'⟩⟩
end
theorem yh0 {α:Type}:∀{l:List α}{i:Nat} (hi:i<l.length),(l[i]::l.eraseIdx i).Perm l
 |x::r,0,_=>List.Perm.refl _
 |x::r,i+1,hi=>by
  have hi':i<r.length:=by simpa using hi
  have h:=yh0 hi'
  show (r[i]::x::r.eraseIdx i).Perm (x::r)
  exact(List.Perm.swap x r[i] _).trans (h.cons x)
theorem yy5 {α:Type}(next:Nat→Nat):∀(fuel k:Nat) (left:List α) (out:Array α),left.length=fuel→(pickOrder.go next fuel k left out).toList.Perm (out.toList++left):=by
 intro fuel
 induction fuel with
 |zero=>
  intro k left out h
  rw[List.length_eq_zero_iff.mp h,List.append_nil]
  exact List.Perm.refl _
 |succ n ih=>
  intro k left out h
  unfold pickOrder.go
  have hi:next k % left.length<left.length:=Nat.mod_lt _ (by omega)
  rw[List.getElem?_eq_getElem hi]
  dsimp only
  refine(ih _ _ _ (by rw[List.length_eraseIdx,if_pos hi];omega)).trans ?_
  rw[Array.toList_push,List.append_assoc]
  refine List.Perm.append_left _ ?_
  exact yh0 hi
theorem yjs {α:Type}(next:Nat→Nat)(xs:Array α):(pickOrder next xs).toList.Perm xs.toList:=by
 have:=yy5 next xs.size 0 xs.toList #[] (by simp)
 simpa [pickOrder] using this
section
variable {prog:Program}{w:World}{A:Around}{E:Value→Shared→Prop}{s:Shared}
theorem yoc {src:Source}{n:Nat}{Q:Nat→Shared→Prop}(hn:n≠0)(h:∀i d,i<n→Q i { s with drawn:=d }):wpAny (model prog w) A (choose src n) Q E s:=
 fun _ _ _=>⟨hn,h _ _ (Nat.mod_lt _ (Nat.pos_of_ne_zero hn))⟩
theorem yjt {α:Type}:∀(n:Nat) (xs:List α) (s:Shared) {Q:List α→Shared→Prop},xs.length=n→(∀ys d,ys.Perm xs→Q ys { s with drawn:=d })→wpAny (model prog w) A (drawOrder n xs) Q E s:=by
 intro n
 induction n with
 |zero=>
  intro xs s Q h q
  unfold drawOrder
  rw[List.length_eq_zero_iff.mp h] at q
  exact zwp0 (q [] s.drawn (List.Perm.refl _))
 |succ n ih=>
  intro xs s Q h q
  cases xs with
  |nil=>cases h
  |cons x r=>
   unfold drawOrder
   refine zwb0 (yoc (by simp) fun i d hi=>?_)
   rw[List.getElem?_eq_getElem hi]
   dsimp only
   refine zwb0 (ih _ _ (by rw[List.length_eraseIdx,if_pos hi];omega) fun ys d' hp=>zwp0 (q _ d' ?_))
   exact(hp.cons _).trans (yh0 hi)
end
theorem slot_set_iterator_next:Slot "set_iterator" "__next__" "set_iterator.__next__" :=
 .of (owner := "set_iterator") (n := "__next__") (by rw[typeLookup_type,builtinLookup_eq_fast];kernel_rfl) (by decide +kernel) (by decide +kernel) (by decide +kernel) (by first|exact .inl (by decide +kernel)|exact .inr (by decide +kernel)) (by rw[isSubtype_type];kernel_rfl)
theorem ydg:entryFor table "set_iterator.__next__" = some Builtin.«set_iterator.__next__»:=entryFor_of_tree (by kernel_rfl)
theorem ydm (a:Value):argsOk "set_iterator.__next__" ⟨[a],[]⟩:=by unfold argsOk;kernel_rfl
theorem yks:entryFor table "set.__iter__" = some Builtin.«frozenset.__iter__»:=entryFor_alias (by kernel_rfl) rfl (id' := "frozenset.__iter__") (by decide +kernel) (by kernel_rfl)
def yin (h:Heap) (I:Addr) (first:Value) (i:Nat) (a:Addr) (n ep:Nat):Prop:=h.get? I=some { cls:=.type "set_iterator",data:=.fields #[first,.int i 0,.ref a,.int n 0,.int ep 0] }
inductive Way (w:World) (a:Addr) (es:Array (Int×Value)) (ep:Nat) (t:SetTable):List Value→(Nat→Heap→Value→Prop)→List Addr→Prop
 |led (h:byT w=false) (hl:t.led=true) (hp:(t.plain || decide (es.size≤1))=true):Way w a es ep t (es.toList.map (·.2)) (fun i _ f=>f=rawInt ((if i=0 then 0 else t.place.getD (i-1) 0+1:Nat):Int)) []
 |text (h:byT w=true):Way w a es ep t ((pickOrder (w.params.setOrder a ep) es).toList.map (·.2)) (fun _ _ f=>f=rawInt 0) []
 |drawn {ps:List Nat}{tp:Addr} (h:ps.Perm (List.range es.size)):Way w a es ep t (ps.filterMap fun i=>(es[i]?).map (·.2)) (fun _ hp f=>f = .ref tp∧∃o n,hp.get? tp=some o∧o.data = .seq (ps.map fun (i:Nat)=>rawInt i).toArray n) [tp]
theorem Way.perm {w:World}{a:Addr}{es:Array (Int×Value)}{ep:Nat}{t:SetTable}{vals:List Value}{F:Nat→Heap→Value→Prop}{ex:List Addr}(y:Way w a es ep t vals F ex):vals.Perm (es.toList.map (·.2)):=by
 cases y with
 |led=>exact List.Perm.refl _
 |text=>exact(yjs _ es).map _
 |drawn h=>
  refine(h.filterMap _).trans ?_
  have:(List.range es.size).filterMap (fun i=>(es[i]?).map (·.2))=es.toList.map (·.2):=by
   have e:=PySem.filterMap_getElem?_range es
   rw[← e,List.map_filterMap]
  rw[this]
section
variable {prog:Program}{w:World}{A:Around}{E:Value→Shared→Prop}{s:Shared}
theorem ywl {a:Addr}{o:Obj}{es:Array (Int×Value)}{ep:Nat}{t:SetTable}{Q:Value→Shared→Prop}(ho:s.heap.get? a=some o)(hex:o.ExactSet)(hd:o.data = .set es ep t)(hf:t.fits es.size=true)(hled:t.led = !byT w)(hb:es.size<scanBound)
 (h:∀I h' d vals F ex first,Way w a es ep t vals F ex→F 0 h' first→yin h' I first 0 a es.size ep→(∀b o,s.heap.get? b=some o→h'.get? b=some o)→s.heap.objs.size≤I→(∀b∈ex,s.heap.objs.size≤b∧b<I)→I<h'.objs.size→Q (.ref I) { s with heap:=h',drawn:=d }):wpAny (model prog w) A (pyIter (.ref a)) Q E s:=by
 have hT:s.TypeIs (.ref a) "set" := ⟨o,ho,hex.1⟩
 refine wpAny_pyIter_slot hT PySem.F.slot_set_iter (wpAny_call_entry PySem.F.slot_set_iter hT yks ?_ (PySem.F.args_set_iter_1 _))
 unfold Builtin.«frozenset.__iter__» Builtin.Frozenset.slot0 slotArgs
 simp only[List.isEmpty_nil,Bool.not_true,Bool.false_eq_true,↓reduceIte,bind_assoc,List.length_nil,bne_self_eq_false]
 unfold Builtin.Frozenset.addrOf Builtin.Frozenset.sizeOf
 refine zwb0 (zwp0 (zwb0 (zwp0 (zwb0 (zwb0 (wpAny_setEntries_of ho hd hf (zwp0 ?_)))))))
 refine zwb0 ?_
 unfold setDrawn setsByText
 refine zwb0 (wpAny_setState_of ho hd hf ?_)
 dsimp only
 refine zwb0 (zwb0 (wpAny_askSetting (zwp0 (zwp0 ?_))))
 have fin:∀(first:Value) (s1:Shared) (d:Drawn) (h1:Heap),s1 = { s with heap:=h1,drawn:=d }→(∀b o,s.heap.get? b=some o→h1.get? b=some o)→(∀I h',I=h1.objs.size→(∀b o,h1.get? b=some o→h'.get? b=some o)→yin h' I first 0 a es.size ep→I<h'.objs.size→Q (.ref I) { s with heap:=h',drawn:=d })→
  wpAny (model prog w) A.in1 (do let e ← setEpoch a;let x ← newFields "set_iterator" [first,rawInt 0,Value.ref a,rawInt es.size,rawInt e];ret x) (fun fin s'=>∃v,fin=Fin.done (Flow.ret v)∧∃T' r,s'.TypeIs v T'∧typeLookup (Value.type T') (Str.ofString "__next__")=pure (some r)∧Q v s') E s1:=by
  intro first s1 d h1 e1 k1 q
  subst e1
  refine zwb0 (wpAny_setEpoch_of (k1 _ _ ho) hd hf ?_)
  refine zwb0 (wpAny_newObj_type (zwp0 ⟨_,rfl,"set_iterator",_,⟨_,Heap.get?_push_size _ rfl,rfl⟩,slot_set_iterator_next.lookup,?_⟩))
  exact q h1.objs.size _ rfl (fun b o e=>Heap.get?_push_of_some _ e) (Heap.get?_push_size _ rfl) (by rw[Heap.size_push];exact Nat.lt_succ_self _)
 split
 ·rename_i c0
  refine zwb0 (yjt _ _ _ (List.length_range ..) fun ys d hp=>?_)
  have hlen:ys.length=es.size:=by rw[hp.length_eq,List.length_range]
  refine zwb0 (wpAny_newTuple ?_ (by rw[List.length_map,hlen];exact fits_of_scanBound hb))
  refine fin _ _ d (s.heap.push { cls:=.type "tuple",data:=.seq (ys.map fun (i:Nat)=>rawInt i).toArray }) rfl (fun b o e=>Heap.get?_push_of_some _ e) fun I h' eI kI si lI=>?_
  have sz:=Heap.size_push s.heap ({ cls:=.type "tuple",data:=.seq (ys.map fun (i:Nat)=>rawInt i).toArray }:Obj)
  refine h I h' d _ _ _ _ (.drawn (tp:=s.heap.objs.size) hp) ⟨rfl,_,_,kI _ _ (Heap.get?_push_size _ rfl),rfl⟩ si (fun b o e=>kI _ _ (Heap.get?_push_of_some _ e)) (by omega) (fun b hb=>?_) lI
  rw[List.mem_singleton.mp hb]
  exact⟨Nat.le_refl _,by rw[eI];exact Nat.lt_of_lt_of_eq (Nat.lt_succ_self _) sz.symm⟩
 ·rename_i c0
  have c:¬ (!byT w&&(!t.plain&&decide (es.size > 1)))=true:=c0
  refine zwb0 (zwp0 ?_)
  refine fin _ _ s.drawn s.heap rfl (fun b o e=>e) fun I h' eI kI si lI=>?_
  cases bt:byT w with
  |true=>exact h I h' s.drawn _ _ _ _ (.text bt) rfl si kI (by omega) (fun b hb=>by cases hb) lI
  |false=>
   refine h I h' s.drawn _ _ _ _ (.led bt (by rw[hled,bt];rfl) ?_) rfl si kI (by omega) (fun b hb=>by cases hb) lI
   rw[bt] at c
   cases hp:t.plain with
   |true=>rfl
   |false=>
    rw[hp] at c
    have:¬ es.size > 1:=fun z=>c (by simp [z])
    simp
    omega
end
theorem yrz {place:Array Nat}(h:yrw place){i:Nat}(hi:i≤place.size):SetTable.below place (if i=0 then 0 else place.getD (i-1) 0+1)=i:=by
 obtain ⟨b1,b2,b3⟩:=yqw h (if i=0 then 0 else place.getD (i-1) 0+1)
 generalize SetTable.below place (if i=0 then 0 else place.getD (i-1) 0+1)=b at *
 by_cases c:i=0
 ·rw[if_pos c] at b2
  by_cases z:b=0
  ·omega
  ·have:=b2 0 (by omega) (by omega)
   omega
 ·rw[if_neg c] at b2 b3
  have hm:i-1<place.size:=by omega
  have eg:place.getD (i-1) 0=place[i-1]:=by rw[Array.getD_eq_getD_getElem?,Array.getElem?_eq_getElem hm];rfl
  rw[eg] at b2 b3
  rcases Nat.lt_trichotomy b i with z|z|z
  ·have:=b3 (i-1) hm (by omega)
   omega
  ·exact z
  ·have h1:=b2 i (by omega) z
   have h2:=h (i-1) i hm (by omega) (by omega)
   omega
section
variable {prog:Program}{w:World}{A:Around}{E:Value→Shared→Prop}{s:Shared}
def yy6 (w:World)(h:Heap)(a:Addr)(es:Array (Int×Value))(ep:Nat)(t:SetTable):Prop:=(∃o,h.get? a=some o∧o.data = .set es ep t)∧t.fits es.size=true∧yrw t.place
theorem yqy {a:Addr}{es:Array (Int×Value)}{ep i g e':Nat}{t:SetTable}{Q:Option (Value×Nat)→Shared→Prop}(hS:yy6 w s.heap a es ep t)(bt:byT w=false)(hl:t.led=true)(hp:(t.plain || decide (es.size≤1))=true)(hi:i≤es.size)
 (h1:∀hlt:i<es.size,Q (some (es[i].2,t.place.getD i 0+1)) s) (h2:i=es.size→Q none s):wpAny (model prog w) A (setNext a (if i=0 then 0 else t.place.getD (i-1) 0+1) g e') Q E s:=by
 obtain ⟨⟨o,ho,hd⟩,hf,hr⟩:=hS
 have hz:t.place.size=es.size:=by
  simp only[SetTable.fits,Bool.and_eq_true,beq_iff_eq] at hf
  exact hf.1
 unfold setNext setsByText
 refine zwb0 (wpAny_setState_of ho hd hf ?_)
 dsimp only
 refine zwb0 (zwb0 (wpAny_askSetting (zwp0 ?_)))
 have bt':¬ (⟨(model prog w).prog,(model prog w).w.params⟩ : Setting).params.followText "set-order" = true:=fun z=>by have:byT w=true:=z;rw[bt] at this;cases this
 rw[if_neg bt']
 split
 ·rename_i c0
  have c:(!t.plain&&decide (es.size > 1))=true:=c0
  simp only[Bool.and_eq_true,Bool.not_eq_true',decide_eq_true_eq] at c
  rw[c.1] at hp
  simp at hp
  omega
 ·refine zwb0 ?_
  show wpAny _ _ (if (!t.led && !es.isEmpty)=true then unsupported "set:maker-not-led" else pure ()) _ _ s
  rw[if_neg (by rw[hl];simp)]
  refine zwp0 ?_
  rw[yrz hr (by omega)]
  by_cases c:i<es.size
  ·rw[Array.getElem?_eq_getElem c,Array.getElem?_eq_getElem (by omega)]
   have e1:t.place.getD i 0=t.place[i]'(by omega):=by rw[Array.getD_eq_getD_getElem?,Array.getElem?_eq_getElem (by omega)];rfl
   rw[e1] at h1
   exact zwp0 (h1 c)
  ·rw[Array.getElem?_eq_none (by omega)]
   exact zwp0 (h2 (by omega))
theorem yod {a:Addr}{es:Array (Int×Value)}{ep i sl:Nat}{t:SetTable}{Q:Option (Value×Nat)→Shared→Prop}(hS:yy6 w s.heap a es ep t)(bt:byT w=true)(h:Q (((pickOrder (w.params.setOrder a ep) es)[i]?).map fun e=>(e.2,sl)) s):wpAny (model prog w) A (setNext a sl i ep) Q E s:=by
 obtain ⟨⟨o,ho,hd⟩,hf,hr⟩:=hS
 unfold setNext setsByText
 refine zwb0 (wpAny_setState_of ho hd hf ?_)
 dsimp only
 refine zwb0 (zwb0 (wpAny_askSetting (zwp0 ?_)))
 have bt':(⟨(model prog w).prog,(model prog w).w.params⟩ : Setting).params.followText "set-order" = true:=bt
 rw[if_pos bt',if_neg (by simp)]
 refine zwb0 ?_
 first|refine zwp0 ?_|skip
 unfold setWalk setsByText
 refine zwb0 (wpAny_setState_of ho hd hf ?_)
 dsimp only
 refine zwb0 (zwb0 (wpAny_askSetting (zwp0 ?_)))
 rw[if_pos bt']
 exact zwb0 (wpAny_askSetting (zwp0 (zwp0 h)))
theorem yr0 {a:Addr}{es:Array (Int×Value)}{ep k:Nat}{t:SetTable}{Q:Value→Shared→Prop}(hS:yy6 w s.heap a es ep t)(hk:k<es.size)(h:Q es[k].2 s):wpAny (model prog w) A (setNextDrawn a k ep) Q E s:=by
 obtain ⟨⟨o,ho,hd⟩,hf,hr⟩:=hS
 unfold setNextDrawn
 refine zwb0 (wpAny_setState_of ho hd hf ?_)
 dsimp only
 rw[if_neg (by simp),Array.getElem?_eq_getElem hk]
 exact zwp0 h
theorem ywm {I a:Addr}{es:Array (Int×Value)}{ep:Nat}{t:SetTable}{vals:List Value}{F:Nat→Heap→Value→Prop}{ex:List Addr}{first:Value}{i:Nat}{Q:Option Value→Shared→Prop}(y:Way w a es ep t vals F ex)(hS:yy6 w s.heap a es ep t)(hit:yin s.heap I first i a es.size ep)(hF:F i s.heap first)(nI:∀b∈ex,b≠I)(naI:a≠I)(hi:i<es.size)
 (hQ:∀h' first' v,vals[i]? = some v→yin h' I first' (i+1) a es.size ep→F (i+1) h' first'→(∀b o,b≠I→s.heap.get? b=some o→h'.get? b=some o)→Q (some v) { s with heap:=h' }):wpAny (model prog w) A (pyNext (.ref I)) Q E s:=by
 obtain ⟨⟨o,ho,hd⟩,hf,hr⟩:=id hS
 have hT:s.TypeIs (.ref I) "set_iterator" := ⟨_,hit,rfl⟩
 unfold pyNext
 refine zwb0 (wpAny_attempt (wpAny_callSpecial?_slot (name:=Str.ofString "__next__") hT slot_set_iterator_next (wpAny_call_entry slot_set_iterator_next hT ydg ?_ (ydm _))))
 unfold Builtin.«set_iterator.__next__»
 refine zwb0 (zwp0 ?_)
 refine zwb0 (wpAny_fieldsOf hit rfl ?_)
 dsimp only
 refine zwb0 (wpAny_setEntries_of ho hd hf ?_)
 rw[if_neg (by simp)]
 have set0:∀{h1:Heap}{f:Value}{k:Nat} (v:Value) {R:Unit→Shared→Prop}{E':Value→Shared→Prop},yin h1 I f k a es.size ep→(∀h2,yin h2 I v k a es.size ep→Heap.SameBut I h1 h2→R () { s with heap:=h2 })→wpAny (model prog w) A.in1 (setField (.ref I) 0 v) R E' { s with heap:=h1 }:=fun {h1 f k} v {R E'} x q=>wpAny_setField_rec x (by simp) fun h2 x2 y2=>q h2 x2 y2
 have set1:∀{h1:Heap}{f:Value}{k:Nat}{R:Unit→Shared→Prop}{E':Value→Shared→Prop},yin h1 I f k a es.size ep→(∀h2,yin h2 I f (k+1) a es.size ep→Heap.SameBut I h1 h2→R () { s with heap:=h2 })→wpAny (model prog w) A.in1 (setField (.ref I) 1 (rawInt ((k:Int)+1))) R E' { s with heap:=h1 }:=fun {h1 f k R E'} x q=>wpAny_setField_rec x (by simp) fun h2 x2 y2=>q h2 (by
  unfold yin
  rw[show ((k+1:Nat):Int)=(k:Int)+1 from by omega]
  simpa [rawInt] using x2) y2
 cases y with
 |led bt hl hp=>
  have hF':first=rawInt (if i=0 then 0 else t.place.getD (i-1) 0+1:Nat):=hF
  subst hF'
  show wpAny _ _ (do let r ← setNext a ((if i=0 then 0 else t.place.getD (i-1) 0+1:Nat):Int).toNat (i:Int).toNat (ep:Int).toNat;_) _ _ s
  rw[Int.toNat_natCast,Int.toNat_natCast,Int.toNat_natCast]
  refine zwb0 (yqy hS bt hl hp (Nat.le_of_lt hi) (fun hlt=>?_) fun z=>absurd z (by omega))
  dsimp only
  refine zwb0 (set0 _ hit fun h2 x2 y2=>zwb0 (set1 x2 fun h3 x3 y3=>?_))
  refine zwp0 ⟨_,rfl,zwp0 (hQ h3 _ _ ?_ x3 ?_ fun b o hb e=>y3.extBut b o hb (y2.extBut b o hb e))⟩
  ·rw[List.getElem?_map,Array.getElem?_toList,Array.getElem?_eq_getElem hi];rfl
  ·show rawInt _=rawInt _
   rw[if_neg (by omega),Nat.add_sub_cancel]
 |text bt=>
  have hF':first=rawInt 0:=hF
  subst hF'
  show wpAny _ _ (do let r ← setNext a (0:Int).toNat (i:Int).toNat (ep:Int).toNat;_) _ _ s
  rw[Int.toNat_natCast,Int.toNat_natCast]
  refine zwb0 (yod hS bt ?_)
  have hz:(pickOrder (w.params.setOrder a ep) es).size=es.size:=by rw[← Array.length_toList,(yjs _ es).length_eq,Array.length_toList]
  rw[Array.getElem?_eq_getElem (by omega)]
  dsimp only [Option.map]
  refine zwb0 (set0 _ hit fun h2 x2 y2=>zwb0 (set1 x2 fun h3 x3 y3=>?_))
  refine zwp0 ⟨_,rfl,zwp0 (hQ h3 _ _ ?_ x3 rfl fun b o hb e=>y3.extBut b o hb (y2.extBut b o hb e))⟩
  rw[List.getElem?_map,Array.getElem?_toList,Array.getElem?_eq_getElem (by omega)];rfl
 |@drawn ps tp hp=>
  obtain ⟨rfl,ot,nt,h1,h2⟩:=hF
  dsimp only
  refine zwb0 ?_
  unfold seqItems?
  refine zwb0 (wpAny_load h1 ?_)
  rw[h2]
  refine zwp0 ?_
  dsimp only
  have hl:ps.length=es.size:=by rw[hp.length_eq,List.length_range]
  rw[Int.toNat_natCast,List.getElem?_toArray,List.getElem?_map,List.getElem?_eq_getElem (by omega)]
  have hk:ps[i]'(by omega)<es.size:=List.mem_range.mp (hp.mem_iff.mp (List.getElem_mem _))
  dsimp only [Option.map,rawInt]
  rw[Int.toNat_natCast,Int.toNat_natCast]
  refine zwb0 (yr0 hS hk ?_)
  refine zwb0 (set1 hit fun h3 x3 y3=>?_)
  refine zwp0 ⟨_,rfl,zwp0 (hQ h3 _ _ ?_ x3 ⟨rfl,ot,nt,y3.extBut _ _ (nI tp (by simp)) h1,h2⟩ fun b o hb e=>y3.extBut b o hb e)⟩
  have all:∀(l:List Nat),(∀k∈l,k<es.size)→l.filterMap (fun k=>(es[k]?).map (·.2))=l.map fun k=>(es.getD k (0,.none)).2:=by
   intro l
   induction l with
   |nil=>intro _;rfl
   |cons x r ih=>
    intro h
    have hx:=h x (.head _)
    rw[List.filterMap_cons,Array.getElem?_eq_getElem hx,Option.map_some]
    show es[x].2::_=_
    rw[ih fun k hk=>h k (.tail _ hk),List.map_cons,Array.getD_eq_getD_getElem?,Array.getElem?_eq_getElem hx]
    rfl
  rw[all ps fun k hk'=>List.mem_range.mp (hp.mem_iff.mp hk'),List.getElem?_map,List.getElem?_eq_getElem (by omega)]
  show some (es.getD (ps[i]'(by omega)) (0,.none)).2=_
  rw[Array.getD_eq_getD_getElem?,Array.getElem?_eq_getElem hk]
  rfl
theorem yy7 {I a:Addr}{es:Array (Int×Value)}{ep:Nat}{t:SetTable}{vals:List Value}{F:Nat→Heap→Value→Prop}{ex:List Addr}{first:Value}{Q:Option Value→Shared→Prop}(hh:A.handled=none)(y:Way w a es ep t vals F ex)(hS:yy6 w s.heap a es ep t)(hit:yin s.heap I first es.size a es.size ep)(hF:F es.size s.heap first)
 (hQ:∀h',(∀b o,b≠I→s.heap.get? b=some o→h'.get? b=some o)→Q none { s with heap:=h' }):wpAny (model prog w) A (pyNext (.ref I)) Q E s:=by
 obtain ⟨⟨o,ho,hd⟩,hf,hr⟩:=id hS
 have hT:s.TypeIs (.ref I) "set_iterator" := ⟨_,hit,rfl⟩
 unfold pyNext
 refine zwb0 (wpAny_attempt (wpAny_callSpecial?_slot (name:=Str.ofString "__next__") hT slot_set_iterator_next (wpAny_call_entry slot_set_iterator_next hT ydg ?_ (ydm _))))
 unfold Builtin.«set_iterator.__next__»
 refine zwb0 (zwp0 ?_)
 refine zwb0 (wpAny_fieldsOf hit rfl ?_)
 dsimp only
 refine zwb0 (wpAny_setEntries_of ho hd hf ?_)
 rw[if_neg (by simp)]
 have stop:∀(h1:Heap),(∃vs,h1.get? I=some { cls:=.type "set_iterator",data:=.fields vs }∧2<vs.size)→(∀b o,b≠I→s.heap.get? b=some o→h1.get? b=some o)→wpAny (model prog w) A.in1 (do setField (.ref I) 2 .none;let x ← newExc (.type "StopIteration") [];raiseNew x) (fun fin s'=>∃v,fin=Fin.done (Flow.ret v)∧wpAny (model prog w) A (pure (some v)) Q E s')
  (fun e s'=>wpAny (model prog w) A (do let b ← isInstance e (.type "StopIteration");if b=true then pure none else throw e) Q E s') { s with heap:=h1 }:=by
  rintro h1 ⟨vs,e1,e2⟩ k1
  refine zwb0 (wpAny_setField e1 rfl e2 ?_)
  refine zwb0 ?_
  simp only[newExc,newTuple]
  refine zwb0 (wpAny_newObj_type ?_ (by size_fits))
  refine zwb0 (m:=firstArgMember _ _) (wpAny_of_eq (a:=Value.none) (by first|rfl|(simp only[firstArgMember];rfl)) ?_)
  refine wpAny_newObj_type ?_ (by size_fits)
  simp only[raiseNew]
  refine zwb0 (wpAny_handled ?_)
  rw[show A.in1.handled=none from hh]
  refine zwb0 (zwp0 (wpAny_throw ?_))
  refine zwb0 (wpAny_isInstance (b:=true) (T := "StopIteration") ⟨_,Heap.get?_push_size _ rfl,rfl⟩ isSubtype_stop ?_)
  have u:=((Heap.SameBut.update h1 I (Obj.mapFields (·.setIfInBounds 2 Value.none))).extBut.push ({ cls:=.type "tuple",data:=.seq ([]:List Value).toArray }:Obj))
  exact zwp0 (hQ _ fun b o hb e=>Heap.get?_push_of_some _ (u b o hb (k1 b o hb e)))
 cases y with
 |led bt hl hp=>
  have hF':first=rawInt (if es.size=0 then 0 else t.place.getD (es.size-1) 0+1:Nat):=hF
  subst hF'
  show wpAny _ _ (do let r ← setNext a ((if es.size=0 then 0 else t.place.getD (es.size-1) 0+1:Nat):Int).toNat (es.size:Int).toNat (ep:Int).toNat;_) _ _ s
  rw[Int.toNat_natCast,Int.toNat_natCast,Int.toNat_natCast]
  refine zwb0 (yqy hS bt hl hp (Nat.le_refl _) (fun hlt=>absurd hlt (Nat.lt_irrefl _)) fun _=>?_)
  exact stop s.heap ⟨_,hit,by simp⟩ fun b o _ e=>e
 |text bt=>
  have hF':first=rawInt 0:=hF
  subst hF'
  show wpAny _ _ (do let r ← setNext a (0:Int).toNat (es.size:Int).toNat (ep:Int).toNat;_) _ _ s
  rw[Int.toNat_natCast,Int.toNat_natCast]
  refine zwb0 (yod hS bt ?_)
  have hz:(pickOrder (w.params.setOrder a ep) es).size=es.size:=by rw[← Array.length_toList,(yjs _ es).length_eq,Array.length_toList]
  rw[Array.getElem?_eq_none (by omega)]
  exact stop s.heap ⟨_,hit,by simp⟩ fun b o _ e=>e
 |@drawn ps tp hp=>
  obtain ⟨rfl,ot,nt,h1,h2⟩:=hF
  dsimp only
  refine zwb0 ?_
  unfold seqItems?
  refine zwb0 (wpAny_load h1 ?_)
  rw[h2]
  refine zwp0 ?_
  dsimp only
  have hl:ps.length=es.size:=by rw[hp.length_eq,List.length_range]
  rw[Int.toNat_natCast,List.getElem?_toArray,List.getElem?_map,List.getElem?_eq_none (by omega)]
  dsimp only [Option.map]
  refine zwb0 (wpAny_setField_rec hit (by simp) fun h3 x3 y3=>?_)
  exact stop h3 ⟨_,x3,by simp⟩ fun b o hb e=>y3.extBut b o hb e
end
end L2
namespace L2
open PySem PySem.Spec PySem.W PyProof.Rows
variable {X:Cx}
def zdf (K:PySem.W.Frag):List V→Hp→VK→Prop:=fun xs H Q=>∃(p:Addr) (ns:List Int),xs=[.ref p]∧SqL K H p (ns.map V.int)∧0<ns.length∧∀M,M∈ns→(∀a∈ns,M≤a)→Q (.int M) H
theorem yuj (hc:X.calm=true):ygw X (.builtin "min") (zdf X.K):=by
 intro pins s σ H xs us Q I r h
 obtain ⟨p,ns,rfl,hq,hne,q⟩:=h
 obtain ⟨u,rfl,ru⟩:=r.one
 cases ru
 obtain ⟨its,rv,pl,hz⟩:=I.list hq
 have ia:=yht rv
 obtain ⟨ys,ey⟩:=ia.allInts.items
 have hl:=pl.isList
 have e2:ns=ys.toList.map (·.1):=by rw[← ia.numsOf,← nums_intItems,← ey]
 have hsz:0<ys.size:=by rw[e2,List.length_map,Array.length_toList] at hne;exact hne
 rw[ey] at hl
 refine min_intList (I.ok.hd hc) hl hsz fun v h' tk hv hk=>?_
 obtain ⟨t,rfl⟩:=intItems_at hv
 obtain ⟨h1,h2⟩:=argBest_lt (numAt ys) (ys.size-1)
 refine⟨.int _,H,I.kept (t':=tk) hk,⟨t,rfl⟩,q _ ?_ fun a ha=>?_⟩
 ·rw[e2,numAt_eq];exact getD_mem (by rw[List.length_map,Array.length_toList];omega)
 ·rw[e2] at ha
  obtain ⟨j,hj,rfl⟩:=mem_getD ha
  rw[List.length_map,Array.length_toList] at hj
  rw[← numAt_eq];exact h2 j (by omega)
theorem yoe:isSubtype (.type "set") (.type "set")=pure true:=by rw[isSubtype_type];kernel_rfl
theorem ydn:Slot "set_iterator" "__iter__" "set_iterator.__iter__" :=
 .of (owner := "set_iterator") (n := "__iter__") (by rw[typeLookup_type,builtinLookup_eq_fast];kernel_rfl) (by decide +kernel) (by decide +kernel) (by decide +kernel) (by first|exact .inl (by decide +kernel)|exact .inr (by decide +kernel)) (by rw[isSubtype_type];kernel_rfl)
theorem yfu:entryFor table "set_iterator.__iter__" = some Builtin.«dict_keyiterator.__iter__»:=entryFor_alias (by kernel_rfl) rfl (id' := "dict_keyiterator.__iter__") (by decide +kernel) (by kernel_rfl)
theorem yfy (a:Value):argsOk "set_iterator.__iter__" ⟨[a],[]⟩:=by unfold argsOk;kernel_rfl
def yy8:Value→Int
 |.int k _=>k
 |_=>0
theorem yqz:∀{l:List Value},(∀v∈l,∃k t,v = .int k t)→IntsAre l (l.map yy8)
 |[],_=>.nil
 |v::r,h=>by
  obtain ⟨k,t,rfl⟩:=h v (.head _)
  exact .cons k t (yqz fun u hu=>h u (.tail _ hu))
section
variable {prog:Program}{w:World}{A:Around}{E:Value→Shared→Prop}{s:Shared}
theorem Way.stay {a:Addr}{es:Array (Int×Value)}{ep:Nat}{t:SetTable}{vals:List Value}{F:Nat→Heap→Value→Prop}{ex:List Addr}(y:Way w a es ep t vals F ex){i:Nat}{h h':Heap}{f:Value}(hF:F i h f)(k:∀b∈ex,∀o,h.get? b=some o→h'.get? b=some o):F i h' f:=by
 cases y with
 |led=>exact hF
 |text=>exact hF
 |drawn hp=>
  obtain ⟨e,o,n,h1,h2⟩:=hF
  exact⟨e,o,n,k _ (by simp) o h1,h2⟩
theorem ywn (hh:A.handled=none){I a:Addr}{es:Array (Int×Value)}{ep:Nat}{t:SetTable}{vals:List Value}{F:Nat→Heap→Value→Prop}{ex:List Addr}(y:Way w a es ep t vals F ex)(nI:∀b∈ex,b≠I)(naI:a≠I) :
 WalksS prog w A I (I::a::ex) [I] Eq es.size (fun i v=>vals[i]? = some v) (fun i s=>yy6 w s.heap a es ep t∧∃first,yin s.heap I first i a es.size ep∧F i s.heap first) where
 sub:=fun b hb=>by rw[List.mem_singleton.mp hb];exact .head _
 grefl:=fun _=>rfl
 gtrans:=fun _ _ _ h1 h2=>h1.trans h2
 frame:=fun i s h' tk ⟨⟨⟨o,ho,hd⟩,r⟩,first,hi,hF⟩ _ k=>⟨⟨⟨o,k a (.tail _ (.head _)) o ho,hd⟩,r⟩,first,k I (.head _) _ hi,y.stay hF fun b hb o e=>k b (.tail _ (.tail _ hb)) o e⟩
 item:=fun i s Q E hi ⟨hS,first,hit,hF⟩ hQ=>ywm y hS hit hF nI naI hi fun h' f' v hv x1 x2 k=>by
  obtain ⟨⟨o,ho,hd⟩,r⟩:=hS
  exact hQ v _ hv ⟨⟨⟨o,k a o naI ho,hd⟩,r⟩,f',x1,x2⟩ ⟨fun b o hb e=>k b o (fun z=>hb (by rw[z];exact .head _)) e,rfl,rfl,rfl,Nat.le_refl _⟩
 done:=fun s Q E ⟨hS,first,hit,hF⟩ hQ=>yy7 hh y hS hit hF fun h' k=>hQ _ ⟨fun b o hb e=>k b o (fun z=>hb (by rw[z];exact .head _)) e,rfl,rfl,rfl,Nat.le_refl _⟩
 self:=fun i s Q E ⟨_,first,hit,_⟩ h=>by
  have hT:s.TypeIs (.ref I) "set_iterator" := ⟨_,hit,rfl⟩
  refine wpAny_pyIter_slot hT ydn (wpAny_call_entry ydn hT yfu ?_ (yfy _))
  show wpAny _ _ (ret (.ref I)) _ _ s
  exact zwp0 ⟨_,rfl,"set_iterator",_,hT,slot_set_iterator_next.lookup,h⟩
theorem yps {a:Addr}{ns:List Int}{Q:List Value→Shared→Prop}(hh:A.handled=none)(S:SetI w a ns s.heap)
 (hQ:∀vals ms h' d tk,IntsAre vals ms→ms.Perm ns→(∀b o,s.heap.get? b=some o→h'.get? b=some o)→s.toks≤tk→Q vals { s with heap:=h',drawn:=d,toks:=tk }):wpAny (model prog w) A (collect (.ref a)) Q E s:=by
 obtain ⟨o,es,ep,t,ho,hex,hd,hel,hpm,hb,hf,hled,hrise⟩:=id S
 have hSa:s.heap.objs.size≠a:=Nat.ne_of_gt (Heap.lt_size ho)
 have hT:s.TypeIs (.ref a) "set" := ⟨o,ho,hex.1⟩
 unfold collect
 refine zwb0 (wpAny_runValue (codeAny_builtin PySem.F.entry_proto_collect ?_))
 rw[Around.under_plainId PySem.F.plain_proto_collect _]
 show wpAny _ A.in1 (newList [] >>= fun l=>again (.builtin "list.__iadd__" ⟨[l,.ref a],[]⟩)) _ _ s
 refine zwb0 (wpAny_newObj_type ?_)
 refine zwp0 ⟨plainId_quiet PySem.F.plain_list_iadd _,codeAny_builtin PySem.F.entry_list_iadd ?_⟩
 rw[Around.under_plainId PySem.F.plain_list_iadd _]
 have hS1:(s.heap.push { cls:=.type "list",data:=.seq ([]:List Value).toArray }).get? s.heap.objs.size=some { cls:=.type "list",data:=.seq ([]:List Value).toArray }:=Heap.get?_push_size _ rfl
 have k1:∀b o,s.heap.get? b=some o→(s.heap.push { cls:=.type "list",data:=.seq ([]:List Value).toArray }).get? b=some o:=fun b o e=>Heap.get?_push_of_some _ e
 have z1:(s.heap.push { cls:=.type "list",data:=.seq ([]:List Value).toArray }).objs.size=s.heap.objs.size+1:=Heap.size_push ..
 show wpAny _ A.in1 (Builtin.List.listExtendWith (.ref s.heap.objs.size) (.ref a) (.ref s.heap.objs.size)) _ _ _
 generalize s.heap.push { cls:=.type "list",data:=.seq ([]:List Value).toArray } = h1 at *
 generalize hL:s.heap.objs.size=L at *
 have ho1:=k1 _ _ ho
 unfold Builtin.List.listExtendWith
 refine zwb0 (wpAny_typeOf (s:={ s with heap:=h1 }) ⟨o,ho1,hex.1⟩ ?_)
 rw[if_neg (by simp [Builtin.List.listSameRef,hSa])]
 refine zwb0 (ywl (s:={ s with heap:=h1 }) ho1 hex hd hf hled hb fun I h2 d vals F ex first y hF hit k2 lI lex lt=>?_)
 refine zwb0 (wpAny_holding ?_)
 have ho2:=k2 _ _ ho1
 have hS2:=k2 _ _ hS1
 have hT2:Shared.TypeIs { s with heap:=h2,drawn:=d } (.ref a) "set" := ⟨o,ho2,hex.1⟩
 unfold Builtin.List.listLengthHint
 refine zwb0 (wpAny_specialOf hT2 PySem.F.slot_set_len.lookup ?_)
 have hsp:splitId "set.__len__" = some ("set","__len__"):=by decide +kernel
 dsimp only
 rw[hsp]
 dsimp only
 refine zwb0 (wpAny_isInstance (b:=true) hT2 yoe ?_)
 rw[if_neg (by decide),if_pos (by kernel_rfl)]
 refine zwb0 (wpAny_typeOf hT2 ?_)
 refine zwp0 ?_
 rw[if_pos (by kernel_rfl)]
 refine zwb0 (wpAny_rule ?_)
 unfold Builtin.List.listTouch
 refine zwb0 (zwb0 (listUpdate_at (s:={ s with heap:=h2,drawn:=d }) hS2 rfl ?_ (by show 0≤sizeLine;decide) (by show 1≤sizeLine+1;decide)))
 have hS3:(h2.update L (Obj.mapSeq fun x=>x.push Value.none)).get? L=some { cls:=.type "list",data:=.seq (#[].push Value.none) 1 }:=Heap.get?_update_self _ hS2 rfl
 refine listUpdate_at (s:={ s with heap:=h2.update L (Obj.mapSeq fun x=>x.push Value.none),drawn:=d }) hS3 rfl ?_ (by show 1≤sizeLine;decide) (by show 0≤sizeLine+1;decide)
 have hS4:((h2.update L (Obj.mapSeq fun x=>x.push Value.none)).update L (Obj.mapSeq fun x=>x.pop)).get? L=some { cls:=.type "list",data:=.seq #[] 2 }:=Heap.get?_update_self _ hS3 rfl
 have k4:∀b o,b≠L→h2.get? b=some o→((h2.update L (Obj.mapSeq fun x=>x.push Value.none)).update L (Obj.mapSeq fun x=>x.pop)).get? b=some o:=fun b o hb e=>(Heap.get?_update_other _ _ (Ne.symm hb)).trans ((Heap.get?_update_other _ _ (Ne.symm hb)).trans e)
 show wpAny _ _ _ _ _ { s with heap:=(h2.update L (Obj.mapSeq fun x=>x.push Value.none)).update L (Obj.mapSeq fun x=>x.pop),drawn:=d }
 generalize (h2.update L (Obj.mapSeq fun x=>x.push Value.none)).update L (Obj.mapSeq fun x=>x.pop)=h4 at hS4 k4 ⊢
 have lI':L+1≤I:=by rw[← z1];exact lI
 have lex':∀b∈ex,L+1≤b∧b<I:=fun b hb=>⟨by rw[← z1];exact(lex b hb).1,(lex b hb).2⟩
 have naL:a<L:=by rw[← hL];exact Heap.lt_size ho
 have naI:a≠I:=Nat.ne_of_lt (Nat.lt_trans naL lI')
 have nI:∀b∈ex,b≠I:=fun b hb=>Nat.ne_of_lt (lex' b hb).2
 have nLI:I≠L:=Nat.ne_of_gt lI'
 have nLx:∀b∈ex,b≠L:=fun b hb=>Nat.ne_of_gt (lex' b hb).1
 have hLf:L ∉ I::a::ex:=fun m=>by
  rcases List.mem_cons.mp m with z|m
  ·exact nLI z.symm
  ·rcases List.mem_cons.mp m with z|m
   ·exact hSa z
   ·exact nLx L m rfl
 have Wk:WalksS prog w A.in1 I (I::a::ex) [I] Eq es.size (fun i v=>vals[i]? = some v) (fun i s=>yy6 w s.heap a es ep t∧∃first,yin s.heap I first i a es.size ep∧F i s.heap first):=ywn (A:=A.in1) hh y nI naI
 refine zwp0 ⟨plainId_quiet PySem.F.plain_extend_loop _,codeAny_extend_loopS Wk (fits_of_scanBound hb) L hLf _ es.size 0 { s with heap:=h4,drawn:=d } #[] 2 rfl (Nat.zero_le _) ⟨⟨⟨o,k4 _ _ (Ne.symm hSa) ho2,hd⟩,hf,hrise⟩,first,k4 _ _ nLI hit,y.stay hF fun b hb o e=>k4 _ _ (nLx b hb) e⟩ hS4 (ItemsOf.nil _) fun s' acc' c' hm hS' hacc=>?_⟩
 show wpAny _ A (load L >>= _) _ _ s'
 refine zwb0 (wpAny_load hS' (zwp0 ?_))
 have hp:=y.perm
 have hlen:vals.length=es.size:=by rw[hp.length_eq,List.length_map,Array.length_toList]
 have eacc:acc'.toList=vals:=by
  refine List.ext_getElem? fun j=>?_
  by_cases hj:j<acc'.size
  ·rw[Array.getElem?_toList,Array.getElem?_eq_getElem hj]
   exact(hacc.2 j _ (Array.getElem?_eq_getElem hj)).symm
  ·rw[List.getElem?_eq_none (by rw[Array.length_toList];omega),List.getElem?_eq_none (by rw[hlen,← hacc.1];omega)]
 rw[eacc]
 obtain ⟨sh,sg,sd,st,so⟩:=s'
 have m2:s.gens=sg:=hm.gens
 have m4:so=s.os:=hm.os
 subst m2 m4
 refine hQ vals (vals.map yy8) sh sd st (yqz fun v hv=>?_) ?_ (fun b o e=>?_) hm.toks
 ·obtain ⟨e,he,rfl⟩:=List.mem_map.mp (hp.mem_iff.mp hv)
  obtain ⟨k,t,rfl⟩:=hel e he
  exact⟨k,t,rfl⟩
 ·refine(hp.map yy8).trans ?_
  rw[List.map_map]
  exact hpm
 ·have lt:b<L:=by rw[← hL];exact Heap.lt_size e
  refine hm.heap b o (fun z=>?_) (k4 _ _ (Nat.ne_of_lt lt) (k2 _ _ (k1 _ _ e)))
  rcases List.mem_cons.mp z with z|z
  ·exact Nat.ne_of_lt lt z
  ·exact Nat.ne_of_lt (Nat.lt_trans lt lI') (List.mem_singleton.mp z)
end
section
variable {X:Cx}
theorem Inv.drawn {pins:List (Addr×Obj)}{σ:St}{H:Hp}{s:Shared}(I:Inv X pins σ H s)(d:Drawn):Inv X pins σ H { s with drawn:=d }:=
 I.step (g':=s.gens) (d':=d) (t':=s.toks) (h':=s.heap) (ch:=[]) (fun _ z=>nomatch z) (fun b o _ _ _ e _=>e) (fun b o _ _ _ e _=>⟨o.slots,e⟩) (fun _ _ _ _ n=>n) (fun b o _ e=>⟨o,e⟩) (fun _ _ e=>e) (fun _ _ _ e=>e) (fun b ps e=>⟨#[],by rw[e];simp⟩) (fun m hm=>hm) I.hok I.bare
def za1 (w:World):List V→Hp→VK→Prop:=fun xs H Q=>∃(p:Addr) (ns:List Int),xs=[.ref p]∧H p=some (HS w p ns)∧ns.length<64∧∀(l:Addr) (ms:List Int),H l=none→ms.Perm ns→ms.Pairwise (·≤·)→Q (.ref l) (upd H l (.lst (ms.map V.int)))
theorem ylc (hc:X.calm=true):ygw X (.builtin "sorted") (za1 X.w):=by
 intro pins s σ H xs us Q I r h
 obtain ⟨p,ns,rfl,hq,h64,q⟩:=h
 obtain ⟨u,rfl,ru⟩:=r.one
 cases ru
 refine Calls.call_function_entry kind_sorted plain_sorted entry_sorted (args_sorted1 _) ?_
 unfold Builtin.«sorted»
 refine zwb0 (m:=checkCount "sorted" 1 1 _) (zwp0 ?_)
 refine zwb0 (yps (w:=X.w) (show X.A.in1.handled=none from I.ok.hd hc) (zaz I hq) fun vals ms h1 d tk ia pm k1 htk=>?_)
 have I1:Inv X pins σ H { s with heap:=h1,drawn:=d,toks:=tk }:=(I.kept (h':=h1) (t':=tk) k1).drawn d
 have lv:vals.length<64:=by rw[IntsAre.length ia,pm.length_eq];exact h64
 revert I1
 generalize ({ s with heap:=h1,drawn:=d,toks:=tk }:Shared)=s1
 intro I1
 refine zwb0 (wpAny_newList ?_ (by rw[sizeLine_eq];omega))
 have hoL:(s1.heap.push (seqObj "list" vals.toArray 0)).get? s1.heap.objs.size=some (seqObj "list" vals.toArray 0):=Heap.get?_push_size _ rfl
 show wpAny _ _ _ _ _ { s1 with heap:=s1.heap.push (seqObj "list" vals.toArray 0) }
 refine zwb0 (wpAny_holding (wpAny_call_entry slot_list_sort ⟨_,hoL,rfl⟩ entry_list_sort (list_sort_tree (s:={ s1 with heap:=s1.heap.push (seqObj "list" vals.toArray 0) }) hoL ia lv fun out ms' i1 i2 i3=>⟨_,rfl,?_⟩) (args_list_sort _)))
 refine zwp0 ⟨_,rfl,?_⟩
 obtain ⟨e,he⟩:=sortedHeap_at (out:=out) hoL
 refine⟨.ref s1.heap.objs.size,_,I1.laid (t':=s1.toks) (a:=s1.heap.objs.size) (o:=.lst (ms'.map V.int)) (fun b o e=>?_) (Nat.le_refl _) ⟨?_,out.toList,e,yty i1,?_⟩,rfl,q _ ms' (I1.hok.fresh (Nat.le_refl _)) (i2.trans pm) i3⟩
 ·have lt:=Heap.lt_size e
  show (sortedHeap _ _ _ _).get? b=some o
  rw[sortedHeap_old (Nat.ne_of_lt lt) (by rw[size_push'];exact Nat.lt_succ_of_lt lt)]
  exact Heap.get?_push_of_some _ e
 ·rw[List.length_map,i2.length_eq,pm.length_eq,sizeLine_eq];omega
 ·rw[he]
end
theorem yuk {o:Obj}{kvs:List (List Key×V)}{a:Addr}{g:TG}{tb:TS}{D:Ends}{σ:St}{H:Hp}(Pv:Nat→St→Hp→Prop)(h0:Pv 0 σ H)(hl:∀i σ H,Pv i σ H→H a=some (.frz o (.dT kvs)))
 (hs:∀i k x σ H p b,kvs[i]? = some (k,x)→Pv i σ H→H p=none→H b=some (.tup (k.map kV))→g (.ref p) σ (upd H p (.tup [.ref b,x])) fun σ2 H2=>tb { D with nx:=Pv (i+1),ct:=Pv (i+1),bk:=D.nx } σ2 H2) (hd:∀σ H,Pv kvs.length σ H→D.nx σ H) :
 ∃W:Nat→Nat→St→Hp→Prop,(∃m,W 0 m σ H)∧∀i m σ H,W i m σ H→
  ((Itd o kvs a).stop i H∧D.nx σ H)∨((Itd o kvs a).go i H∧∃N:St→Hp→Prop,(∀σ' H',N σ' H'→∃m',m' < m∧W (i+1) m' σ' H')∧∀x H',(Itd o kvs a).yld i H x H'→g x σ H' fun σ2 H2=>tb { D with nx:=N,ct:=N,bk:=D.nx } σ2 H2):=by
 refine⟨fun i m σ H=>m=kvs.length-i∧i≤kvs.length∧Pv i σ H,⟨kvs.length,by simp,Nat.zero_le _,h0⟩,?_⟩
 rintro i m σ H ⟨rfl,hi,p⟩
 have q:=hl i σ H p
 by_cases hlt:i<kvs.length
 ·refine .inr ⟨⟨q,hlt⟩,Pv (i+1),fun σ' H' p'=>⟨kvs.length-(i+1),by omega,rfl,hlt,p'⟩,?_⟩
  rintro x H' ⟨pp,b,k,v,rfl,hp,rfl,e,hb⟩
  exact hs i k v σ H pp b e p hp hb
 ·have e:i=kvs.length:=by omega
  subst e
  exact .inl ⟨⟨q,Nat.le_refl _⟩,hd σ H p⟩
section
variable {o:Obj}{kvs:List (List Key×V)}{a D:Addr}{g:TG}{ti:TT}{te tk tv:TE}{σ₀:St}{H1:Hp}{R:Hp→Prop}
theorem yr1 (P:Nat→List V→Hp→Prop)(hD:H1 D=none)(hx:H1 a=some (.frz o (.dT kvs)))(hn:kvs.length≤1000)
 (st:∀i zs H H',P i zs H→(∀b o,b≠D→H b=some o→H' b=some o)→P i zs H') (h0:P 0 [] H1)
 (step:∀i k v zs H p b,kvs[i]? = some (k,v)→Same H1 H→P i zs H→H p=none→H b=some (.tup (k.map kV))→∀(K1:V→Hp→Prop) (K2:Hp→Prop),(∀y H4,Same (upd H p (.tup [.ref b,v])) H4→P (i+1) (zs++[y]) H4→K1 y H4)→(∀H3,Same (upd H p (.tup [.ref b,v])) H3→P (i+1) zs H3→K2 H3)→
  g (.ref p) σ₀ (upd H p (.tup [.ref b,v])) fun σ2 H2=>(∀(k:Nat) v,σ₀[k]? = some (some v)→σ2[k]? = some (some v))∧ti σ2 H2 fun b H3=>if b=true then te σ2 H3 K1 else K2 H3)
 (fin:∀zs H,Same H1 H→P kvs.length zs H→zs.length≤kvs.length→H D=some (.lst zs)→R H) :
 ∃W:Nat→Nat→Hp→Prop,(∃m,W 0 m (upd H1 D (.lst [])))∧∀i m H,W i m H→((Itd o kvs a).stop i H∧R H)∨((Itd o kvs a).go i H∧∀x H',(Itd o kvs a).yld i H x H'→g x σ₀ H' fun σ2 H2=>(∀(k:Nat) v,σ₀[k]? = some (some v)→σ2[k]? = some (some v))∧ti σ2 H2 fun b H3=>
  if b=true then te σ2 H3 fun y H4=>∃zs,H4 D=some (.lst zs)∧zs.length<sizeLine∧∃m',m' < m∧W (i+1) m' (upd H4 D (.lst (zs++[y]))) else ∃m',m' < m∧W (i+1) m' H3):=by
 refine⟨fun i m H=>i+m=kvs.length∧Same H1 H∧∃zs,H D=some (.lst zs)∧zs.length≤i∧P i zs H,⟨kvs.length,by omega,yad hD _,[],yaa,Nat.le_refl _,st _ _ _ _ h0 fun b o hb e=>by rw[yal hb];exact e⟩,?_⟩
 rintro i m H ⟨him,s1,zs,hz,hl,hp⟩
 have ex:=s1 _ _ hx
 by_cases hi:i<kvs.length
 ·refine .inr ⟨⟨ex,hi⟩,?_⟩
  rintro x H' ⟨p,b,k,v,rfl,hpn,rfl,e,hb⟩
  have sN:=yad hpn (.tup [.ref b,v])
  exact step i k v zs H p b e s1 hp hpn hb _ _ (fun y H4 s4 p4=>⟨zs,s4 _ _ (sN _ _ hz),yau (by omega),m-1,by omega,by omega,((s1.trans sN).trans s4).young hD,zs++[y],yaa,by rw[List.length_append,List.length_singleton];omega,st _ _ _ _ p4 fun b o hb e=>by rw[yal hb];exact e⟩) fun H3 s3 p3=>⟨m-1,by omega,by omega,(s1.trans sN).trans s3,zs,s3 _ _ (sN _ _ hz),by omega,p3⟩
 ·have e:i=kvs.length:=by omega
  subst e
  exact .inl ⟨⟨ex,Nat.le_refl _⟩,fin zs H s1 hp hl hz⟩
theorem yul (P:Nat→List V→Hp→Prop)(hD:H1 D=none)(hx:H1 a=some (.frz o (.dT kvs)))(hn:kvs.length≤1000)
 (st:∀i zs H H',P i zs H→(∀b o,b≠D→H b=some o→H' b=some o)→P i zs H') (h0:P 0 [] H1)
 (step:∀i k v zs H,kvs[i]? = some (k,v)→Same H1 H→P i zs H→∀(K1:V→Hp→Prop) (K2:Hp→Prop),(∀y H4,Same H H4→P (i+1) (zs++[y]) H4→K1 y H4)→(∀H3,Same H H3→P (i+1) zs H3→K2 H3)→
  g v σ₀ H fun σ2 H2=>(∀(k:Nat) v,σ₀[k]? = some (some v)→σ2[k]? = some (some v))∧ti σ2 H2 fun b H3=>if b=true then te σ2 H3 K1 else K2 H3)
 (fin:∀zs H,Same H1 H→P kvs.length zs H→zs.length≤kvs.length→H D=some (.lst zs)→R H) :
 ∃W:Nat→Nat→Hp→Prop,(∃m,W 0 m (upd H1 D (.lst [])))∧∀i m H,W i m H→((Itv o kvs a).stop i H∧R H)∨((Itv o kvs a).go i H∧∀x H',(Itv o kvs a).yld i H x H'→g x σ₀ H' fun σ2 H2=>(∀(k:Nat) v,σ₀[k]? = some (some v)→σ2[k]? = some (some v))∧ti σ2 H2 fun b H3=>
  if b=true then te σ2 H3 fun y H4=>∃zs,H4 D=some (.lst zs)∧zs.length<sizeLine∧∃m',m' < m∧W (i+1) m' (upd H4 D (.lst (zs++[y]))) else ∃m',m' < m∧W (i+1) m' H3):=by
 refine⟨fun i m H=>i+m=kvs.length∧Same H1 H∧∃zs,H D=some (.lst zs)∧zs.length≤i∧P i zs H,⟨kvs.length,by omega,yad hD _,[],yaa,Nat.le_refl _,st _ _ _ _ h0 fun b o hb e=>by rw[yal hb];exact e⟩,?_⟩
 rintro i m H ⟨him,s1,zs,hz,hl,hp⟩
 have ex:=s1 _ _ hx
 by_cases hi:i<kvs.length
 ·refine .inr ⟨⟨ex,hi⟩,?_⟩
  rintro x H' ⟨rfl,k,e⟩
  exact step i k x zs H' e s1 hp _ _ (fun y H4 s4 p4=>⟨zs,s4 _ _ hz,yau (by omega),m-1,by omega,by omega,(s1.trans s4).young hD,zs++[y],yaa,by rw[List.length_append,List.length_singleton];omega,st _ _ _ _ p4 fun b o hb e=>by rw[yal hb];exact e⟩) fun H3 s3 p3=>⟨m-1,by omega,by omega,s1.trans s3,zs,s3 _ _ hz,by omega,p3⟩
 ·have e:i=kvs.length:=by omega
  subst e
  exact .inl ⟨⟨ex,Nat.le_refl _⟩,fin zs H s1 hp hl hz⟩
theorem ywo {K:PySem.W.Frag}{xs:List V}(P:Nat→List (List Key×V)→Hp→Prop)(hD:H1 D=none)(hx:H1 a=some (.lst xs))(hn:xs.length≤1000)
 (st:∀i zs H H',P i zs H→(∀b o,b≠D→H b=some o→H' b=some o)→P i zs H') (h0:P 0 [] H1)
 (step:∀i x zs H,xs[i]? = some x→Same H1 H→P i zs H→∀(K1:V→Hp→V→Hp→Prop) (K2:Hp→Prop),(∀y H4 z H5,Same H H5→(∃k bb,y = .ref bb∧H5 bb=some (.tup (k.map kV))∧P (i+1) (yjr zs k z) H5)→K1 y H4 z H5)→(∀H3,Same H H3→P (i+1) zs H3→K2 H3)→
  g x σ₀ H fun σ2 H2=>(∀(k:Nat) v,σ₀[k]? = some (some v)→σ2[k]? = some (some v))∧ti σ2 H2 fun b H3=>if b=true then tk σ2 H3 fun y H4=>tv σ2 H4 fun z H5=>K1 y H4 z H5 else K2 H3)
 (fin:∀zs H,Same H1 H→P xs.length zs H→H D=some (.dT zs)→R H) :
 ∃W:Nat→Nat→Hp→Prop,(∃m,W 0 m (upd H1 D (.dT [])))∧∀i m H,W i m H→((Itl K a).stop i H∧R H)∨((Itl K a).go i H∧∀x H',(Itl K a).yld i H x H'→g x σ₀ H' fun σ2 H2=>(∀(k:Nat) v,σ₀[k]? = some (some v)→σ2[k]? = some (some v))∧ti σ2 H2 fun b H3=>
  if b=true then tk σ2 H3 fun y H4=>tv σ2 H4 fun z H5=>∃kvs k bb,H5 D=some (.dT kvs)∧y = .ref bb∧H5 bb=some (.tup (k.map kV))∧kvs.length<sizeLine∧∃m',m' < m∧W (i+1) m' (upd H5 D (.dT (yjr kvs k z))) else ∃m',m' < m∧W (i+1) m' H3):=by
 refine⟨fun i m H=>i+m=xs.length∧Same H1 H∧∃zs,H D=some (.dT zs)∧zs.length≤i∧P i zs H,⟨xs.length,by omega,yad hD _,[],yaa,Nat.le_refl _,st _ _ _ _ h0 fun b o hb e=>by rw[yal hb];exact e⟩,?_⟩
 rintro i m H ⟨him,s1,zs,hz,hl,hp⟩
 have ex:=s1 _ _ hx
 by_cases hi:i<xs.length
 ·refine .inr ⟨⟨xs,_,SqL.of ex,List.getElem?_eq_getElem hi⟩,?_⟩
  rintro x H' ⟨rfl,hy⟩
  refine step i x zs H' (hy _ (SqL.of ex)) s1 hp (fun y _ z H5=>∃kvs k bb,H5 D=some (.dT kvs)∧y = .ref bb∧H5 bb=some (.tup (k.map kV))∧kvs.length<sizeLine∧∃m',m' < m∧(i+1+m' = xs.length∧Same H1 (upd H5 D (.dT (yjr kvs k z)))∧∃zs,upd H5 D (.dT (yjr kvs k z)) D=some (.dT zs)∧zs.length≤i+1∧P (i+1) zs (upd H5 D (.dT (yjr kvs k z))))) _ (fun y H4 z H5 s5 ⟨k,bb,ey,hb,p5⟩=>?_) fun H3 s3 p3=>⟨m-1,by omega,by omega,s1.trans s3,zs,s3 _ _ hz,by omega,p3⟩
  have lp:=yft zs k z
  exact⟨zs,k,bb,s5 _ _ hz,ey,hb,yau (by omega),m-1,by omega,by omega,(s1.trans s5).young hD,_,yaa,by omega,st _ _ _ _ p5 fun b o hb e=>by rw[yal hb];exact e⟩
 ·have e:i=xs.length:=by omega
  subst e
  exact .inl ⟨⟨xs,SqL.of ex,Nat.le_refl _⟩,fin zs H s1 hp hz⟩
theorem yq0 {K:PySem.W.Frag}{w:World}{xs:List V}(P:Nat→List Int→Prop)(hD:H1 D=none)(hx:H1 a=some (.lst xs))(hn:xs.length≤1000)(h0:P 0 [])
 (step:∀i x ns H,xs[i]? = some x→Same H1 H→P i ns→∀(K1:V→Hp→Prop) (K2:Hp→Prop),(∀y z H4,y = .int z→Same H H4→P (i+1) (if z∈ns then ns else ns++[z])→K1 y H4)→(∀H3,Same H H3→P (i+1) ns→K2 H3)→
  g x σ₀ H fun σ2 H2=>(∀(k:Nat) v,σ₀[k]? = some (some v)→σ2[k]? = some (some v))∧ti σ2 H2 fun b H3=>if b=true then te σ2 H3 K1 else K2 H3)
 (fin:∀ns H,Same H1 H→P xs.length ns→ns.length≤xs.length→H D=some (HS w D ns)→R H) :
 ∃W:Nat→Nat→Hp→Prop,(∃m,W 0 m (upd H1 D (HS w D [])))∧∀i m H,W i m H→((Itl K a).stop i H∧R H)∨((Itl K a).go i H∧∀x H',(Itl K a).yld i H x H'→g x σ₀ H' fun σ2 H2=>(∀(k:Nat) v,σ₀[k]? = some (some v)→σ2[k]? = some (some v))∧ti σ2 H2 fun b H3=>
  if b=true then te σ2 H3 fun y H4=>∃ns x,H4 D=some (HS w D ns)∧y = .int x∧ns.length+1<scanBound∧∃m',m' < m∧W (i+1) m' (upd H4 D (HS w D (if x∈ns then ns else ns++[x]))) else ∃m',m' < m∧W (i+1) m' H3):=by
 refine⟨fun i m H=>i+m=xs.length∧Same H1 H∧∃ns,H D=some (HS w D ns)∧ns.length≤i∧P i ns,⟨xs.length,by omega,yad hD _,[],yaa,Nat.le_refl _,h0⟩,?_⟩
 rintro i m H ⟨him,s1,ns,hz,hl,hp⟩
 have ex:=s1 _ _ hx
 by_cases hi:i<xs.length
 ·refine .inr ⟨⟨xs,_,SqL.of ex,List.getElem?_eq_getElem hi⟩,?_⟩
  rintro x H' ⟨rfl,hy⟩
  refine step i x ns H' (hy _ (SqL.of ex)) s1 hp _ _ (fun y z H4 ey s4 p4=>⟨ns,z,s4 _ _ hz,ey,by have:scanBound=4096:=rfl;omega,m-1,by omega,by omega,(s1.trans s4).young hD,_,yaa,?_,p4⟩) fun H3 s3 p3=>⟨m-1,by omega,by omega,s1.trans s3,ns,s3 _ _ hz,by omega,p3⟩
  split
  ·omega
  ·rw[List.length_append,List.length_singleton];omega
 ·have e:i=xs.length:=by omega
  subst e
  exact .inl ⟨⟨xs,SqL.of ex,Nat.le_refl _⟩,fin ns H s1 hp hl hz⟩
end
def yhe (f l:Int):List Key:=[.inl f,.inl l]
def slk (ks:List (Int×Int))(v:Int→Int→Int):List (List Key×V):=ks.map fun p=>(yhe p.1 p.2,.int (v p.1 p.2))
def SlAt (H:Hp)(d:Addr)(ks:List (Int×Int))(v:Int→Int→Int):Prop:=∃o,H d=some (.frz o (.dT (slk ks v)))
theorem SlAt.same {H H':Hp}{d:Addr}{ks:List (Int×Int)}{v:Int→Int→Int}(h:SlAt H d ks v)(s:Same H H'):SlAt H' d ks v:=by
 obtain ⟨o,e⟩:=h
 exact⟨o,s _ _ e⟩
def ydo (rs:List (List Int))(ds:List Int):Prop:=ds.Pairwise (· < ·)∧(∀d,d∈ds↔∃r∈rs,r.getD 0 0=d)∧ds.length≤rs.length
def ybr (ds:List Int):List (Int×Int):=ds.flatMap fun f=>(ds.filter fun l=>decide (f≤l)).map fun l=>(f,l)
def yiw:Sp:=fun vs H Q _=>∃(a:Addr) (rs:List (List Int)),vs=[.ref a]∧Rows H a rs∧(∀r∈rs,r.length=3)∧rs.length≤60∧∀l ds H',H l=none→ydo rs ds→Same H H'→ybf H' l ds→Q (.ref l) H'
def yfv:Sp:=fun vs H Q _=>∃(a:Addr) (rs:List (List Int)),vs=[.ref a]∧Rows H a rs∧(∀r∈rs,r.length=3)∧rs.length≤31∧∀l ds H',H l=none→ydo rs ds→Same H H'→Rows H' l ((ybr ds).map fun p=>[p.1,p.2])→Q (.ref l) H'
def ydh:Sp:=fun vs H Q _=>∃(a b:Addr) (tm:Int) (rs os:List (List Int)),vs=[.ref a,.ref b,.int tm]∧Rows H a rs∧(∀r∈rs,r.length=3)∧rs.length≤31∧Rows H b os∧(∀r∈os,r.length=2)∧os.length≤100∧∀d ds H',H d=none→ydo rs ds→Same H H'→SlAt H' d (ybr ds) (ybc os tm)→Q (.ref d) H'
def yg0 (v:Int→Int→Int)(day u:Int):Int→Int→Int:=fun f l=>if f≤day∧day≤l then v f l-u else v f l
def ygo:Sp:=fun vs H Q _=>∃(d:Addr) (day u:Int) (ks:List (Int×Int)) (v:Int→Int→Int),vs=[.ref d,.int day,.int u]∧SlAt H d ks v∧ks.Nodup∧ks.length≤1000∧∀d' H',H d'=none→Same H H'→SlAt H' d' ks (yg0 v day u)→Q (.ref d') H'
def yg1:Sp:=fun vs H Q _=>∃(d:Addr) (ks:List (Int×Int)) (v:Int→Int→Int),vs=[.ref d]∧SlAt H d ks v∧ks.length≤1000∧∀H',Same H H'→Q (.bl (decide (∀p∈ks,0≤v p.1 p.2))) H'
def FreeIs (ks:List (Int×Int))(v:Int→Int→Int)(day left M:Int):Prop:=M≤left∧(∀p∈ks,p.1≤day→day≤p.2→M≤v p.1 p.2)∧(M=left∨∃p∈ks,p.1≤day∧day≤p.2∧M=v p.1 p.2)
def ymq:Sp:=fun vs H Q _=>∃(d p:Addr) (u day c du:Int) (ks:List (Int×Int)) (v:Int→Int→Int),vs=[.ref d,.ref p,.int u]∧SlAt H d ks v∧ks.length≤961∧H p=some (.tup [.int day,.int c,.int du])∧∀M H',Same H H'→FreeIs ks v day (c-u) M→Q (.int M) H'
theorem yg2 {ds:List Int}(h:ds.Pairwise (· < ·)):ds.Nodup:=h.imp fun z=>Int.ne_of_lt z
theorem yju {ds:List Int}(h:ds.Pairwise (· < ·)):(ybr ds).Nodup:=by
 have nd:=yg2 h
 unfold ybr
 suffices hh:∀es:List Int,es.Nodup→(es.flatMap fun f=>(ds.filter fun l=>decide (f≤l)).map fun l=>(f,l)).Nodup from hh ds nd
 intro es
 induction es with
 |nil=>intro _;exact List.nodup_nil
 |cons f r ih=>
  intro hn
  obtain ⟨h1,h2⟩:=List.nodup_cons.mp hn
  rw[List.flatMap_cons,List.nodup_append]
  refine⟨?_,ih h2,fun p hp q hq e=>?_⟩
  ·exact List.Pairwise.map _ (fun a b hab z=>hab (congrArg Prod.snd z)) (nd.filter _)
  ·obtain ⟨l,_,rfl⟩:=List.mem_map.mp hp
   obtain ⟨f',hf',hq'⟩:=List.mem_flatMap.mp hq
   obtain ⟨l',_,rfl⟩:=List.mem_map.mp hq'
   cases e
   exact h1 hf'
theorem ymr {ds:List Int}(h:ds.length≤31):(ybr ds).length≤961:=by
 unfold ybr
 have:∀es:List Int,(es.flatMap fun f=>(ds.filter fun l=>decide (f≤l)).map fun l=>(f,l)).length≤es.length*31:=by
  intro es
  induction es with
  |nil=>exact Nat.le_refl _
  |cons f r ih=>
   rw[List.flatMap_cons,List.length_append,List.length_map,List.length_cons]
   have:=List.length_filter_le (fun l=>decide (f≤l)) ds
   omega
 have:=this ds
 omega
theorem mem_str {ds:List Int}{f l:Int}:(f,l)∈ybr ds↔f∈ds∧l∈ds∧f≤l:=by
 unfold ybr
 constructor
 ·intro h
  obtain ⟨f',hf,h'⟩:=List.mem_flatMap.mp h
  obtain ⟨l',hl,e⟩:=List.mem_map.mp h'
  cases e
  obtain ⟨h1,h2⟩:=List.mem_filter.mp hl
  exact⟨hf,h1,of_decide_eq_true h2⟩
 ·rintro ⟨h1,h2,h3⟩
  exact List.mem_flatMap.mpr ⟨f,h1,List.mem_map.mpr ⟨l,List.mem_filter.mpr ⟨h2,decide_eq_true h3⟩,rfl⟩⟩
theorem yy9 {f l f' l':Int}(h:yhe f l=yhe f' l'):f=f'∧l=l':=by
 unfold yhe at h
 simp only[List.cons.injEq,Sum.inl.injEq,and_true] at h
 exact h
theorem yum {ks:List (Int×Int)}{v:Int→Int→Int}{f l:Int}(h:(f,l) ∉ ks):yjr (slk ks v) (yhe f l) (.int (v f l))=slk (ks++[(f,l)]) v:=by
 have hn:ypj (slk ks v) (yhe f l)=none:=by
  unfold ypj slk
  rw[Option.map_eq_none_iff,List.find?_eq_none]
  intro x hx z
  obtain ⟨p,hp,rfl⟩:=List.mem_map.mp hx
  obtain ⟨e1,e2⟩:=yy9 (of_decide_eq_true z)
  exact h (by rw[← e1,← e2];exact hp)
 rw[ywa _ hn]
 unfold slk
 rw[List.map_append];rfl
end L2
namespace L2
def yfx (ds:List Int)(i j:Nat):List (List Int):=((ds.take i).flatMap fun f=>(ds.filter fun l=>decide (f≤l)).map fun l=>[f,l])++((((ds.take j).filter fun l=>decide (ds.getD i 0≤l)).map fun l=>[ds.getD i 0,l]))
theorem ywp {ds:List Int}{i j:Nat}(h:ds.length≤31):(yfx ds i j).length≤1000:=by
 unfold yfx
 have:∀es:List Int,(es.flatMap fun f=>(ds.filter fun l=>decide (f≤l)).map fun l=>[f,l]).length≤es.length*31:=by
  intro es
  induction es with
  |nil=>exact Nat.le_refl _
  |cons f r ih=>
   rw[List.flatMap_cons,List.length_append,List.length_map,List.length_cons]
   have:=List.length_filter_le (fun l=>decide (f≤l)) ds
   omega
 have h1:=this (ds.take i)
 have h2:=List.length_filter_le (fun l=>decide (ds.getD i 0≤l)) (ds.take j)
 rw[List.length_append,List.length_map]
 rw[List.length_take] at h1 h2
 omega
end L2
namespace K28
open PySem L2
abbrev yex:Stmt:=top 33
abbrev yof:List Str:=["lots"]
abbrev yfe:List Str:=["lots"]
theorem yr2:FnScope yof yfe (yac yex):=⟨rfl,rfl,rfl,by decide +kernel,rfl,by decide +kernel,by decide +kernel⟩
abbrev ybx:Stmt:=top 34
abbrev ygs:List Str:=["lots","days"]
abbrev ycv:List Str:=["lots"]
theorem sc_stretches_of:FnScope ygs ycv (yac ybx):=⟨rfl,rfl,rfl,by decide +kernel,rfl,by decide +kernel,by decide +kernel⟩
abbrev yby:Stmt:=top 35
abbrev ygt:List Str:=["lots","outs","term"]
abbrev ybz:List Str:=["lots","outs","term"]
theorem yjv:FnScope ygt ybz (yac yby):=⟨rfl,rfl,rfl,by decide +kernel,rfl,by decide +kernel,by decide +kernel⟩
abbrev yen:Stmt:=top 36
abbrev yr3:List Str:=["slacks","day","units","told","first","last","slack"]
abbrev yeo:List Str:=["slacks","day","units"]
theorem sc_lessened:FnScope yr3 yeo (yac yen):=⟨rfl,rfl,rfl,by decide +kernel,rfl,by decide +kernel,by decide +kernel⟩
abbrev ycj:Stmt:=top 38
abbrev yij:List Str:=["slacks"]
abbrev yeb:List Str:=["slacks"]
theorem yms:FnScope yij yeb (yac ycj):=⟨rfl,rfl,rfl,by decide +kernel,rfl,by decide +kernel,by decide +kernel⟩
abbrev yey:Stmt:=top 39
abbrev yog:List Str:=["slacks","lot","units","day","count","duty","around"]
abbrev yf7:List Str:=["slacks","lot","units"]
theorem sc_free_at:FnScope yog yf7 (yac yey):=⟨rfl,rfl,rfl,by decide +kernel,rfl,by decide +kernel,by decide +kernel⟩
section
variable {P:Program}{w:World}{K:PySem.W.Frag}{mg:Str→Option Value}{base:Heap}{f:Addr}{fd:FuncData}{cl:Nat→Addr}(T:Txt K mg cl)(B:Bn mg)
include T B
theorem yr4 (F:Fun K "days_of" "days_of" yex f fd):FnOk P w K mg base CX0 1 f fd yfe yiw:=by
 refine F.ok yr2 (fun vs H Q E h=>?_) (fun cdv A outer s H vs Q E hr h=>?_)
 ·obtain ⟨a,rs,rfl,_⟩:=h;rfl
 obtain ⟨a,rs,rfl,hR,h3,hn,q⟩:=h
 refine⟨_,(yah (yat (yaq (ylc rfl) rfl B.sorted PyProof.Rows.boot_sorted (yaj (ymp (N':=["day","count","duty"]) (ix:=[none,none,none]) (g:=(ym6 K 3 (ybw (ybg 0) (ybw (ybg 1) (ybw (ybg 2) ym5))))) (ti:=ykh) (te:=(ycc 0)) rfl (yaw (N:=yof) (D:=yac yex) (by decide +kernel)) (ya9 (pv 0)) (fun C s H fp=>(ya8 rfl (yag (yai (i:=0) (show (["day","count","duty"]:List Str).Nodup by decide +kernel) rfl (Or.inl rfl)) (yag (yai (i:=1) (show (["day","count","duty"]:List Str).Nodup by decide +kernel) rfl (Or.inl rfl)) (yag (yai (i:=2) (show (["day","count","duty"]:List Str).Nodup by decide +kernel) rfl (Or.inl rfl)) yax))))) (fun C s H fp=>ybs) (fun C s H fp=>(pv 0))) yab)))),?_⟩
 obtain ⟨xs,ex,ht⟩:=hR.tups
 refine⟨_,rfl,a,rfl,⟨xs,SqL.of ex⟩,fun D hD=>?_⟩
 refine yq0 (fun i ns=>ns.Nodup∧∀d,d∈ns↔∃r∈rs.take i,r.getD 0 0=d) hD ex (by rw[ht.1];omega) ⟨List.nodup_nil,fun d=>⟨fun z=>(by cases z),fun ⟨r,hr,_⟩=>(by cases hr)⟩⟩ ?_ ?_
 ·rintro i x ns H1 ei s1 ⟨nd,hm⟩ K1 K2 q1 q2
  obtain ⟨p,r,rfl,er,hp⟩:=ht.at ei
  obtain ⟨d,c,u,rfl⟩:=yl2 (h3 r (List.mem_of_getElem? er))
  refine⟨p,_,rfl,SqT.of (s1 _ _ hp),rfl,_,_,rfl,_,_,rfl,_,_,rfl,rfl,ya5 (ya5 (ya5 ybi rfl) rfl) rfl,?_⟩
  refine⟨_,rfl,q1 _ d _ rfl (Same.refl _) ⟨?_,fun e=>?_⟩⟩
  ·split
   ·exact nd
   ·rename_i z
    exact List.nodup_append.mpr ⟨nd,by simp,fun a ha b hb e=>z (by rw[← List.mem_singleton.mp hb,← e];exact ha)⟩
  ·rw[ybb er]
   have key:(∃r∈rs.take i++[[d,c,u]],r.getD 0 0=e)↔(e∈ns∨e=d):=by
    rw[hm e]
    constructor
    ·rintro ⟨r,hr,e'⟩
     rcases List.mem_append.mp hr with z|z
     ·exact .inl ⟨r,z,e'⟩
     ·rw[List.mem_singleton.mp z] at e';exact .inr e'.symm
    ·rintro (⟨r,z,e'⟩ | z)
     ·exact⟨r,List.mem_append_left _ z,e'⟩
     ·exact⟨_,List.mem_append_right _ (.head _),z.symm⟩
   rw[key]
   split
   ·rename_i z
    exact⟨.inl,fun y=>y.elim id fun y=>by rw[y];exact z⟩
   ·rw[List.mem_append,List.mem_singleton]
 ·rintro ns H1 s1 ⟨nd,hm⟩ hl hz
  rw[ht.1,List.take_length] at hm
  have h1:=ht.1
  refine⟨D,ns,rfl,hz,by omega,fun l ms hl' hp hs=>?_⟩
  refine q l ms _ (s1.free hl') ⟨?_,fun d=>by rw[hp.mem_iff];exact hm d,by rw[hp.length_eq];omega⟩ (s1.trans (yad hl' _)) yaa
  exact(hs.and (hp.nodup_iff.mpr nd)).imp fun ⟨z1,z2⟩=>by omega
theorem yjw (G_days_of:Cal P w K mg base CX0 1 "days_of" yfe yiw) (F:Fun K "stretches_of" "stretches_of" ybx f fd):FnOk P w K mg base CX0 2 f fd ycv yfv:=by
 refine F.ok sc_stretches_of (fun vs H Q E h=>?_) (fun cdv A outer s H vs Q E hr h=>?_)
 ·obtain ⟨a,rs,rfl,_⟩:=h;rfl
 obtain ⟨a,rs,rfl,hR,h3,hn,q⟩:=h
 refine⟨_,(yae (yas (i:=1) sc_stretches_of.nd rfl (Or.inr rfl) (yam G_days_of hr rfl ya1 (yaj (pv 0) yab)))
  (yah (yat (ywi (N':=["first","last","days"]) (ix:=[none,none,some 1]) (g:=(ybg 0)) (wi1:=yzy K (ycc 2)) (g1:=(ybg 1)) (ti:=(yna (tOp (rI0 fun i j=>.bl (decide (i≤j))) (ycc 0) (ycc 1)))) (te:=(ys1 (ybn (ycc 0) (ybn (ycc 1) yky)))) rfl (yaw (N:=ygs) (D:=yac ybx) (by decide +kernel)) (ya9 (pv 1)) (fun C s H fp=>(yai (i:=0) (show (["first","last","days"]:List Str).Nodup by decide +kernel) rfl (Or.inl rfl))) (fun C s H fp=>(ya9 (pv 2))) (fun C s H fp=>(yai (i:=1) (show (["first","last","days"]:List Str).Nodup by decide +kernel) rfl (Or.inl rfl))) (fun C s H fp=>(ye2 (yay ydk (pv 0) (pv 1) (ya7 _)))) (fun C s H fp=>(ybd (yaj (pv 0) (yaj (pv 1) yab)))))))),?_⟩
 refine⟨_,rfl,a,rs,rfl,hR,h3,by omega,fun dl ds H1 hdl hds s1 e1=>?_⟩
 have ld:ds.length≤31:=Nat.le_trans hds.2.2 hn
 refine⟨_,rfl,dl,rfl,⟨_,SqL.of e1⟩,fun D hD=>?_⟩
 have part:∀i j,yfx ds i j=((ds.take i).flatMap fun f=>(ds.filter fun l=>decide (f≤l)).map fun l=>[f,l])++((((ds.take j).filter fun l=>decide (ds.getD i 0≤l)).map fun l=>[ds.getD i 0,l])):=fun i j=>rfl
 refine⟨fun i m H2=>i+m=ds.length∧Same H1 H2∧Rows H2 D (yfx ds i 0),⟨ds.length,by omega,yad hD _,Rows.nil yaa⟩,?_⟩
 rintro i m H2 ⟨him,s2,R2⟩
 have e2:ybf H2 dl ds:=s2 _ _ e1
 by_cases hi:i<ds.length
 ·refine .inr ⟨⟨_,_,SqL.of e2,List.getElem?_eq_getElem (by rw[List.length_map];exact hi)⟩,?_⟩
  rintro x H' ⟨rfl,hx⟩
  obtain ⟨fi,rfl,efi⟩:=yc1 (hx _ (SqL.of e2))
  have gfi:ds.getD i 0=fi:=by rw[List.getD_eq_getElem?_getD,efi];rfl
  refine⟨ya5 ybi rfl,?_⟩
  refine⟨_,rfl,dl,rfl,⟨_,SqL.of e2⟩,?_⟩
  refine⟨fun j m1 H3=>j+m1=ds.length∧Same H1 H3∧Rows H3 D (yfx ds i j),⟨ds.length,by omega,s2,R2⟩,?_⟩
  rintro j m1 H3 ⟨hjm,s3,R3⟩
  have e3:ybf H3 dl ds:=s3 _ _ e1
  by_cases hj:j<ds.length
  ·refine .inr ⟨⟨_,_,SqL.of e3,List.getElem?_eq_getElem (by rw[List.length_map];exact hj)⟩,?_⟩
   rintro y H4 ⟨rfl,hy⟩
   obtain ⟨la,rfl,ela⟩:=yc1 (hy _ (SqL.of e3))
   refine⟨ya5 ybi rfl,?_⟩
   refine⟨_,rfl,_,rfl,_,_,rfl,rfl,_,rfl,?_⟩
   have ft:=yci (rs:=ds) (fun l=>decide (fi≤l)) ela
   by_cases c1:fi≤la
   ·rw[decide_eq_true c1]
    refine ycl ⟨_,rfl,_,rfl,by show 2≤sizeLine;decide,fun t ht=>?_⟩
    obtain ⟨ys,ey,eyl,_⟩:=R3.get
    have e4:yfx ds i (j+1)=yfx ds i j++[[fi,la]]:=by
     rw[part,part,gfi,ft,if_pos (decide_eq_true c1),List.map_append,← List.append_assoc];rfl
    refine⟨ys,by rw[yal (yak ey ht)];exact ey,yau (by rw[eyl];exact ywp ld),m1-1,by omega,by omega,(s3.trans (yad ht _)).young hD,?_⟩
    rw[e4]
    exact R3.push (r:=[fi,la]) ey ht
   ·rw[decide_eq_false c1]
    refine yct ⟨m1-1,by omega,by omega,s3,?_⟩
    have e4:yfx ds i (j+1)=yfx ds i j:=by
     rw[part,part,gfi,ft,if_neg (fun z=>c1 (of_decide_eq_true z)),List.append_nil]
    rw[e4]
    exact R3
  ·refine .inl ⟨⟨_,SqL.of e3,by rw[List.length_map];omega⟩,m-1,by omega,by omega,s3,?_⟩
   have e4:yfx ds (i+1) 0=yfx ds i j:=by
    rw[part,part,gfi,ybb efi,List.flatMap_append,List.take_of_length_le (by omega:ds.length≤j)]
    simp
   rw[e4]
   exact R3
 ·refine .inl ⟨⟨_,SqL.of e2,by rw[List.length_map];omega⟩,?_⟩
  refine q D ds H2 (s1.free hD) hds (s1.trans s2) ?_
  have e4:yfx ds i 0=(ybr ds).map fun p=>[p.1,p.2]:=by
   rw[part,List.take_of_length_le (by omega:ds.length≤i)]
   unfold ybr
   rw[List.map_flatMap]
   simp
   rfl
  rw[← e4]
  exact R2
theorem yjx (G_stretches_of:Cal P w K mg base CX0 2 "stretches_of" ycv yfv) (G_going:Cal P w K mg base CX0 1 "going" yhy yhw) (F:Fun K "against_each" "against_each" yby f fd):FnOk P w K mg base CX0 3 f fd ybz ydh:=by
 refine F.ok yjv (fun vs H Q E h=>?_) (fun cdv A outer s H vs Q E hr h=>?_)
 ·obtain ⟨a,b,tm,rs,os,rfl,_⟩:=h;rfl
 obtain ⟨a,b,tm,rs,os,rfl,hR,h3,rn,hO,h2,on,q⟩:=h
 refine⟨_,(yah (yat (yxs (ywe (N':=["stretch","outs","term"]) (ix:=[none,some 1,some 2]) (g:=(ybg 0)) (ti:=ykh) (tk:=(ycc 0)) (tv:=(ykf yhw [] E0 (ybn (ycc 1) (ybn (ycc 2) (ybn (ycc 0) yky))))) (Nat.lt_of_le_of_lt (Nat.le_add_right _ _) hr.units) rfl (yaw (N:=ygt) (D:=yac yby) (by decide +kernel)) (ya9 (yam G_stretches_of hr rfl ya1 (yaj (pv 0) yab))) (fun C s H fp=>(yai (i:=0) (show (["stretch","outs","term"]:List Str).Nodup by decide +kernel) rfl (Or.inl rfl))) (fun C s H fp=>ybs) (fun C s H fp=>(pv 0)) (fun C s H fp=>(yam G_going hr rfl ya1 (yaj (pv 1) (yaj (pv 2) (yaj (pv 0) yab))))))))),?_⟩
 refine⟨_,rfl,a,rs,rfl,hR,h3,rn,fun sl ds H1 hsl hds s1 R1=>?_⟩
 obtain ⟨xs,ex,ht⟩:=R1.tups
 have ld:ds.length≤31:=Nat.le_trans hds.2.2 rn
 have sn:=ymr ld
 have nd:=yju hds.1
 have O1:=hO.same s1
 refine⟨sl,rfl,⟨xs,SqL.of ex⟩,fun D hD=>?_⟩
 have lx:xs.length=(ybr ds).length:=by rw[ht.1,List.length_map]
 refine ywo (fun i zs _=>zs=slk ((ybr ds).take i) (ybc os tm)) hD ex (by omega) (fun i zs H1 H2 h k=>h) rfl ?_ ?_
 ·rintro i x zs H2 ei s2 rfl K1 K2 q1 q2
  obtain ⟨p,r,rfl,er,hp⟩:=ht.at ei
  rw[List.getElem?_map] at er
  cases ep:(ybr ds)[i]? with
  |none=>rw[ep] at er;cases er
  |some pr=>
   rw[ep] at er
   cases er
   obtain ⟨ff,la⟩:=pr
   refine⟨ya5 ybi rfl,_,rfl,_,rfl,_,rfl,_,rfl,b,p,tm,ff,la,os,rfl,O1.same s2,h2,on,s2 _ _ hp,fun H3 s3=>?_⟩
   refine q1 _ _ _ _ s3 ⟨yhe ff la,p,rfl,s3 _ _ (s2 _ _ hp),?_⟩
   have hni:(ff,la) ∉ (ybr ds).take i:=fun z=>by
    obtain ⟨hi,e'⟩:=List.getElem?_eq_some_iff.mp ep
    have:=List.nodup_append.mp (by rw[← List.take_append_drop i (ybr ds)] at nd;exact nd)
    exact this.2.2 _ z _ (by rw[List.drop_eq_getElem_cons hi,e'];exact .head _) rfl
   rw[ybb ep]
   exact yum hni
 ·rintro zs H2 s2 rfl hz
  rw[lx,List.take_length] at hz
  refine⟨D,_,rfl,hz,fun o=>?_⟩
  exact q D ds _ (s1.free hD) hds ((s1.trans s2).young (s1.free hD)) ⟨o,yaa⟩
theorem ypt (F:Fun K "lessened" "lessened" yen f fd):FnOk P w K mg base CX0 1 f fd yeo ygo:=by
 refine F.ok sc_lessened (fun vs H Q E h=>?_) (fun cdv A outer s H vs Q E hr h=>?_)
 ·obtain ⟨d,day,u,ks,v,rfl,_⟩:=h;rfl
 obtain ⟨d,day,u,ks,v,rfl,⟨o,ho⟩,nd,kn,q⟩:=h
 refine⟨_,(yae (yas (i:=3) sc_lessened.nd rfl (Or.inl rfl) ywd)
  (yae (ycr PassesOwn.never rfl (yqv (pv 0)) (ya8 rfl (yag (ya8 rfl (yag (yai (i:=4) sc_lessened.nd rfl (Or.inl rfl)) (yag (yai (i:=5) sc_lessened.nd rfl (Or.inl rfl)) yax))) (yag (yai (i:=6) sc_lessened.nd rfl (Or.inl rfl)) yax))) (yah (yyz (yz7 hr) (pv 3) (ybd (yaj (pv 4) (yaj (pv 5) yab))) (ylq (yd5 ydk ydk (pv 4) (pv 1) (pv 5)) (ybh yi0 (pv 6) (pv 2)) (pv 6)) rfl)))
  (yah (yat (yxs (pv 3)))))),?_⟩
 refine fun t ht=>?_
 have s1:=yad ht (.dT [])
 refine⟨_,rfl,d,o,_,rfl,s1 _ _ ho,?_⟩
 refine yuk (fun i σ H3=>∃o4 o5 o6,σ=[some (.ref d),some (.int day),some (.int u),some (.ref t),o4,o5,o6]∧Same H H3∧H3 t=some (.dT (slk (ks.take i) (yg0 v day u)))) ⟨_,_,_,rfl,s1,yaa⟩ ?_ ?_ ?_
 ·rintro i σ H3 ⟨o4,o5,o6,rfl,s3,_⟩
  exact s3 _ _ ho
 ·rintro i k x σ H3 p b ei ⟨o4,o5,o6,rfl,s3,e3⟩ hp hb
  unfold slk at ei
  rw[List.getElem?_map] at ei
  cases ep:ks[i]? with
  |none=>rw[ep] at ei;cases ei
  |some pr=>
   rw[ep] at ei
   cases ei
   obtain ⟨ff,la⟩:=pr
   have sN:=yad hp (.tup [.ref b,.int (v ff la)])
   have hb':=sN _ _ hb
   refine⟨p,_,rfl,SqT.of yaa,rfl,_,_,rfl,b,_,rfl,SqT.of hb',rfl,_,_,rfl,_,_,rfl,rfl,_,_,rfl,rfl,?_⟩
   have s4:=s3.trans sN
   have e4:=sN _ _ e3
   generalize L2.upd H3 p (.tup [.ref b,.int (v ff la)])=H4 at *
   have hni:(ff,la) ∉ ks.take i:=fun z=>by
    obtain ⟨hi,e'⟩:=List.getElem?_eq_some_iff.mp ep
    have:=List.nodup_append.mp (by rw[← List.take_append_drop i ks] at nd;exact nd)
    exact this.2.2 _ z _ (by rw[List.drop_eq_getElem_cons hi,e'];exact .head _) rfl
   have put:∀z:Int,z=yg0 v day u ff la→∃x H5,V.ref t=V.ref x∧True∧H5=H5:=fun z _=>⟨t,H4,rfl,trivial,rfl⟩
   have fin:∀z:Int,z=yg0 v day u ff la→∀(tp:Addr) (htp:H4 tp=none),∃a H5,V.ref t = .ref a∧DPut (L2.upd H4 tp (.tup [.int ff,.int la])) a (.ref tp) (.int z) H5∧(∃o4 o5 o6,([some (.ref d),some (.int day),some (.int u),some (.ref t),some (.int ff),some (.int la),some (.int (v ff la))]:St)=[some (.ref d),some (.int day),some (.int u),some (.ref t),o4,o5,o6]∧Same H H5∧H5 t=some (.dT (slk (ks.take (i+1)) (yg0 v day u)))):=fun z ez tp htp=>by
    have sT:=yad htp (.tup [.int ff,.int la])
    refine⟨t,_,rfl,DPut.t (k:=yhe ff la) (sT _ _ e4) yaa (yau (by unfold slk;rw[List.length_map,List.length_take];omega)),_,_,_,rfl,(s4.trans sT).young ht,?_⟩
    rw[yaa,ybb ep,ez,yum hni]
   refine⟨_,rfl,_,rfl,_,_,rfl,rfl,_,rfl,?_⟩
   by_cases c1:ff≤day
   ·rw[decide_eq_true c1]
    refine ycl ⟨_,rfl,_,_,rfl,rfl,_,rfl,?_⟩
    by_cases c2:day≤la
    ·rw[decide_eq_true c2]
     refine ycl ⟨_,rfl,_,rfl,_,_,rfl,rfl,_,rfl,_,rfl,_,rfl,by show 2≤sizeLine;decide,fun tp htp=>?_⟩
     exact fin _ (by unfold yg0;rw[if_pos ⟨c1,c2⟩]) tp htp
    ·rw[decide_eq_false c2]
     refine yct ⟨_,rfl,_,rfl,_,rfl,_,rfl,by show 2≤sizeLine;decide,fun tp htp=>?_⟩
     exact fin _ (by unfold yg0;rw[if_neg fun z=>c2 z.2]) tp htp
   ·rw[decide_eq_false c1]
    refine yct ⟨_,rfl,yct ⟨_,rfl,_,rfl,_,rfl,_,rfl,by show 2≤sizeLine;decide,fun tp htp=>?_⟩⟩
    exact fin _ (by unfold yg0;rw[if_neg fun z=>c1 z.1]) tp htp
 ·rintro σ H3 ⟨o4,o5,o6,rfl,s3,e3⟩
  have lk:(slk ks v).length=ks.length:=by unfold slk;rw[List.length_map]
  rw[lk,List.take_length] at e3
  exact⟨_,rfl,t,_,rfl,e3,fun o'=>q t _ ht (s3.young ht) ⟨o',yaa⟩⟩
theorem ymt (F:Fun K "none_lacks" "none_lacks" ycj f fd):FnOk P w K mg base CX0 1 f fd yeb yg1:=by
 refine F.ok yms (fun vs H Q E h=>?_) (fun cdv A outer s H vs Q E hr h=>?_)
 ·obtain ⟨d,ks,v,rfl,_⟩:=h;rfl
 obtain ⟨d,ks,v,rfl,⟨o,ho⟩,kn,q⟩:=h
 refine⟨_,(yah (yat (yaq (ynm rfl) rfl B.all PyProof.Rows.boot_all (yaj (yc0 (N':=["slack"]) (ix:=[none]) (g:=(ybg 0)) (ti:=ykh) (te:=(tOp (rI0 fun i j=>.bl (decide (j≤i))) (ycc 0) (tC (.int 0)))) rfl (yaw (N:=yij) (D:=yac ycj) (by decide +kernel)) (yui (pv 0)) (fun C s H fp=>(yai (i:=0) (show (["slack"]:List Str).Nodup by decide +kernel) rfl (Or.inl rfl))) (fun C s H fp=>ybs) (fun C s H fp=>(ysz ysy (pv 0) yaf (ya7 _)))) yab)))),?_⟩
 have lk:(slk ks v).length=ks.length:=by unfold slk;rw[List.length_map]
 refine⟨_,rfl,d,o,_,rfl,ho,fun D hD=>?_⟩
 refine yul (fun i zs _=>zs=((ks.take i).map fun p=>decide (0≤v p.1 p.2)).map V.bl) hD ho (by rw[lk];omega) (fun i zs H1 H2 h k=>h) rfl ?_ ?_
 ·rintro i k x zs H1 ei s1 rfl K1 K2 q1 q2
  unfold slk at ei
  rw[List.getElem?_map] at ei
  cases ep:ks[i]? with
  |none=>rw[ep] at ei;cases ei
  |some pr=>
   rw[ep] at ei
   cases ei
   refine⟨ya5 ybi rfl,_,rfl,_,_,rfl,rfl,q1 _ _ (Same.refl _) ?_⟩
   rw[ybb ep,List.map_append,List.map_append];rfl
 ·rintro zs H1 s1 rfl hl hz
  rw[lk,List.take_length] at hz
  refine⟨D,_,rfl,SqL.of hz,?_⟩
  have e:(ks.map fun p=>decide (0≤v p.1 p.2)).all id=decide (∀p∈ks,0≤v p.1 p.2):=by
   rw[Bool.eq_iff_iff,List.all_eq_true,decide_eq_true_iff]
   constructor
   ·intro h p hp
    exact of_decide_eq_true (h _ (List.mem_map.mpr ⟨p,hp,rfl⟩))
   ·intro h x hx
    obtain ⟨p,hp,rfl⟩:=List.mem_map.mp hx
    exact decide_eq_true (h p hp)
  rw[e]
  exact q H1 s1
theorem yr5 (F:Fun K "free_at" "free_at" yey f fd):FnOk P w K mg base CX0 1 f fd yf7 ymq:=by
 refine F.ok sc_free_at (fun vs H Q E h=>?_) (fun cdv A outer s H vs Q E hr h=>?_)
 ·obtain ⟨d,p,u,day,c,du,ks,v,rfl,_⟩:=h;rfl
 obtain ⟨d,p,u,day,c,du,ks,v,rfl,⟨o,ho⟩,kn,hp,q⟩:=h
 refine⟨_,(yae (ych (pv 1) (ya8 rfl (yag (yai (i:=3) sc_free_at.nd rfl (Or.inr rfl)) (yag (yai (i:=4) sc_free_at.nd rfl (Or.inl rfl)) (yag (yai (i:=5) sc_free_at.nd rfl (Or.inl rfl)) yax)))))
  (yae (yel (i:=6) sc_free_at.nd rfl (Or.inl rfl) (N':=["first","last","slack","day"]) (ix:=[none,none,none,some 3]) (g:=(ym6 K 2 (ybw (ym6 K 2 (ybw (ybg 0) (ybw (ybg 1) ym5))) (ybw (ybg 2) ym5)))) (ti:=(yna (ynb (rI0 fun i j=>.bl (decide (i≤j))) (rI0 fun i j=>.bl (decide (i≤j))) (ycc 0) (ycc 3) (ycc 1)))) (te:=(ycc 2)) rfl (yaw (N:=yog) (D:=yac yey) (by decide +kernel)) (yqv (pv 0)) (fun C s H fp=>(ya8 rfl (yag (ya8 rfl (yag (yai (i:=0) (show (["first","last","slack","day"]:List Str).Nodup by decide +kernel) rfl (Or.inl rfl)) (yag (yai (i:=1) (show (["first","last","slack","day"]:List Str).Nodup by decide +kernel) rfl (Or.inl rfl)) yax))) (yag (yai (i:=2) (show (["first","last","slack","day"]:List Str).Nodup by decide +kernel) rfl (Or.inl rfl)) yax)))) (fun C s H fp=>(ye2 (yd5 ydk ydk (pv 0) (pv 3) (pv 1)))) (fun C s H fp=>(pv 2)))
  (yah (yat (yaq (yuj rfl) rfl B.min PyProof.Rows.boot_min (yaj (ybh yg8 (yb5 (yaj (ybh yi0 (pv 4) (pv 2)) yab)) (pv 6)) yab)))))),?_⟩
 have lk:(slk ks v).length=ks.length:=by unfold slk;rw[List.length_map]
 refine⟨_,rfl,p,_,rfl,SqT.of hp,rfl,_,_,rfl,_,_,rfl,_,_,rfl,rfl,?_⟩
 refine⟨_,rfl,d,o,_,rfl,ho,fun D hD=>?_⟩
 have arB:∀q:Int×Int,(q.1≤day∧day≤q.2)↔(decide (q.1≤day∧day≤q.2))=true:=fun q=>by rw[decide_eq_true_iff]
 refine yr1 (fun i zs _=>zs=(((ks.take i).filter fun q=>decide (q.1≤day∧day≤q.2)).map fun q=>v q.1 q.2).map V.int) hD ho (by rw[lk];omega) (fun i zs H1 H2 h k=>h) rfl ?_ ?_
 ·rintro i k x zs H1 pp b ei s1 rfl hpp hb K1 K2 q1 q2
  unfold slk at ei
  rw[List.getElem?_map] at ei
  cases ep:ks[i]? with
  |none=>rw[ep] at ei;cases ei
  |some pr=>
   rw[ep] at ei
   cases ei
   obtain ⟨ff,la⟩:=pr
   have hb':=yad hpp (.tup [.ref b,.int (v ff la)]) _ _ hb
   have ft:=yci (rs:=ks) (fun q=>decide (q.1≤day∧day≤q.2)) ep
   refine⟨pp,_,rfl,SqT.of yaa,rfl,_,_,rfl,b,_,rfl,SqT.of hb',rfl,_,_,rfl,_,_,rfl,rfl,_,_,rfl,rfl,ya5 (ya5 (ya5 ybi rfl) rfl) rfl,?_⟩
   generalize L2.upd H1 pp (.tup [.ref b,.int (v ff la)])=H2 at *
   have no:¬ (ff≤day∧day≤la)→K2 H2:=fun z=>q2 _ (Same.refl _) (by rw[ft,if_neg (fun y=>z (of_decide_eq_true y)),List.append_nil])
   refine⟨_,rfl,_,rfl,_,_,rfl,rfl,_,rfl,?_⟩
   by_cases c1:ff≤day
   ·rw[decide_eq_true c1]
    refine ycl ⟨_,rfl,_,_,rfl,rfl,_,rfl,?_⟩
    by_cases c2:day≤la
    ·rw[decide_eq_true c2]
     refine ycl ⟨_,rfl,q1 _ _ (Same.refl _) ?_⟩
     rw[ft,if_pos (decide_eq_true ⟨c1,c2⟩),List.map_append,List.map_append];rfl
    ·rw[decide_eq_false c2]
     exact yct (no fun z=>c2 z.2)
   ·rw[decide_eq_false c1]
    exact yct ⟨_,rfl,yct (no fun z=>c1 z.1)⟩
 ·rintro zs H1 s1 rfl hl hz
  rw[lk,List.take_length] at hz
  refine⟨_,rfl,_,rfl,_,_,rfl,rfl,by show 1≤sizeLine;decide,fun l1 hl1=>?_⟩
  have s2:=yad (H:=H1) hl1 (.lst [.int (c-u)])
  refine⟨_,rfl,l1,D,_,_,rfl,rfl,yaa,s2 _ _ hz,Nat.le_of_lt (yau ?_),fun l2 hl2=>?_⟩
  ·rw[List.length_map,List.length_map,List.length_singleton]
   have:=List.length_filter_le (fun q:Int×Int=>decide (q.1≤day∧day≤q.2)) ks
   omega
  ·refine⟨l2,(c-u)::((ks.filter fun q=>decide (q.1≤day∧day≤q.2)).map fun q=>v q.1 q.2),rfl,SqL.of yaa,Nat.succ_pos _,fun M hM hle=>?_⟩
   refine q M _ ((s1.trans s2).trans (yad hl2 _)) ⟨hle _ (.head _),fun pr hpr z1 z2=>?_,?_⟩
   ·exact hle _ (.tail _ (List.mem_map.mpr ⟨pr,List.mem_filter.mpr ⟨hpr,decide_eq_true ⟨z1,z2⟩⟩,rfl⟩))
   ·rcases List.mem_cons.mp hM with z|z
    ·exact .inl z
    ·obtain ⟨pr,hpr,e⟩:=List.mem_map.mp z
     obtain ⟨h1,h2⟩:=List.mem_filter.mp hpr
     have h2':=of_decide_eq_true h2
     exact .inr ⟨pr,h1,h2'.1,h2'.2,e.symm⟩
end
end K28
namespace L2
open PySem PySem.Spec PySem.W PyProof.Rows
def yun (v:Int→Int→Int)(day left:Int):List (Int×Int)→Int
 |[]=>left
 |p::ks=>if p.1≤day∧day≤p.2∧v p.1 p.2<yun v day left ks then v p.1 p.2 else yun v day left ks
theorem yq1 (v:Int→Int→Int)(day left:Int):∀ks,FreeIs ks v day left (yun v day left ks)
 |[]=>⟨Int.le_refl _,fun p hp=>(by cases hp),.inl rfl⟩
 |p::ks=>by
  obtain ⟨h1,h2,h3⟩:=yq1 v day left ks
  unfold yun
  split
  ·rename_i c
   refine⟨by omega,fun q hq a b=>?_,.inr ⟨p,.head _,c.1,c.2.1,rfl⟩⟩
   rcases List.mem_cons.mp hq with e|e
   ·subst e;exact Int.le_refl _
   ·have:=h2 q e a b;omega
  ·rename_i c
   refine⟨h1,fun q hq a b=>?_,?_⟩
   ·rcases List.mem_cons.mp hq with e|e
    ·subst e
     exact Int.not_lt.mp fun z=>c ⟨a,b,z⟩
    ·exact h2 q e a b
   ·rcases h3 with z|⟨q,hq,a,b,e⟩
    ·exact .inl z
    ·exact .inr ⟨q,.tail _ hq,a,b,e⟩
theorem FreeIs.uniq {ks:List (Int×Int)}{v:Int→Int→Int}{day left M M':Int}(h:FreeIs ks v day left M)(h':FreeIs ks v day left M'):M=M':=by
 obtain ⟨a1,a2,a3⟩:=h
 obtain ⟨b1,b2,b3⟩:=h'
 refine Int.le_antisymm ?_ ?_
 ·rcases b3 with z|⟨p,hp,x,y,e⟩
  ·rw[z];exact a1
  ·rw[e];exact a2 p hp x y
 ·rcases a3 with z|⟨p,hp,x,y,e⟩
  ·rw[z];exact b1
  ·rw[e];exact b2 p hp x y
def yr6 (ks:List (Int×Int))(rs:List (List Int))(v:Int→Int→Int)(i:Int):Int:=yun v (yav rs 0 i) (yav rs 1 i) ks
def ydp (ks:List (Int×Int))(rs:List (List Int)):List Int→(Int→Int→Int)→List Int→(Int→Int→Int)×List Int
 |[],v,cs=>(v,cs)
 |i::os,v,cs=>ydp ks rs os (yg0 v (yav rs 0 i) (yr6 ks rs v i)) (cs.set i.toNat (yr6 ks rs v i))
theorem yhf (ks:List (Int×Int))(rs:List (List Int)):∀(os ps:List Int) (v:Int→Int→Int) (cs:List Int),ydp ks rs (os++ps) v cs=ydp ks rs ps (ydp ks rs os v cs).1 (ydp ks rs os v cs).2
 |[],ps,v,cs=>rfl
 |i::os,ps,v,cs=>yhf ks rs os ps _ _
theorem yh1 (ks:List (Int×Int))(rs:List (List Int)):∀(os:List Int) (v:Int→Int→Int) (cs:List Int),(ydp ks rs os v cs).2.length=cs.length
 |[],v,cs=>rfl
 |i::os,v,cs=>by
  show (ydp ks rs os _ _).2.length=_
  rw[yh1,List.length_set]
def Within (rs:List (List Int))(cs:List Int):Prop:=∀(j:Nat) u,cs[j]? = some u→0≤u∧u≤yav rs 1 (j:Int)
def BestIs (rs os:List (List Int))(tm:Int)(cs:List Int):Prop:=∃ds ord,ydo rs ds∧ydt (yyt rs) rs.length ord∧cs=(ydp (ybr ds) rs ord (ybc os tm) (List.replicate rs.length 0)).2
theorem BestIs.len {rs os:List (List Int)}{tm:Int}{cs:List Int}(h:BestIs rs os tm cs):cs.length=rs.length:=by
 obtain ⟨ds,ord,_,_,rfl⟩:=h
 rw[yh1,List.length_replicate]
theorem yuo {rs rs':List (List Int)}{ds ds':List Int}(h:ydo rs ds)(h':ydo rs' ds')(e:∀d,(∃r∈rs,r.getD 0 0=d)↔∃r∈rs',r.getD 0 0=d):ds=ds':=by
 refine List.Perm.eq_of_pairwise (le:=(· < ·)) (fun a b _ _ x y=>by omega) h.1 h'.1 ?_
 refine(List.perm_ext_iff_of_nodup (yg2 h.1) (yg2 h'.1)).mpr fun d=>?_
 rw[h.2.1 d,h'.2.1 d]
 exact e d
theorem yxu {rs:List (List Int)}(h:∀r∈rs,0≤r.getD 1 0)(i:Int):0≤yav rs 1 i:=by
 unfold yav
 rw[List.getD_eq_getElem?_getD (l:=rs)]
 cases e:rs[i.toNat]? with
 |none=>exact Int.le_refl _
 |some r=>exact h r (List.mem_of_getElem? e)
def ymu:Sp:=fun vs H Q _=>∃(a b:Addr) (tm:Int) (rs os:List (List Int)),vs=[.ref a,.ref b,.int tm]∧Rows H a rs∧(∀r∈rs,r.length=3)∧rs.length≤31∧Rows H b os∧(∀r∈os,r.length=2)∧os.length≤100∧∀l cs H',H l=none→BestIs rs os tm cs→Same H H'→ybf H' l cs→Q (.ref l) H'
theorem ypu {rs os:List (List Int)}{tm:Int}(h:ybj rs os tm=none):rs.length≤30∧os.length≤30∧ybk rs=none∧ybk os=none:=by
 have one:∀{qs:List (List Int)},ya3 qs=none→qs.length≤30∧ybk qs=none:=by
  intro qs e
  unfold ya3 at e
  split at e
  ·cases e
  ·rename_i z
   exact⟨by omega,Option.map_eq_none_iff.mp e⟩
 unfold ybj at h
 cases e1:ya3 rs with
 |some n=>rw[e1] at h;cases h
 |none=>
  rw[e1] at h
  cases e2:ya3 os with
  |some n=>rw[e2] at h;cases h
  |none=>exact⟨(one e1).1,(one e2).1,(one e1).2,(one e2).2⟩
theorem yza {os:List (List Int)}(h:ybk os=none)(h2:∀r∈os,r.length=2):∀r∈os,0≤r.getD 1 0:=by
 unfold ybk at h
 rw[List.findSome?_eq_none_iff] at h
 intro r hr
 have e:=h r hr
 obtain ⟨d,c,rfl⟩:=ypb (h2 r hr)
 simp only[yb2] at e
 split at e
 ·split at e
  ·rename_i z
   show (0:Int)≤c
   omega
  ·cases e
 ·cases e
end L2
namespace K28
open PySem L2
abbrev ye4:Stmt:=top 29
abbrev ymv:List Str:=["rows","ages"]
abbrev yhg:List Str:=["rows"]
theorem sc_eldest:FnScope ymv yhg (yac ye4):=⟨rfl,rfl,rfl,by decide +kernel,rfl,by decide +kernel,by decide +kernel⟩
abbrev yec:Stmt:=top 30
abbrev yjy:List Str:=["lots","ranks"]
abbrev yf8:List Str:=["lots"]
theorem sc_dearest:FnScope yjy yf8 (yac yec):=⟨rfl,rfl,rfl,by decide +kernel,rfl,by decide +kernel,by decide +kernel⟩
abbrev yb6:Stmt:=top 28
abbrev yjz:List Str:=["lots","taken","lot","units"]
abbrev yck:List Str:=["lots","taken"]
theorem sc_checked_taken:FnScope yjz yck (yac yb6):=⟨rfl,rfl,rfl,by decide +kernel,rfl,by decide +kernel,by decide +kernel⟩
abbrev yff:Stmt:=top 52
abbrev yup:List Str:=["lots","outs","term","counts","slacks","at"]
abbrev yf9:List Str:=["lots","outs","term"]
theorem sc_best_of:FnScope yup yf9 (yac yff):=⟨rfl,rfl,rfl,by decide +kernel,rfl,by decide +kernel,by decide +kernel⟩
section
variable {P:Program}{w:World}{K:PySem.W.Frag}{mg:Str→Option Value}{base:Heap}{f:Addr}{fd:FuncData}{cl:Nat→Addr}(T:Txt K mg cl)(B:Bn mg)
include T B
theorem yuq (F:Fun K "eldest" "eldest" ye4 f fd):FnOk P w K mg base CX0 1 f fd yhg (yro yki okE):=by
 refine F.ok sc_eldest (fun vs H Q E h=>?_) (fun cdv A outer s H vs Q E hr h=>?_)
 ·obtain ⟨a,rs,rfl,_⟩:=h;rfl
 obtain ⟨a,rs,rfl,hR,h60,hok,q⟩:=h
 refine⟨_,(yae (yel (i:=1) sc_eldest.nd rfl (Or.inl rfl) (N':=["at","row"]) (ix:=[none,none]) (g:=(ym6 K 2 (ybw (ybg 0) (ybw (ybg 1) ym5)))) (ti:=ykh) (te:=(ys1 (ybn (tOp (yvj K) (ycc 1) (tC (.int 0))) (ybn (ycc 0) yky)))) rfl (yaw (N:=ymv) (D:=yac ye4) (by decide +kernel)) (yi6 rfl B.enumerate (yaj (pv 0) yab)) (fun C s H fp=>(ya8 rfl (yag (yai (i:=0) (show (["at","row"]:List Str).Nodup by decide +kernel) rfl (Or.inl rfl)) (yag (yai (i:=1) (show (["at","row"]:List Str).Nodup by decide +kernel) rfl (Or.inl rfl)) yax)))) (fun C s H fp=>ybs) (fun C s H fp=>(ybd (yaj (yba ybt (pv 1) yaf (fun _ _=>rfl)) (yaj (pv 0) yab)))))
  (yah (yat (yc0 (N':=["day","at"]) (ix:=[none,none]) (g:=(ym6 K 2 (ybw (ybg 0) (ybw (ybg 1) ym5)))) (ti:=ykh) (te:=(ycc 1)) rfl (yaw (N:=ymv) (D:=yac ye4) (by decide +kernel)) (ya9 (yaq yk5 rfl B.sorted PyProof.Rows.boot_sorted (yaj (pv 1) yab))) (fun C s H fp=>(ya8 rfl (yag (yai (i:=0) (show (["day","at"]:List Str).Nodup by decide +kernel) rfl (Or.inl rfl)) (yag (yai (i:=1) (show (["day","at"]:List Str).Nodup by decide +kernel) rfl (Or.inl rfl)) yax)))) (fun C s H fp=>ybs) (fun C s H fp=>(pv 1)))))),?_⟩
 obtain ⟨xs,ex,exl,exi⟩:=hR.get
 refine⟨_,rfl,a,xs,rfl,SqL.of ex,fun D1 hD1=>⟨fun i m H3=>i+m=xs.length∧Same H H3∧Rows H3 D1 ((ydl i).map (yki rs)),⟨xs.length,by omega,yad hD1 _,Rows.nil yaa⟩,?_⟩⟩
 rintro i m H3 ⟨him,sm,R3⟩
 by_cases hi:i<xs.length
 ·refine .inr ⟨⟨xs,xs[i],SqL.of (sm _ _ ex),List.getElem?_eq_getElem hi⟩,?_⟩
  rintro x H' ⟨p,x',rfl,hp,rfl,hx⟩
  have e1:=hx xs (SqL.of (sm _ _ ex))
  obtain ⟨pr,r,rfl,er,hpr⟩:=exi i x' e1
  obtain ⟨d,r',rfl⟩ : ∃d r',r=d::r':=by
   match r,hok r (List.mem_of_getElem? er) with
   |d::r',_=>exact⟨d,r',rfl⟩
  refine⟨p,_,rfl,SqT.of yaa,rfl,_,_,rfl,_,_,rfl,rfl,?_,?_⟩
  ·intro k v e
   match k,e with
   |0,e=>cases e
   |1,e=>cases e
   |k+2,e=>cases e
  ·have hpr':L2.upd H3 p (.tup [.int (i:Int),.ref pr]) pr=some (.tup ((d::r').map V.int)):=yad hp _ _ _ (sm _ _ hpr)
   refine⟨_,rfl,pr,_,_,.int d,rfl,rfl,SqT.of hpr',ylz (by decide) rfl,_,rfl,by show 2≤sizeLine;decide,fun t ht=>?_⟩
   obtain ⟨ys,ey,eyl,_⟩:=(R3.same (yad hp (.tup [.int (i:Int),.ref pr]))).get
   refine⟨ys,yad ht _ _ _ ey,yau (by rw[eyl,List.length_map,ybe];omega),m-1,by omega,by omega,((sm.trans (yad hp _)).trans (yad ht _)).young hD1,?_⟩
   have e2:yki rs ((i:Nat):Int)=[d,(i:Int)]:=by
    unfold yki yav
    rw[yfd er];rfl
   rw[yhu,List.map_append,List.map_singleton,e2]
   exact(R3.same (yad hp _)).push (r:=[d,(i:Int)]) ey ht
 ·refine .inl ⟨⟨xs,SqL.of (sm _ _ ex),by omega⟩,?_⟩
  have ei:i=rs.length:=by omega
  subst ei
  refine⟨_,rfl,D1,_,2,rfl,R3,by rw[List.length_map,ybe];omega,fun r hr=>?_,by decide,fun l ss H4 hl4 hp4 ho4 s4 R4=>?_⟩
  ·obtain ⟨j,_,rfl⟩:=List.mem_map.mp hr
   rfl
  have lss:ss.length=rs.length:=by rw[hp4.length_eq,List.length_map,ybe]
  have wss:∀r∈ss,∃x y:Int,r=[x,y]:=fun r hr=>by
   obtain ⟨j,_,rfl⟩:=List.mem_map.mp (hp4.mem_iff.mp hr)
   exact⟨_,_,rfl⟩
  obtain ⟨zs,ez,ezl,ezi⟩:=R4.get
  refine⟨l,rfl,⟨zs,SqL.of ez⟩,fun D2 hD2=>⟨fun i m H5=>i+m=zs.length∧Same H4 H5∧H5 D2=some (.lst ((ss.take i).map fun r=>V.int (r.getD 1 0))),⟨zs.length,by omega,yad hD2 _,yaa⟩,?_⟩⟩
  rintro i m H5 ⟨him5,s5,h5⟩
  by_cases hi5:i<zs.length
  ·refine .inr ⟨⟨zs,zs[i],SqL.of (s5 _ _ ez),List.getElem?_eq_getElem hi5⟩,?_⟩
   rintro x H' ⟨rfl,hx⟩
   have e1:=hx zs (SqL.of (s5 _ _ ez))
   obtain ⟨pr,r,rfl,er,hpr⟩:=ezi i x e1
   obtain ⟨x1,x2,rfl⟩:=wss r (List.mem_of_getElem? er)
   refine⟨pr,_,rfl,SqT.of (s5 _ _ hpr),rfl,_,_,rfl,_,_,rfl,rfl,?_,?_⟩
   ·intro k v e
    match k,e with
    |0,e=>cases e
    |1,e=>cases e
    |k+2,e=>cases e
   ·refine⟨_,rfl,_,h5,yau (by rw[List.length_map,List.length_take];omega),m-1,by omega,by omega,s5.young hD2,?_⟩
    rw[yaa,← yf2 er,List.map_append]
    rfl
  ·refine .inl ⟨⟨zs,SqL.of (s5 _ _ ez),by omega⟩,?_⟩
   have ei5:ss.take i=ss:=List.take_of_length_le (by omega)
   rw[ei5] at h5
   refine q D2 (ss.map fun r=>r.getD 1 0) H5 ?_ ((sm.trans s4).trans s5) (yk6 (lst:=fun r=>r.getD 1 0) (fun _=>rfl) hp4 ho4) (by rw[List.map_map];exact h5)
   exact(sm.trans s4).free hD2
theorem yr7 (F:Fun K "dearest" "dearest" yec f fd):FnOk P w K mg base CX0 1 f fd yf8 (yro yyt okD):=by
 refine F.ok sc_dearest (fun vs H Q E h=>?_) (fun cdv A outer s H vs Q E hr h=>?_)
 ·obtain ⟨a,rs,rfl,_⟩:=h;rfl
 obtain ⟨a,rs,rfl,hR,h60,hok,q⟩:=h
 refine⟨_,(yae (yel (i:=1) sc_dearest.nd rfl (Or.inl rfl) (N':=["at","day","count","duty"]) (ix:=[none,none,none,none]) (g:=(ym6 K 2 (ybw (ybg 0) (ybw (ym6 K 3 (ybw (ybg 1) (ybw (ybg 2) (ybw (ybg 3) ym5)))) ym5)))) (ti:=ykh) (te:=(ys1 (ybn (tUn (rU fun i=>.int (-i)) (ycc 3)) (ybn (ycc 1) (ybn (ycc 0) yky))))) rfl (yaw (N:=yjy) (D:=yac yec) (by decide +kernel)) (yi6 rfl B.enumerate (yaj (pv 0) yab)) (fun C s H fp=>(ya8 rfl (yag (yai (i:=0) (show (["at","day","count","duty"]:List Str).Nodup by decide +kernel) rfl (Or.inl rfl)) (yag (ya8 rfl (yag (yai (i:=1) (show (["at","day","count","duty"]:List Str).Nodup by decide +kernel) rfl (Or.inl rfl)) (yag (yai (i:=2) (show (["at","day","count","duty"]:List Str).Nodup by decide +kernel) rfl (Or.inl rfl)) (yag (yai (i:=3) (show (["at","day","count","duty"]:List Str).Nodup by decide +kernel) rfl (Or.inl rfl)) yax)))) yax)))) (fun C s H fp=>ybs) (fun C s H fp=>(ybd (yaj (ysu ym9 (pv 3)) (yaj (pv 1) (yaj (pv 0) yab))))))
  (yah (yat (yc0 (N':=["duty","day","at"]) (ix:=[none,none,none]) (g:=(ym6 K 3 (ybw (ybg 0) (ybw (ybg 1) (ybw (ybg 2) ym5))))) (ti:=ykh) (te:=(ycc 2)) rfl (yaw (N:=yjy) (D:=yac yec) (by decide +kernel)) (ya9 (yaq yk5 rfl B.sorted PyProof.Rows.boot_sorted (yaj (pv 1) yab))) (fun C s H fp=>(ya8 rfl (yag (yai (i:=0) (show (["duty","day","at"]:List Str).Nodup by decide +kernel) rfl (Or.inl rfl)) (yag (yai (i:=1) (show (["duty","day","at"]:List Str).Nodup by decide +kernel) rfl (Or.inl rfl)) (yag (yai (i:=2) (show (["duty","day","at"]:List Str).Nodup by decide +kernel) rfl (Or.inl rfl)) yax))))) (fun C s H fp=>ybs) (fun C s H fp=>(pv 2)))))),?_⟩
 obtain ⟨xs,ex,exl,exi⟩:=hR.get
 refine⟨_,rfl,a,xs,rfl,SqL.of ex,fun D1 hD1=>⟨fun i m H3=>i+m=xs.length∧Same H H3∧Rows H3 D1 ((ydl i).map (yyt rs)),⟨xs.length,by omega,yad hD1 _,Rows.nil yaa⟩,?_⟩⟩
 rintro i m H3 ⟨him,sm,R3⟩
 by_cases hi:i<xs.length
 ·refine .inr ⟨⟨xs,xs[i],SqL.of (sm _ _ ex),List.getElem?_eq_getElem hi⟩,?_⟩
  rintro x H' ⟨p,x',rfl,hp,rfl,hx⟩
  have e1:=hx xs (SqL.of (sm _ _ ex))
  obtain ⟨pr,r,rfl,er,hpr⟩:=exi i x' e1
  obtain ⟨d,c,u,rfl⟩:=yl2 (hok r (List.mem_of_getElem? er))
  have hpr':L2.upd H3 p (.tup [.int (i:Int),.ref pr]) pr=some (.tup ([d,c,u].map V.int)):=yad hp _ _ _ (sm _ _ hpr)
  refine⟨p,_,rfl,SqT.of yaa,rfl,_,_,rfl,_,_,rfl,⟨pr,_,rfl,SqT.of hpr',rfl,_,_,rfl,_,_,rfl,_,_,rfl,rfl,rfl,?_,?_⟩⟩
  ·intro k v e
   match k,e with
   |0,e=>cases e
   |1,e=>cases e
   |2,e=>cases e
   |3,e=>cases e
   |k+4,e=>cases e
  ·refine⟨_,rfl,_,rfl,_,rfl,_,rfl,by show 3≤sizeLine;decide,fun t ht=>?_⟩
   obtain ⟨ys,ey,eyl,_⟩:=(R3.same (yad hp (.tup [.int (i:Int),.ref pr]))).get
   refine⟨ys,yad ht _ _ _ ey,yau (by rw[eyl,List.length_map,ybe];omega),m-1,by omega,by omega,((sm.trans (yad hp _)).trans (yad ht _)).young hD1,?_⟩
   have e2:yyt rs ((i:Nat):Int)=[-u,d,(i:Int)]:=by
    unfold yyt yav
    rw[yfd er];rfl
   rw[yhu,List.map_append,List.map_singleton,e2]
   exact(R3.same (yad hp _)).push (r:=[-u,d,(i:Int)]) ey ht
 ·refine .inl ⟨⟨xs,SqL.of (sm _ _ ex),by omega⟩,?_⟩
  have ei:i=rs.length:=by omega
  subst ei
  refine⟨_,rfl,D1,_,3,rfl,R3,by rw[List.length_map,ybe];omega,fun r hr=>?_,by decide,fun l ss H4 hl4 hp4 ho4 s4 R4=>?_⟩
  ·obtain ⟨j,_,rfl⟩:=List.mem_map.mp hr
   rfl
  have lss:ss.length=rs.length:=by rw[hp4.length_eq,List.length_map,ybe]
  have wss:∀r∈ss,∃x y z:Int,r=[x,y,z]:=fun r hr=>by
   obtain ⟨j,_,rfl⟩:=List.mem_map.mp (hp4.mem_iff.mp hr)
   exact⟨_,_,_,rfl⟩
  obtain ⟨zs,ez,ezl,ezi⟩:=R4.get
  refine⟨l,rfl,⟨zs,SqL.of ez⟩,fun D2 hD2=>⟨fun i m H5=>i+m=zs.length∧Same H4 H5∧H5 D2=some (.lst ((ss.take i).map fun r=>V.int (r.getD 2 0))),⟨zs.length,by omega,yad hD2 _,yaa⟩,?_⟩⟩
  rintro i m H5 ⟨him5,s5,h5⟩
  by_cases hi5:i<zs.length
  ·refine .inr ⟨⟨zs,zs[i],SqL.of (s5 _ _ ez),List.getElem?_eq_getElem hi5⟩,?_⟩
   rintro x H' ⟨rfl,hx⟩
   have e1:=hx zs (SqL.of (s5 _ _ ez))
   obtain ⟨pr,r,rfl,er,hpr⟩:=ezi i x e1
   obtain ⟨x1,x2,x3,rfl⟩:=wss r (List.mem_of_getElem? er)
   refine⟨pr,_,rfl,SqT.of (s5 _ _ hpr),rfl,_,_,rfl,_,_,rfl,_,_,rfl,rfl,?_,?_⟩
   ·intro k v e
    match k,e with
    |0,e=>cases e
    |1,e=>cases e
    |2,e=>cases e
    |k+3,e=>cases e
   ·refine⟨_,rfl,_,h5,yau (by rw[List.length_map,List.length_take];omega),m-1,by omega,by omega,s5.young hD2,?_⟩
    rw[yaa,← yf2 er,List.map_append]
    rfl
  ·refine .inl ⟨⟨zs,SqL.of (s5 _ _ ez),by omega⟩,?_⟩
   have ei5:ss.take i=ss:=List.take_of_length_le (by omega)
   rw[ei5] at h5
   refine q D2 (ss.map fun r=>r.getD 2 0) H5 ?_ ((sm.trans s4).trans s5) (yk6 (lst:=fun r=>r.getD 2 0) (fun _=>rfl) hp4 ho4) (by rw[List.map_map];exact h5)
   exact(sm.trans s4).free hD2
theorem yio (F:Fun K "checked_taken" "checked_taken" yb6 f fd):FnOk P w K mg base (CXE P w) 2 f fd yck (yhv (cl 7)):=by
 refine F.okE sc_checked_taken (fun vs H Q E h=>?_) (fun cdv A outer s H vs Q E hr h=>?_)
 ·obtain ⟨a,b,rs,ts,rfl,_⟩:=h;rfl
 obtain ⟨a,b,rs,ts,rfl,hR,h3,hb,hn,hm,q1,q2⟩:=h
 refine⟨_,(yae (yb7 (yay yrg (yaq yar rfl B.len PySem.boot_len (yaj (pv 1) yab)) (yaq yar rfl B.len PySem.boot_len (yaj (pv 0) yab)) (ya7 _)) (yah (yei (E:=E) rfl T.gBadTaken T.eBadTaken PySem.F.excBase_ValueError rfl yg9 (yaj ybl yab))) ya6)
  (yae (ycr PassesOwn.leaving rfl (yqe rfl B.zip (yaj (pv 0) (yaj (pv 1) yab))) (ya8 rfl (yag (yai (i:=2) sc_checked_taken.nd rfl (Or.inl rfl)) (yag (yai (i:=3) sc_checked_taken.nd rfl (Or.inl rfl)) yax))) (yah (yb7 (yfa (yd5 ydk ydk yaf (pv 3) (yba ybt (pv 2) yaf (fun _ _=>rfl)))) (yah (yei (E:=E) rfl T.gBadTaken T.eBadTaken PySem.F.excBase_ValueError rfl yg9 (yaj ybl yab))) ya6)))
  (yah (yat (yfb ye1 rfl B.list PyProof.Rows.boot_list (yaj (pv 1) yab)))))),?_⟩
 obtain ⟨xs,ex,exl,exi⟩:=hR.get
 refine⟨_,rfl,b,_,rfl,.inl (SqL.of hb),_,rfl,a,_,rfl,.inl (SqL.of ex),rfl,_,rfl,?_⟩
 rw[List.length_map]
 by_cases c:ts.length=rs.length
 ·rw[decide_eq_true (by rw[exl,c]:V.int (ts.length:Int)=V.int (xs.length:Int))]
  refine yct ?_
  refine⟨_,rfl,_,rfl,true,true,a,b,xs,_,rfl,SqL.of ex,SqL.of hb,?_⟩
  refine yo4 (xs:=xs) (ys:=ts.map V.int) (b1:=true) (b2:=true) (fun i σ H3=>∃o2 o3,σ=[some (.ref a),some (.ref b),o2,o3]∧Same H H3∧yk7 rs ts i) ⟨_,_,rfl,Same.refl H,yjc⟩ ?_ ?_ ?_
  ·rintro i σ H3 hi ⟨o2,o3,rfl,sm,_⟩
   exact⟨SqL.of (sm _ _ ex),SqL.of (sm _ _ hb)⟩
  ·rintro i x y σ H3 p e1 e2 ⟨o2,o3,rfl,sm,hg⟩ hp
   obtain ⟨pr,r,rfl,er,hpr⟩:=exi i x e1
   obtain ⟨v,rfl,ev⟩:=yc1 e2
   obtain ⟨d,cc,u,rfl⟩:=yl2 (h3 r (List.mem_of_getElem? er))
   have sp:=sm.trans (yad hp (.tup [.ref pr,.int v]))
   refine⟨p,_,rfl,SqT.of yaa,rfl,_,_,rfl,_,_,rfl,rfl,?_⟩
   have bad:¬ (0≤v∧v≤cc)→¬ ye9 rs ts:=fun z ok=>z (ok.2 i _ _ (List.getElem?_eq_some_iff.mp er).1 er ev)
   refine⟨_,rfl,_,_,rfl,rfl,_,rfl,?_⟩
   by_cases c1:0≤v
   ·rw[decide_eq_true c1]
    refine ycl ⟨_,rfl,pr,_,_,.int cc,rfl,rfl,SqT.of (sp _ _ hpr),rfl,_,_,rfl,rfl,_,rfl,?_⟩
    by_cases c2:v≤cc
    ·rw[decide_eq_true c2]
     exact yct ⟨_,_,rfl,sp,(yjd er ev).mpr ⟨hg,c1,c2⟩⟩
    ·rw[decide_eq_false c2]
     exact ycl ⟨by show 1≤sizeLine;decide,q1 (bad fun z=>c2 z.2) _ sp⟩
   ·rw[decide_eq_false c1]
    exact yct ⟨_,rfl,ycl ⟨by show 1≤sizeLine;decide,q1 (bad fun z=>c1 z.1) _ sp⟩⟩
  ·rintro σ H3 ⟨o2,o3,rfl,sm,hg⟩
   rw[List.length_map,show min xs.length ts.length=rs.length by omega] at hg
   exact⟨_,rfl,b,_,rfl,.inl (SqL.of (sm _ _ hb)),fun l hl=>q2 ⟨c,hg⟩ l _ (sm.free hl) (sm.trans (yad hl _)) yaa⟩
 ·rw[decide_eq_false (by intro z;have:=V.int.inj z;omega:¬ V.int (ts.length:Int)=V.int (xs.length:Int))]
  exact ycl ⟨by show 1≤sizeLine;decide,q1 (fun z=>c z.1) H (Same.refl H)⟩
theorem yr8 (G_against_each:Cal P w K mg base CX0 3 "against_each" ybz ydh) (G_dearest:Cal P w K mg base CX0 1 "dearest" yf8 (yro yyt okD)) (G_free_at:Cal P w K mg base CX0 1 "free_at" yf7 ymq) (G_lessened:Cal P w K mg base CX0 1 "lessened" yeo ygo) (F:Fun K "best_of" "best_of" yff f fd):FnOk P w K mg base CX0 4 f fd yf9 ymu:=by
 refine F.ok sc_best_of (fun vs H Q E h=>?_) (fun cdv A outer s H vs Q E hr h=>?_)
 ·obtain ⟨a,b,tm,rs,os,rfl,_⟩:=h;rfl
 obtain ⟨a,b,tm,rs,os,rfl,hR,h3,rn,hO,h2,on,q⟩:=h
 refine⟨_,(yae (yas (i:=3) sc_best_of.nd rfl (Or.inl rfl) (ybh ys6 (yb5 (yaj yaf yab)) (yaq yar rfl B.len PySem.boot_len (yaj (pv 0) yab))))
  (yae (yas (i:=4) sc_best_of.nd rfl (Or.inl rfl) (yam G_against_each hr rfl ya1 (yaj (pv 0) (yaj (pv 1) (yaj (pv 2) yab)))))
  (yae (ycr PassesOwn.never rfl (ya9 (yam G_dearest hr rfl ya1 (yaj (pv 0) yab))) (yai (i:=5) sc_best_of.nd rfl (Or.inl rfl)) (yae (ych (yam G_free_at hr rfl ya1 (yaj (pv 4) (yaj (yba ya2 (pv 0) (pv 5) (fun _ _=>rfl)) (yaj yaf yab)))) (yg3 (pv 3) (pv 5) ydc))
   (yah (yas (i:=4) sc_best_of.nd rfl (Or.inl rfl) (yam G_lessened hr rfl ya1 (yaj (pv 4) (yaj (yba ybt (yba ya2 (pv 0) (pv 5) (fun _ _=>rfl)) yaf (fun _ _=>rfl)) (yaj (yba ya2 (pv 3) (pv 5) (fun _ _=>rfl)) yab))))))))
  (yah (yat (pv 3)))))),?_⟩
 obtain ⟨xs,ex,ht⟩:=hR.tups
 have lx:=ht.1
 refine⟨by show 1≤sizeLine;decide,fun z hz=>?_⟩
 have sz:=yad (H:=H) hz (.lst [.int 0])
 refine⟨_,rfl,a,xs,rfl,.inl (SqL.of (sz _ _ ex)),z,(xs.length:Int),_,rfl,rfl,yaa,by omega,by omega,?_,fun l hl=>?_⟩
 ·show 1*(xs.length:Int).toNat≤sizeLine
  exact Nat.le_of_lt (yau (by omega))
 have s1:=sz.trans (yad hl (.lst (List.replicate (xs.length:Int).toNat [V.int 0]).flatten))
 have hl0:H l=none:=sz.free hl
 have e1:ybf (L2.upd (L2.upd H z (.lst [.int 0])) l (.lst (List.replicate (xs.length:Int).toNat [V.int 0]).flatten)) l (List.replicate rs.length 0):=by
  unfold ybf
  rw[yaa,List.map_replicate,Int.toNat_natCast,lx]
  congr 2
  induction rs.length with
  |zero=>rfl
  |succ k ih=>rw[List.replicate_succ,List.flatten_cons,ih];rfl
 generalize L2.upd (L2.upd H z (.lst [.int 0])) l (.lst (List.replicate (xs.length:Int).toNat [V.int 0]).flatten)=H1 at s1 e1 ⊢
 refine⟨_,rfl,_,rfl,_,rfl,a,b,tm,rs,os,rfl,hR.same s1,h3,rn,hO.same s1,h2,on,fun d ds H2 hd hds s2 S2=>?_⟩
 have ld:ds.length≤31:=Nat.le_trans hds.2.2 rn
 have sn:=ymr ld
 have nd:=yju hds.1
 refine⟨_,rfl,a,rs,rfl,hR.same (s1.trans s2),by omega,h3,fun dl ord H3 hdl s3 hord e3=>?_⟩
 refine⟨dl,rfl,⟨_,SqL.of e3⟩,?_⟩
 have s13:=s2.trans s3
 have hdl1:H1 dl=none:=s2.free hdl
 have nl:l≠dl:=yak e1 hdl1
 refine ydb (xs:=ord.map V.int) (fun i σ H4=>∃d4 o5,σ=[some (.ref a),some (.ref b),some (.int tm),some (.ref l),some (.ref d4),o5]∧Same H H4∧H4 dl=some (.lst (ord.map V.int))∧SlAt H4 d4 (ybr ds) (ydp (ybr ds) rs (ord.take i) (ybc os tm) (List.replicate rs.length 0)).1∧ybf H4 l (ydp (ybr ds) rs (ord.take i) (ybc os tm) (List.replicate rs.length 0)).2) ⟨_,_,rfl,s1.trans s13,e3,S2.same s3,s13 _ _ e1⟩ ?_ ?_ ?_
 ·rintro i σ H4 hi ⟨d4,o5,rfl,sm,e4,_⟩
  exact SqL.of e4
 ·rintro i x σ H4 exi ⟨d4,o5,rfl,sm,e4,S4,I4⟩
  obtain ⟨at',rfl,eat⟩:=yc1 exi
  have hat:=uptoN_mem.mp (hord.1.mem_iff.mp (List.mem_of_getElem? eat))
  obtain ⟨k,rfl⟩ : ∃k:Nat,at'=(k:Int):=⟨at'.toNat,by omega⟩
  have hk:k<xs.length:=by omega
  obtain ⟨p,r,ep,er,hp⟩:=ht.at (List.getElem?_eq_getElem hk)
  obtain ⟨dd,cc,uu,rfl⟩:=yl2 (h3 r (List.mem_of_getElem? er))
  have c0:yav rs 0 (k:Int)=dd:=by unfold yav;rw[yfd er];rfl
  have c1:yav rs 1 (k:Int)=cc:=by unfold yav;rw[yfd er];rfl
  have eix:atI xs (k:Int)=some (.ref p):=ycz (by rw[List.getElem?_eq_getElem hk,ep])
  have next:ydp (ybr ds) rs (ord.take (i+1)) (ybc os tm) (List.replicate rs.length 0)=(yg0 (ydp (ybr ds) rs (ord.take i) (ybc os tm) (List.replicate rs.length 0)).1 dd (yr6 (ybr ds) rs (ydp (ybr ds) rs (ord.take i) (ybc os tm) (List.replicate rs.length 0)).1 (k:Int)),(ydp (ybr ds) rs (ord.take i) (ybc os tm) (List.replicate rs.length 0)).2.set k (yr6 (ybr ds) rs (ydp (ybr ds) rs (ord.take i) (ybc os tm) (List.replicate rs.length 0)).1 (k:Int))):=by
   rw[ybb eat,yhf]
   show (yg0 _ (yav rs 0 (k:Int)) _,_)=_
   rw[c0]
   rfl
  rw[next]
  have lc:(ydp (ybr ds) rs (ord.take i) (ybc os tm) (List.replicate rs.length 0)).2.length=rs.length:=by rw[yh1,List.length_replicate]
  generalize (ydp (ybr ds) rs (ord.take i) (ybc os tm) (List.replicate rs.length 0)).1=v at *
  generalize (ydp (ybr ds) rs (ord.take i) (ybc os tm) (List.replicate rs.length 0)).2=cs at *
  clear next
  refine⟨_,rfl,_,rfl,_,rfl,a,xs,_,.ref p,rfl,rfl,SqL.of (sm _ _ ex),eix,d4,p,0,dd,cc,uu,ybr ds,v,rfl,S4,sn,sm _ _ hp,fun M H5 s5 hM=>?_⟩
  have eM:M=yr6 (ybr ds) rs v (k:Int):=by
   rw[Int.sub_zero] at hM
   refine hM.uniq ?_
   unfold yr6
   rw[c0,c1]
   exact yq1 _ _ _ _
  rw[← eM]
  have I5:ybf H5 l cs:=s5 _ _ I4
  have S5:=S4.same s5
  have ndl:d4≠l:=by
   obtain ⟨o,ho⟩:=S5
   exact yo0 ho I5 (by intro z;cases z)
  refine⟨_,rfl,_,rfl,l,_,(k:Int),k,rfl,rfl,I5,by unfold ixN;rw[List.length_map,if_pos (by omega),Int.toNat_natCast,if_pos (by omega)],?_⟩
  have s6:Same H (L2.upd H5 l (.lst ((cs.map V.int).set k (.int M)))):=(sm.trans s5).young hl0
  have S6:SlAt (L2.upd H5 l (.lst ((cs.map V.int).set k (.int M)))) d4 (ybr ds) v:=by
   obtain ⟨o,ho⟩:=S5
   exact⟨o,by rw[yal ndl];exact ho⟩
  have I6:ybf (L2.upd H5 l (.lst ((cs.map V.int).set k (.int M)))) l (cs.set k M):=by
   unfold ybf
   rw[yaa,List.map_set]
  have e6:L2.upd H5 l (.lst ((cs.map V.int).set k (.int M))) dl=some (.lst (ord.map V.int)):=by
   rw[yal nl.symm]
   exact s5 _ _ e4
  generalize L2.upd H5 l (.lst ((cs.map V.int).set k (.int M)))=H6 at *
  have eiM:atI ((cs.set k M).map V.int) (k:Int)=some (.int M):=ycz (by rw[List.getElem?_map,List.getElem?_set_self (by omega)];rfl)
  refine⟨_,rfl,_,rfl,_,rfl,a,xs,_,.ref p,rfl,rfl,SqL.of (s6 _ _ ex),eix,p,_,_,.int dd,rfl,rfl,SqT.of (s6 _ _ hp),rfl,_,rfl,_,rfl,l,_,_,.int M,rfl,rfl,SqL.of I6,eiM,d4,dd,M,ybr ds,v,rfl,S6,nd,by omega,fun d5 H7 hd5 s7 S7=>?_⟩
  exact⟨d5,_,rfl,s6.trans s7,s7 _ _ e6,S7,s7 _ _ I6⟩
 ·rintro σ H4 ⟨d4,o5,rfl,sm,e4,S4,I4⟩
  rw[List.length_map,List.take_length] at I4
  exact⟨_,rfl,q l _ H4 hl0 ⟨ds,ord,hds,hord,rfl⟩ sm I4⟩
end
end K28
namespace L2
open PySem PySem.Spec PySem.W PyProof.Rows
def yh2 (rs:List (List Int))(ts:List Int)(v:Int→Int→Int):Nat→Int→Int→Int
 |0=>v
 |n+1=>yg0 (yh2 rs ts v n) (yav rs 0 (n:Int)) (ts.getD n 0)
def ymw (rs:List (List Int))(ts:List Int)(f l:Int):Nat→Int
 |0=>0
 |n+1=>ymw rs ts f l n+if f≤yav rs 0 (n:Int)∧yav rs 0 (n:Int)≤l then ts.getD n 0 else 0
theorem yj0 (rs:List (List Int))(ts:List Int)(v:Int→Int→Int)(f l:Int):∀n,yh2 rs ts v n f l=v f l-ymw rs ts f l n
 |0=>by show v f l=v f l-0;omega
 |n+1=>by
  have ih:=yj0 rs ts v f l n
  show yg0 (yh2 rs ts v n) (yav rs 0 (n:Int)) (ts.getD n 0) f l=v f l-(ymw rs ts f l n+if f≤yav rs 0 (n:Int)∧yav rs 0 (n:Int)≤l then ts.getD n 0 else 0)
  unfold yg0
  split <;> omega
def ygu (rs os:List (List Int))(tm:Int)(ts:List Int):Int→Int→Int:=yh2 rs ts (ybc os tm) rs.length
def ywq (ks:List (Int×Int))(v:Int→Int→Int):Prop:=¬ ∀p∈ks,0≤v p.1 p.2
def yh3:Sp:=fun vs H Q _=>∃(a b t:Addr) (tm:Int) (rs os:List (List Int)) (ts:List Int),vs=[.ref a,.ref b,.int tm,.ref t]∧Rows H a rs∧(∀r∈rs,r.length=3)∧rs.length≤31∧Rows H b os∧(∀r∈os,r.length=2)∧os.length≤100∧ybf H t ts∧ts.length=rs.length∧∀d ds H',H d=none→ydo rs ds→Same H H'→SlAt H' d (ybr ds) (ygu rs os tm ts)→Q (.ref d) H'
def yj1 (c:Addr):Sp:=fun vs H Q E=>∃(d:Addr) (ks:List (Int×Int)) (v:Int→Int→Int),vs=[.ref d]∧SlAt H d ks v∧ks.length≤1000∧(¬ ywq ks v→∀H',Same H H'→Q .non H')∧(ywq ks v→∀H',Same H H'→E (.ref c) none H')
end L2
namespace K28
open PySem L2
abbrev ydx:Stmt:=top 37
abbrev ypv:List Str:=["lots","outs","term","taken","slacks","lot","units"]
abbrev yez:List Str:=["lots","outs","term","taken"]
theorem sc_slacks_of:FnScope ypv yez (yac ydx):=⟨rfl,rfl,rfl,by decide +kernel,rfl,by decide +kernel,by decide +kernel⟩
abbrev ybv:Stmt:=top 40
abbrev yip:List Str:=["slacks"]
abbrev ycb:List Str:=["slacks"]
theorem yh4:FnScope yip ycb (yac ybv):=⟨rfl,rfl,rfl,by decide +kernel,rfl,by decide +kernel,by decide +kernel⟩
section
variable {P:Program}{w:World}{K:PySem.W.Frag}{mg:Str→Option Value}{base:Heap}{f:Addr}{fd:FuncData}{cl:Nat→Addr}(T:Txt K mg cl)(B:Bn mg)
include T B
theorem yoh (G_against_each:Cal P w K mg base CX0 3 "against_each" ybz ydh) (G_lessened:Cal P w K mg base CX0 1 "lessened" yeo ygo) (F:Fun K "slacks_of" "slacks_of" ydx f fd):FnOk P w K mg base CX0 4 f fd yez yh3:=by
 refine F.ok sc_slacks_of (fun vs H Q E h=>?_) (fun cdv A outer s H vs Q E hr h=>?_)
 ·obtain ⟨a,b,t,tm,rs,os,ts,rfl,_⟩:=h;rfl
 obtain ⟨a,b,t,tm,rs,os,ts,rfl,hR,h3,rn,hO,h2,on,hT,hl,q⟩:=h
 refine⟨_,(yae (yas (i:=4) sc_slacks_of.nd rfl (Or.inl rfl) (yam G_against_each hr rfl ya1 (yaj (pv 0) (yaj (pv 1) (yaj (pv 2) yab)))))
  (yae (ycr PassesOwn.never rfl (yqe rfl B.zip (yaj (pv 0) (yaj (pv 3) yab))) (ya8 rfl (yag (yai (i:=5) sc_slacks_of.nd rfl (Or.inl rfl)) (yag (yai (i:=6) sc_slacks_of.nd rfl (Or.inl rfl)) yax))) (yah (yas (i:=4) sc_slacks_of.nd rfl (Or.inl rfl) (yam G_lessened hr rfl ya1 (yaj (pv 4) (yaj (yba ybt (pv 5) yaf (fun _ _=>rfl)) (yaj (pv 6) yab)))))))
  (yah (yat (pv 4))))),?_⟩
 refine⟨_,rfl,_,rfl,_,rfl,a,b,tm,rs,os,rfl,hR,h3,rn,hO,h2,on,fun d ds H1 hd hds s1 S1=>?_⟩
 have ld:ds.length≤31:=Nat.le_trans hds.2.2 rn
 have sn:=ymr ld
 have nd:=yju hds.1
 obtain ⟨xs,ex,exl,exi⟩:=(hR.same s1).get
 have hb:=s1 _ _ hT
 refine⟨_,rfl,_,rfl,true,true,a,t,xs,_,rfl,SqL.of ex,SqL.of hb,?_⟩
 refine yo4 (xs:=xs) (ys:=ts.map V.int) (b1:=true) (b2:=true) (fun i σ H3=>∃d4 o5 o6,σ=[some (.ref a),some (.ref b),some (.int tm),some (.ref t),some (.ref d4),o5,o6]∧H d4=none∧Same H1 H3∧SlAt H3 d4 (ybr ds) (yh2 rs ts (ybc os tm) i)) ⟨d,_,_,rfl,hd,Same.refl H1,S1⟩ ?_ ?_ ?_
 ·rintro i σ H3 hi ⟨d4,o5,o6,rfl,_,sm,_⟩
  exact⟨SqL.of (sm _ _ ex),SqL.of (sm _ _ hb)⟩
 ·rintro i x y σ H3 p e1 e2 ⟨d4,o5,o6,rfl,hd4,sm,S4⟩ hp
  obtain ⟨pr,r,rfl,er,hpr⟩:=exi i x e1
  obtain ⟨v,rfl,ev⟩:=yc1 e2
  obtain ⟨dd,cc,u,rfl⟩:=yl2 (h3 r (List.mem_of_getElem? er))
  have sN:=yad hp (.tup [.ref pr,.int v])
  have sp:=sm.trans sN
  refine⟨p,_,rfl,SqT.of yaa,rfl,_,_,rfl,_,_,rfl,rfl,?_⟩
  refine⟨_,rfl,_,rfl,pr,_,_,.int dd,rfl,rfl,SqT.of (sp _ _ hpr),rfl,_,rfl,d4,dd,v,ybr ds,_,rfl,S4.same sN,nd,by omega,fun d5 H5 hd5 s5 S5=>?_⟩
  refine⟨d5,_,_,rfl,(s1.trans sp).free hd5,sp.trans s5,?_⟩
  have c0:yav rs 0 (i:Int)=dd:=by unfold yav;rw[yfd er];rfl
  have tv:ts.getD i 0=v:=by rw[List.getD_eq_getElem?_getD,ev];rfl
  show SlAt H5 d5 (ybr ds) (yg0 (yh2 rs ts (ybc os tm) i) (yav rs 0 (i:Int)) (ts.getD i 0))
  rw[c0,tv]
  exact S5
 ·rintro σ H3 ⟨d4,o5,o6,rfl,hd4,sm,S4⟩
  rw[List.length_map,show min xs.length ts.length=rs.length by omega] at S4
  exact⟨_,rfl,q d4 ds H3 hd4 hds (s1.trans sm) S4⟩
theorem yh5 (G_none_lacks:Cal P w K mg base CX0 1 "none_lacks" yeb yg1) (F:Fun K "check_dealable" "check_dealable" ybv f fd):FnOk P w K mg base (CXE P w) 2 f fd ycb (yj1 (cl 8)):=by
 refine F.okE yh4 (fun vs H Q E h=>?_) (fun cdv A outer s H vs Q E hr h=>?_)
 ·obtain ⟨d,ks,v,rfl,_⟩:=h;rfl
 obtain ⟨d,ks,v,rfl,hS,kn,q1,q2⟩:=h
 refine⟨_,(yah (yb7 (yfa (yfq (yam G_none_lacks hr rfl ya1 (yaj (pv 0) yab)) (fun _=>rfl))) (yah (yei (E:=E) rfl T.gNotDealable T.eNotDealable PySem.F.excBase_ValueError rfl yg9 (yaj ybl yab))) ya6)),?_⟩
 refine⟨_,rfl,d,ks,v,rfl,hS,kn,fun H1 s1=>⟨_,rfl,?_⟩⟩
 by_cases c:∀p∈ks,0≤v p.1 p.2
 ·rw[decide_eq_true c]
  exact yct (q1 (fun z=>z c) H1 s1)
 ·rw[decide_eq_false c]
  exact ycl ⟨by show 1≤sizeLine;decide,q2 c H1 s1⟩
end
end K28
namespace L2
open PySem PySem.Spec PySem.W PyProof.Rows
def zdg (K:PySem.W.Frag)(te:TE):TT:=fun σ H Q=>te σ H fun x H'=>∃k,yz0 K x H' k∧Q k H'
def ye0 (tm d b:Int):Bool:=decide (max 1 (d-tm)≤b∧b≤d)
def yga (j:Int)(st:Int×List Int×List (List Int))(i:Int):Int×List Int×List (List Int):=
 if 0<min st.1 (st.2.1.getD i.toNat 0) then (st.1-min st.1 (st.2.1.getD i.toNat 0),st.2.1.set i.toNat (st.2.1.getD i.toNat 0-min st.1 (st.2.1.getD i.toNat 0)),st.2.2++[[i,j,min st.1 (st.2.1.getD i.toNat 0)]]) else st
def ypw (rs os:List (List Int))(tm:Int)(ages:List Int)(st:List Int×List (List Int))(j:Int):List Int×List (List Int):=
 ((ages.filter fun i=>ye0 tm (yav os 0 j) (yav rs 0 i)).foldl (yga j) (yav os 1 j,st.1,st.2)).2
def zce (rs os:List (List Int))(tm:Int)(ages outs ts:List Int):List Int×List (List Int):=outs.foldl (ypw rs os tm ages) (ts,[])
theorem yur {j:Int}{st:Int×List Int×List (List Int)}{i:Int}:(yga j st i).2.1.length=st.2.1.length∧(yga j st i).2.2.length≤st.2.2.length+1:=by
 unfold yga
 split
 ·exact⟨List.length_set,by rw[List.length_append,List.length_singleton];exact Nat.le_refl _⟩
 ·exact⟨rfl,Nat.le_succ _⟩
theorem ymx {j:Int}:∀(is:List Int) (st:Int×List Int×List (List Int)),(is.foldl (yga j) st).2.1.length=st.2.1.length∧(is.foldl (yga j) st).2.2.length≤st.2.2.length+is.length
 |[],st=>⟨rfl,Nat.le_refl _⟩
 |i::is,st=>by
  obtain ⟨a,b⟩:=ymx (j:=j) is (yga j st i)
  obtain ⟨c,d⟩:=yur (j:=j) (st:=st) (i:=i)
  rw[List.foldl_cons,List.length_cons]
  exact⟨a.trans c,by omega⟩
theorem yq2 {rs os:List (List Int)}{tm:Int}{ages:List Int}:∀(outs:List Int) (st:List Int×List (List Int)),(outs.foldl (ypw rs os tm ages) st).1.length=st.1.length∧(outs.foldl (ypw rs os tm ages) st).2.length≤st.2.length+outs.length*ages.length
 |[],st=>⟨rfl,by rw[List.length_nil,Nat.zero_mul];exact Nat.le_refl _⟩
 |j::outs,st=>by
  obtain ⟨a,b⟩:=yq2 (rs:=rs) (os:=os) (tm:=tm) (ages:=ages) outs (ypw rs os tm ages st j)
  obtain ⟨c,d⟩:=ymx (j:=j) (ages.filter fun i=>ye0 tm (yav os 0 j) (yav rs 0 i)) (yav os 1 j,st.1,st.2)
  have e:=List.length_filter_le (fun i=>ye0 tm (yav os 0 j) (yav rs 0 i)) ages
  have c':(ypw rs os tm ages st j).1.length=st.1.length:=c
  have d':(ypw rs os tm ages st j).2.length≤st.2.length+(ages.filter fun i=>ye0 tm (yav os 0 j) (yav rs 0 i)).length:=d
  rw[List.foldl_cons,List.length_cons,Nat.succ_mul]
  exact⟨a.trans c',by omega⟩
def ypx (cl:Nat→Addr):Sp:=fun vs H Q E=>∃d tm:Int,vs=[.int d,.int tm]∧(¬ inB d 999→E (.ref (cl 1)) none H)∧(inB d 999→(¬ yeu tm→E (.ref (cl 2)) none H)∧(yeu tm→∀p H',H p=none→Same H H'→H' p=some (.tup [.int (max 1 (d-tm)),.int d])→Q (.ref p) H'))
def ygb:Sp:=fun vs H Q _=>∃d tm b:Int,vs=[.int d,.int tm,.int b]∧inB d 999∧yeu tm∧∀H',Same H H'→Q (.bl (ye0 tm d b)) H'
def yxv (rs os:List (List Int))(tm:Int)(ts:List Int)(us:List (List Int)):Prop:=∃ages outs,ydt (yki rs) rs.length ages∧ydt (yki os) os.length outs∧us=(zce rs os tm ages outs ts).2
def yj2:Sp:=fun vs H Q _=>∃(a b t:Addr) (tm:Int) (rs os:List (List Int)) (ts:List Int),vs=[.ref a,.ref b,.int tm,.ref t]∧Rows H a rs∧(∀r∈rs,r.length=3)∧rs.length≤30∧Rows H b os∧(∀r∈os,r.length=2∧inB (r.getD 0 0) 999)∧os.length≤30∧yeu tm∧ybf H t ts∧ts.length=rs.length∧∀l us H',H l=none→yxv rs os tm ts us→Same H H'→Rows H' l us→Q (.ref l) H'
def ypy (cl:Nat→Addr):Sp:=fun vs H Q E=>∃(a b t:Addr) (tm:Int) (rs os:List (List Int)) (ts:List Int),vs=[.ref a,.ref b,.int tm,.ref t]∧Rows H a rs∧(∀r∈rs,r.length=3)∧Rows H b os∧(∀r∈os,r.length=2)∧ybf H t ts∧ts.length≤100∧
 (∀n,ybj rs os tm=some n→∀H',Same H H'→E (.ref (cl n)) none H')∧(ybj rs os tm=none→(¬ ye9 rs ts→∀H',Same H H'→E (.ref (cl 7)) none H')∧(ye9 rs ts→∀ds,ydo rs ds→
  (ywq (ybr ds) (ygu rs os tm ts)→∀H',Same H H'→E (.ref (cl 8)) none H')∧(¬ ywq (ybr ds) (ygu rs os tm ts)→∀l us H',H l=none→yxv rs os tm ts us→Same H H'→Rows H' l us→Q (.ref l) H')))
theorem yoi {rs os:List (List Int)}{tm:Int}(h:ybj rs os tm=none):yeu tm:=by
 have h':=h
 unfold ybj at h
 cases e1:ya3 rs with
 |some n=>rw[e1] at h;cases h
 |none=>
  rw[e1] at h
  cases e2:ya3 os with
  |some n=>rw[e2] at h;cases h
  |none=>
   rw[yjn e1 e2] at h'
   by_cases c:yeu tm
   ·exact c
   ·rw[if_neg c] at h';cases h'
theorem yzb {os:List (List Int)}(h:ybk os=none)(h2:∀r∈os,r.length=2):∀r∈os,r.length=2∧inB (r.getD 0 0) 999:=by
 unfold ybk at h
 rw[List.findSome?_eq_none_iff] at h
 intro r hr
 have e:=h r hr
 refine⟨h2 r hr,?_⟩
 obtain ⟨d,c,rfl⟩:=ypb (h2 r hr)
 simp only[yb2] at e
 split at e
 ·rename_i z;exact z
 ·cases e
end L2
namespace K28
open PySem L2
abbrev yh6:Stmt:=top 17
abbrev yzc:List Str:=["day","term"]
abbrev yj3:List Str:=["day","term"]
theorem ywr:FnScope yzc yj3 (yac yh6):=⟨rfl,rfl,rfl,by decide +kernel,rfl,by decide +kernel,by decide +kernel⟩
abbrev yfg:Stmt:=top 43
abbrev yus:List Str:=["day","term","back","first","last"]
abbrev yfh:List Str:=["day","term","back"]
theorem sc_reaches:FnScope yus yfh (yac yfg):=⟨rfl,rfl,rfl,by decide +kernel,rfl,by decide +kernel,by decide +kernel⟩
abbrev ydy:Stmt:=top 44
abbrev yle:List Str:=["lots","outs","term","taken","left","ages","told","out","day","wanted","within","lot","units"]
abbrev yfi:List Str:=["lots","outs","term","taken"]
theorem sc_dealt_of:FnScope yle yfi (yac ydy):=⟨rfl,rfl,rfl,by decide +kernel,rfl,by decide +kernel,by decide +kernel⟩
abbrev yh7:Stmt:=top 45
abbrev yzd:List Str:=["lots","outs","term","taken","goods","gone","counts"]
abbrev yj4:List Str:=["lots","outs","term","taken"]
theorem sc_dealt:FnScope yzd yj4 (yac yh7):=⟨rfl,rfl,rfl,by decide +kernel,rfl,by decide +kernel,by decide +kernel⟩
section
variable {P:Program}{w:World}{K:PySem.W.Frag}{mg:Str→Option Value}{base:Heap}{f:Addr}{fd:FuncData}{cl:Nat→Addr}(T:Txt K mg cl)(B:Bn mg)
include T B
theorem yws (G_check_day:Cal P w K mg base (CXE P w) 2 "check_day" yc2 (ysl (cl 1) 999)) (G_check_term:Cal P w K mg base (CXE P w) 2 "check_term" yc6 (yqp (cl 2))) (F:Fun K "reach" "reach" yh6 f fd):FnOk P w K mg base (CXE P w) 3 f fd yj3 (ypx cl):=by
 refine F.okE ywr (fun vs H Q E h=>?_) (fun cdv A outer s H vs Q E hr h=>?_)
 ·obtain ⟨d,tm,rfl,_⟩:=h;rfl
 obtain ⟨d,tm,rfl,q1,q2⟩:=h
 refine⟨_,(yae (ybm (yam (E:=E) G_check_day hr rfl (yeg fun _ _ z=>z) (yaj (pv 0) yab)))
  (yae (ybm (yam (E:=E) G_check_term hr rfl (yeg fun _ _ z=>z) (yaj (pv 1) yab)))
  (yah (yat (ybd (yaj (yaq (ys0 rfl) rfl B.max PyProof.Rows.boot_max (yaj (yii rfl T.FIRST_DAY) (yaj (ybh yi0 (pv 0) (pv 1)) yab))) (yaj (pv 0) yab))))))),?_⟩
 refine⟨_,rfl,d,rfl,fun c=>?_,q1⟩
 obtain ⟨q3,q4⟩:=q2 c
 refine⟨_,rfl,tm,rfl,fun c2=>?_,q3⟩
 refine⟨_,rfl,_,rfl,_,_,rfl,rfl,_,_,rfl,_,rfl,by show 2≤sizeLine;decide,fun p hp=>?_⟩
 refine q4 c2 p _ hp (yad hp _) ?_
 have e:(if d-tm > 1 then d-tm else 1)=max 1 (d-tm):=by split <;> omega
 rw[← e]
 exact yaa
theorem yr9 (G_reach:Cal P w K mg base (CXE P w) 3 "reach" yj3 (ypx cl)) (F:Fun K "reaches" "reaches" yfg f fd):FnOk P w K mg base CX0 4 f fd yfh ygb:=by
 refine F.ok sc_reaches (fun vs H Q E h=>?_) (fun cdv A outer s H vs Q E hr h=>?_)
 ·obtain ⟨d,tm,b,rfl,_⟩:=h;rfl
 obtain ⟨d,tm,b,rfl,hd,ht,q⟩:=h
 refine⟨_,(yae (ych (yam G_reach hr rfl zb6 (yaj (pv 0) (yaj (pv 1) yab))) (ya8 rfl (yag (yai (i:=3) sc_reaches.nd rfl (Or.inl rfl)) (yag (yai (i:=4) sc_reaches.nd rfl (Or.inl rfl)) yax))))
  (yah (yat (yls ydk ydk (pv 3) (pv 2) (pv 4))))),?_⟩
 refine⟨_,rfl,_,rfl,d,tm,rfl,fun z=>absurd hd z,fun _=>⟨fun z=>absurd ht z,fun _ p H1 hp s1 e1=>?_⟩⟩
 refine⟨p,_,rfl,SqT.of e1,rfl,_,_,rfl,_,_,rfl,rfl,?_⟩
 have e:∀z:Bool,z=ye0 tm d b→Q (.bl z) H1:=fun z ez=>by rw[ez];exact q H1 s1
 refine⟨_,rfl,_,rfl,_,_,rfl,rfl,_,rfl,?_⟩
 refine ys9 (fun c=>?_) (fun c=>?_)
 ·have c1:=of_decide_eq_true c
  refine⟨_,rfl,_,_,rfl,rfl,e _ ?_⟩
  unfold ye0
  by_cases z:b≤d
  ·rw[decide_eq_true z,decide_eq_true ⟨c1,z⟩]
  ·rw[decide_eq_false z,decide_eq_false fun y=>z y.2]
 ·have c1:=of_decide_eq_false (Bool.eq_false_iff.mpr c)
  refine e _ ?_
  unfold ye0
  rw[decide_eq_false fun y=>c1 y.1]
theorem ypz (G_eldest:Cal P w K mg base CX0 1 "eldest" yhg (yro yki okE)) (G_reaches:Cal P w K mg base CX0 4 "reaches" yfh ygb) (F:Fun K "dealt_of" "dealt_of" ydy f fd):FnOk P w K mg base CX0 5 f fd yfi yj2:=by
 refine F.ok sc_dealt_of (fun vs H Q E h=>?_) (fun cdv A outer s H vs Q E hr h=>?_)
 ·obtain ⟨a,b,t,tm,rs,os,ts,rfl,_⟩:=h;rfl
 obtain ⟨a,b,t,tm,rs,os,ts,rfl,hR,h3,rn,hO,h2,on,okT,hT,hl,q⟩:=h
 refine⟨_,(yae (yas (i:=4) sc_dealt_of.nd rfl (Or.inl rfl) (yfb ye1 rfl B.list PyProof.Rows.boot_list (yaj (pv 3) yab)))
  (yae (yas (i:=5) sc_dealt_of.nd rfl (Or.inl rfl) (yam G_eldest hr rfl ya1 (yaj (pv 0) yab)))
  (yae (yas (i:=6) sc_dealt_of.nd rfl (Or.inl rfl) (yb5 yab))
  (yae (ycr PassesOwn.never rfl (ya9 (yam G_eldest hr rfl ya1 (yaj (pv 1) yab))) (yai (i:=7) sc_dealt_of.nd rfl (Or.inl rfl)) (yae (ych (yba ya2 (pv 1) (pv 7) (fun _ _=>rfl)) (ya8 rfl (yag (yai (i:=8) sc_dealt_of.nd rfl (Or.inr rfl)) (yag (yai (i:=9) sc_dealt_of.nd rfl (Or.inl rfl)) yax))))
   (yae (yel (i:=10) sc_dealt_of.nd rfl (Or.inl rfl) (N':=["lot","day","term","lots"]) (ix:=[none,some 8,some 2,some 0]) (g:=(ybg 0)) (ti:=(zdg K (ykf ygb [] E0 (ybn (ycc 1) (ybn (ycc 2) (ybn (tOp (yvj K) (tOp (zbw K) (ycc 3) (ycc 0)) (tC (.int 0))) yky)))))) (te:=(ycc 0)) rfl (yaw (N:=yle) (D:=yac ydy) (by decide +kernel)) (ya9 (pv 5)) (fun C s H fp=>(yai (i:=0) (show (["lot","day","term","lots"]:List Str).Nodup by decide +kernel) rfl (Or.inl rfl))) (fun C s H fp=>(ye2 (yfq (yam G_reaches hr rfl ya1 (yaj (pv 1) (yaj (pv 2) (yaj (yba ybt (yba ya2 (pv 3) (pv 0) (fun _ _=>rfl)) yaf (fun _ _=>rfl)) yab)))) (fun _=>rfl)))) (fun C s H fp=>(pv 0)))
   (yah (ycr PassesOwn.never rfl (ya9 (pv 10)) (yai (i:=11) sc_dealt_of.nd rfl (Or.inl rfl)) (yae (yas (i:=12) sc_dealt_of.nd rfl (Or.inl rfl) (yaq (ync rfl) rfl B.min PyProof.Rows.boot_min (yaj (pv 9) (yaj (yba ya2 (pv 4) (pv 11) (fun _ _=>rfl)) yab))))
    (yah (yb7 (yay ylr (pv 12) yaf (ya7 _)) (yae (ybm (ylv PySem.F.plainAttrs_list PySem.F.slot_list_append PySem.F.type_list_append ydd (pv 6) (yaj (ybd (yaj (pv 11) (yaj (pv 7) (yaj (pv 12) yab)))) yab)))
     (yae (ysr (pv 4) (pv 11) yqq (pv 12) yxi ydc)
     (yah (yxg (i:=9) sc_dealt_of.nd rfl (Or.inl rfl) (pv 12) yxi)))) ya6))))))))
  (yah (yat (pv 6))))))),?_⟩
 refine⟨_,rfl,t,_,rfl,.inl (SqL.of hT),fun lf hlf=>?_⟩
 have s1:=yad (H:=H) hlf (.lst (ts.map V.int))
 have I1:ybf (L2.upd H lf (.lst (ts.map V.int))) lf ts:=yaa
 generalize L2.upd H lf (.lst (ts.map V.int))=H1 at *
 refine⟨_,rfl,a,rs,rfl,hR.same s1,by omega,fun r hr=>by unfold okE;rw[h3 r hr];decide,fun ag ages H2 hag s2 hages e2=>?_⟩
 refine⟨by show 0≤sizeLine;decide,fun tl htl=>?_⟩
 have s3:=yad (H:=H2) htl (.lst [])
 have s23:=s2.trans s3
 have s13:=s1.trans s23
 have I3:ybf (L2.upd H2 tl (.lst [])) lf ts:=s23 _ _ I1
 have R3:Rows (L2.upd H2 tl (.lst [])) tl []:=Rows.nil yaa
 have e3:=s3 _ _ e2
 have htl0:H tl=none:=(s1.trans s2).free htl
 have hag0:H1 ag=none:=hag
 have nlt:lf≠tl:=yak (s2 _ _ I1) htl
 have nla:lf≠ag:=yak I1 hag
 have nta:ag≠tl:=yak e2 htl
 generalize L2.upd H2 tl (.lst [])=H3 at *
 have lag:ages.length=rs.length:=by rw[hages.1.length_eq,ybe]
 refine⟨_,rfl,b,os,rfl,hO.same s13,by omega,fun r hr=>by unfold okE;rw[(h2 r hr).1];decide,fun ol outs H4 hol s4 houts e4=>?_⟩
 have lou:outs.length=os.length:=by rw[houts.1.length_eq,ybe]
 have nlo:lf≠ol:=yak I3 hol
 have nto:tl≠ol:=by obtain ⟨z,ez,_⟩:=R3.get;exact yak ez hol
 have s14:=s13.trans s4
 refine⟨ol,rfl,⟨_,SqL.of e4⟩,?_⟩
 refine ydb (xs:=outs.map V.int) (fun i σ H5=>∃o7 o8 o9 o10 o11 o12,σ=[some (.ref a),some (.ref b),some (.int tm),some (.ref t),some (.ref lf),some (.ref ag),some (.ref tl),o7,o8,o9,o10,o11,o12]∧Same H H5∧H5 ol=some (.lst (outs.map V.int))∧H5 ag=some (.lst (ages.map V.int))∧ybf H5 lf ((outs.take i).foldl (ypw rs os tm ages) (ts,[])).1∧Rows H5 tl ((outs.take i).foldl (ypw rs os tm ages) (ts,[])).2) ⟨_,_,_,_,_,_,rfl,s14,e4,s4 _ _ e3,s4 _ _ I3,R3.same s4⟩ ?_ ?_ ?_
 ·rintro i σ H5 hi ⟨o7,o8,o9,o10,o11,o12,rfl,sm,e5,_⟩
  exact SqL.of e5
 ·rintro i x σ H5 exi ⟨o7,o8,o9,o10,o11,o12,rfl,sm,e5,a5,I5,R5⟩
  obtain ⟨j',rfl,ej⟩:=yc1 exi
  have hj:=uptoN_mem.mp (houts.1.mem_iff.mp (List.mem_of_getElem? ej))
  obtain ⟨j,rfl⟩ : ∃k:Nat,j'=(k:Int):=⟨j'.toNat,by omega⟩
  obtain ⟨xs,ex,hx⟩:=(hR.same sm).tups
  obtain ⟨ys,ey,hy⟩:=(hO.same sm).tups
  have lx:=hx.1
  have ly:=hy.1
  have hjy:j<ys.length:=by omega
  obtain ⟨po,r,ep,er,hpo⟩:=hy.at (List.getElem?_eq_getElem hjy)
  obtain ⟨r2,rd⟩:=h2 r (List.mem_of_getElem? er)
  obtain ⟨dd,cc,rfl⟩:=ypb r2
  have c0:yav os 0 (j:Int)=dd:=by unfold yav;rw[yfd er];rfl
  have c1:yav os 1 (j:Int)=cc:=by unfold yav;rw[yfd er];rfl
  have eix:atI ys (j:Int)=some (.ref po):=ycz (by rw[List.getElem?_eq_getElem hjy,ep])
  refine⟨_,rfl,_,rfl,b,ys,_,.ref po,rfl,rfl,SqL.of ey,eix,po,_,rfl,SqT.of hpo,rfl,_,_,rfl,_,_,rfl,rfl,?_⟩
  refine⟨_,rfl,ag,rfl,⟨_,SqL.of a5⟩,fun D hD=>?_⟩
  refine yf4 (fun i zs _=>zs=((ages.take i).filter fun i=>ye0 tm dd (yav rs 0 i)).map V.int) hD a5 (by rw[List.length_map];omega) (fun i zs H1 H2 h k=>h) rfl ?_ ?_
  ·rintro m x zs H6 em s6 rfl K1 K2 q1 q2
   obtain ⟨v,rfl,ev⟩:=yc1 em
   have hv:=uptoN_mem.mp (hages.1.mem_iff.mp (List.mem_of_getElem? ev))
   obtain ⟨k,rfl⟩ : ∃k:Nat,v=(k:Int):=⟨v.toNat,by omega⟩
   have hk:k<xs.length:=by omega
   obtain ⟨pl,rl,epl,erl,hpl⟩:=hx.at (List.getElem?_eq_getElem hk)
   obtain ⟨ld,lc,lu,rfl⟩:=yl2 (h3 rl (List.mem_of_getElem? erl))
   have l0:yav rs 0 (k:Int)=ld:=by unfold yav;rw[yfd erl];rfl
   have eil:atI xs (k:Int)=some (.ref pl):=ycz (by rw[List.getElem?_eq_getElem hk,epl])
   have ft:=yci (rs:=ages) (fun i=>ye0 tm dd (yav rs 0 i)) ev
   refine⟨ya5 ybi rfl,?_⟩
   refine⟨_,rfl,_,rfl,_,rfl,_,rfl,a,xs,_,.ref pl,rfl,rfl,SqL.of (s6 _ _ ex),eil,pl,_,_,.int ld,rfl,rfl,SqT.of (s6 _ _ hpl),rfl,dd,tm,ld,rfl,rd,okT,fun H7 s7=>⟨_,rfl,?_⟩⟩
   rw[l0] at ft
   cases hb:ye0 tm dd ld with
   |true=>
    refine ycl ⟨_,rfl,q1 _ _ s7 ?_⟩
    rw[ft,if_pos hb,List.map_append];rfl
   |false=>
    refine yct (q2 _ s7 ?_)
    rw[ft,if_neg (by rw[hb];exact Bool.false_ne_true),List.append_nil]
  rintro zs H6 s6 rfl hz hD6
  rw[List.length_map,List.take_length] at hD6
  have fold:(outs.take (i+1)).foldl (ypw rs os tm ages) (ts,[])=((ages.filter fun i=>ye0 tm dd (yav rs 0 i)).foldl (yga (j:Int)) (cc,((outs.take i).foldl (ypw rs os tm ages) (ts,[])).1,((outs.take i).foldl (ypw rs os tm ages) (ts,[])).2)).2:=by
   rw[ybb ej,List.foldl_append]
   show ypw rs os tm ages _ (j:Int)=_
   unfold ypw
   rw[c0,c1]
  rw[fold]
  have len:=yq2 (rs:=rs) (os:=os) (tm:=tm) (ages:=ages) (outs.take i) (ts,[])
  have li:(outs.take i).length≤29:=by rw[List.length_take];have:=(List.getElem?_eq_some_iff.mp ej).1;omega
  have lw:(ages.filter fun i=>ye0 tm dd (yav rs 0 i)).length≤30:=Nat.le_trans (List.length_filter_le _ _) (by omega)
  have win:∀v∈ages.filter fun i=>ye0 tm dd (yav rs 0 i),0≤v∧v<(rs.length:Int):=fun v hv=>uptoN_mem.mp (hages.1.mem_iff.mp (List.mem_filter.mp hv).1)
  generalize ((outs.take i).foldl (ypw rs os tm ages) (ts,[])).1=left at *
  generalize ((outs.take i).foldl (ypw rs os tm ages) (ts,[])).2=told at *
  generalize (ages.filter fun i=>ye0 tm dd (yav rs 0 i))=within at *
  have tlen:told.length≤870:=by
   have:=len.2
   have h9:(outs.take i).length*ages.length≤29*30:=Nat.mul_le_mul li (by omega)
   have h0:([]:List (List Int)).length=0:=rfl
   show told.length≤870
   dsimp only at this
   omega
  have llen:left.length=rs.length:=len.1.trans hl
  clear fold len
  have D6:lf≠D:=yak I5 hD
  have D7:D≠tl:=by obtain ⟨z,ez,_⟩:=R5.get;exact(yak ez hD).symm
  refine⟨_,rfl,D,rfl,⟨_,SqL.of hD6⟩,?_⟩
  have s56:=sm.trans s6
  refine ydb (xs:=within.map V.int) (fun k σ H7=>∃o11 o12,σ=[some (.ref a),some (.ref b),some (.int tm),some (.ref t),some (.ref lf),some (.ref ag),some (.ref tl),some (.int (j:Int)),some (.int dd),some (.int ((within.take k).foldl (yga (j:Int)) (cc,left,told)).1),some (.ref D),o11,o12]∧Same H H7∧H7 ol=some (.lst (outs.map V.int))∧H7 ag=some (.lst (ages.map V.int))∧H7 D=some (.lst (within.map V.int))∧ybf H7 lf ((within.take k).foldl (yga (j:Int)) (cc,left,told)).2.1∧Rows H7 tl ((within.take k).foldl (yga (j:Int)) (cc,left,told)).2.2) ⟨_,_,rfl,s56,s6 _ _ e5,s6 _ _ a5,hD6,s6 _ _ I5,R5.same s6⟩ ?_ ?_ ?_
  ·rintro k σ H7 hk ⟨o11,o12,rfl,s7,_,_,D8,_⟩
   exact SqL.of D8
  ·rintro k x σ H7 exk ⟨o11,o12,rfl,s7,e7,a7,D8,I7,R7⟩
   obtain ⟨v',rfl,ev⟩:=yc1 exk
   have hv:=win _ (List.mem_of_getElem? ev)
   obtain ⟨v,rfl⟩ : ∃k:Nat,v'=(k:Int):=⟨v'.toNat,by omega⟩
   have fl:=ymx (j:=(j:Int)) (within.take k) (cc,left,told)
   have kl:k<within.length:=(List.getElem?_eq_some_iff.mp ev).1
   have tk:(within.take k).length=k:=by rw[List.length_take];omega
   have next:(within.take (k+1)).foldl (yga (j:Int)) (cc,left,told)=yga (j:Int) ((within.take k).foldl (yga (j:Int)) (cc,left,told)) (v:Int):=by
    rw[ybb ev,List.foldl_append];rfl
   rw[next]
   generalize (within.take k).foldl (yga (j:Int)) (cc,left,told)=st at *
   obtain ⟨wt,lft,tld⟩:=st
   dsimp only at fl I7 R7 ⊢
   have hvl:v<lft.length:=by omega
   have eiv:atI (lft.map V.int) (v:Int)=some (.int lft[v]):=yqo rfl hvl
   have gv:lft.getD (v:Int).toNat 0=lft[v]:=by rw[Int.toNat_natCast,List.getD_eq_getElem?_getD,List.getElem?_eq_getElem hvl];rfl
   refine⟨_,rfl,_,rfl,_,rfl,lf,_,_,.int lft[v],rfl,rfl,SqL.of I7,eiv,_,_,rfl,?_⟩
   have em:(if lft[v]<wt then lft[v] else wt)=min wt lft[v]:=by
    split <;> omega
   rw[em]
   have hstep:yga (j:Int) (wt,lft,tld) (v:Int)=if 0<min wt lft[v] then (wt-min wt lft[v],lft.set v (lft[v]-min wt lft[v]),tld++[[(v:Int),(j:Int),min wt lft[v]]]) else (wt,lft,tld):=by
    unfold yga
    dsimp only
    rw[gv,Int.toNat_natCast]
   rw[hstep]
   generalize hm:min wt lft[v]=m
   refine⟨_,rfl,_,_,rfl,rfl,_,rfl,?_⟩
   by_cases c:0<m
   ·rw[decide_eq_true c]
    rw[if_pos c]
    refine ycl ?_
    obtain ⟨zs,ez,ezl,_⟩:=R7.get
    refine⟨_,rfl,.inl ⟨rfl,_,SqL.of ez⟩,?_⟩
    refine⟨_,rfl,_,rfl,_,rfl,by show 3≤sizeLine;decide,fun tp htp=>?_⟩
    refine⟨tl,zs,.ref tp,rfl,rfl,by rw[yal (yak ez htp)];exact ez,yau (by omega),?_⟩
    have sT:=yad (H:=H7) htp (.tup [.int (v:Int),.int (j:Int),.int m])
    have R8:Rows (L2.upd (L2.upd H7 tp (.tup [.int (v:Int),.int (j:Int),.int m])) tl (.lst (zs++[.ref tp]))) tl (tld++[[(v:Int),(j:Int),m]]):=R7.push (r:=[(v:Int),(j:Int),m]) ez htp
    have s8:Same H (L2.upd (L2.upd H7 tp (.tup [.int (v:Int),.int (j:Int),.int m])) tl (.lst (zs++[.ref tp]))):=(s7.trans sT).young htl0
    have I8:ybf (L2.upd (L2.upd H7 tp (.tup [.int (v:Int),.int (j:Int),.int m])) tl (.lst (zs++[.ref tp]))) lf lft:=by unfold ybf;rw[yal nlt];exact sT _ _ I7
    have e8:L2.upd (L2.upd H7 tp (.tup [.int (v:Int),.int (j:Int),.int m])) tl (.lst (zs++[.ref tp])) ol=some (.lst (outs.map V.int)):=by rw[yal nto.symm];exact sT _ _ e7
    have a8:L2.upd (L2.upd H7 tp (.tup [.int (v:Int),.int (j:Int),.int m])) tl (.lst (zs++[.ref tp])) ag=some (.lst (ages.map V.int)):=by rw[yal nta];exact sT _ _ a7
    have D9:L2.upd (L2.upd H7 tp (.tup [.int (v:Int),.int (j:Int),.int m])) tl (.lst (zs++[.ref tp])) D=some (.lst (within.map V.int)):=by rw[yal D7];exact sT _ _ D8
    generalize L2.upd (L2.upd H7 tp (.tup [.int (v:Int),.int (j:Int),.int m])) tl (.lst (zs++[.ref tp]))=H8 at *
    refine⟨_,rfl,_,rfl,lf,_,(v:Int),.int lft[v],rfl,rfl,SqL.of I8,by omega,by rw[Int.toNat_natCast,List.getElem?_map,List.getElem?_eq_getElem hvl];rfl,_,rfl,_,_,rfl,rfl,?_⟩
    refine⟨lf,_,(v:Int),v,rfl,rfl,I8,by unfold ixN;rw[List.length_map,if_pos (by omega),Int.toNat_natCast,if_pos (by omega)],?_⟩
    refine⟨_,rfl,_,rfl,_,_,rfl,rfl,?_⟩
    obtain ⟨ws,ew,hw⟩:=R8.tups
    refine⟨_,_,rfl,s8.young hlf,?_,?_,?_,?_,?_⟩
    ·rw[yal nlo.symm];exact e8
    ·rw[yal nla.symm];exact a8
    ·rw[yal D6.symm];exact D9
    ·unfold ybf
     rw[yaa,List.map_set]
    ·refine Tups.rows (xs:=ws) (hw.but I8 fun b o hb e=>by rw[yal hb];exact e) ?_
     rw[yal nlt.symm];exact ew
   ·rw[decide_eq_false c]
    rw[if_neg c]
    exact yct ⟨_,_,rfl,s7,e7,a7,D8,I7,R7⟩
  ·rintro σ H7 ⟨o11,o12,rfl,s7,e7,a7,D8,I7,R7⟩
   rw[List.length_map,List.take_length] at I7 R7
   exact⟨_,_,_,_,_,_,rfl,s7,e7,a7,I7,R7⟩
 ·rintro σ H5 ⟨o7,o8,o9,o10,o11,o12,rfl,sm,e5,a5,I5,R5⟩
  rw[List.length_map,List.take_length] at I5 R5
  exact⟨_,rfl,q tl _ H5 htl0 ⟨ages,outs,hages,houts,rfl⟩ sm R5⟩
theorem ywt (G_checked_both:Cal P w K mg base (CXE P w) 4 "checked_both" ybo (yla cl)) (G_checked_taken:Cal P w K mg base (CXE P w) 2 "checked_taken" yck (yhv (cl 7))) (G_slacks_of:Cal P w K mg base CX0 4 "slacks_of" yez yh3) (G_check_dealable:Cal P w K mg base (CXE P w) 2 "check_dealable" ycb (yj1 (cl 8))) (G_dealt_of:Cal P w K mg base CX0 5 "dealt_of" yfi yj2) (F:Fun K "dealt" "dealt" yh7 f fd):FnOk P w K mg base (CXE P w) 6 f fd yj4 (ypy cl):=by
 refine F.okE sc_dealt (fun vs H Q E h=>?_) (fun cdv A outer s H vs Q E hr h=>?_)
 ·obtain ⟨a,b,t,tm,rs,os,ts,rfl,_⟩:=h;rfl
 obtain ⟨a,b,t,tm,rs,os,ts,rfl,hR,h3,hO,h2,hT,tn,q1,q2⟩:=h
 refine⟨_,(yae (ych (yam (E:=E) G_checked_both hr rfl (yeg fun _ _ z=>z) (yaj (pv 0) (yaj (pv 1) (yaj (pv 2) yab)))) (ya8 rfl (yag (yai (i:=4) sc_dealt.nd rfl (Or.inl rfl)) (yag (yai (i:=5) sc_dealt.nd rfl (Or.inl rfl)) yax))))
  (yae (yas (i:=6) sc_dealt.nd rfl (Or.inl rfl) (yam (E:=E) G_checked_taken hr rfl (yeg fun _ _ z=>z) (yaj (pv 4) (yaj (pv 3) yab))))
  (yae (ybm (yam (E:=E) G_check_dealable hr rfl (yeg fun _ _ z=>z) (yaj (yam G_slacks_of hr rfl ya1 (yaj (pv 4) (yaj (pv 5) (yaj (pv 2) (yaj (pv 6) yab))))) yab)))
  (yah (yat (yam G_dealt_of hr rfl ya1 (yaj (pv 4) (yaj (pv 5) (yaj (pv 2) (yaj (pv 6) yab)))))))))),?_⟩
 refine⟨_,rfl,_,rfl,_,rfl,a,b,tm,rs,os,rfl,hR,h3,hO,h2,q1,fun bn tp g o H1 ht hg ho s1 R1 O1 e1=>?_⟩
 obtain ⟨rn,on,_,ob⟩:=ypu bn
 have rn':rs.length≤31:=by omega
 obtain ⟨q3,q4⟩:=q2 bn
 refine⟨tp,_,rfl,SqT.of e1,rfl,_,_,rfl,_,_,rfl,rfl,?_⟩
 refine⟨_,rfl,_,rfl,g,t,rs,ts,rfl,R1,h3,s1 _ _ hT,by omega,tn,fun z H' s'=>q3 z H' (s1.trans s'),fun tk l H2 hl s2 I2=>?_⟩
 have s12:=s1.trans s2
 refine⟨_,rfl,_,rfl,_,rfl,_,rfl,g,o,l,tm,rs,os,ts,rfl,R1.same s2,h3,rn',O1.same s2,h2,by omega,I2,tk.1,fun d ds H3 hd hds s3 S3=>?_⟩
 have sn:=ymr (Nat.le_trans hds.2.2 rn')
 have s13:=s12.trans s3
 obtain ⟨q5,q6⟩:=q4 tk ds hds
 refine⟨d,_,_,rfl,S3,by omega,fun ok H4 s4=>?_,fun z H4 s4=>q5 z H4 (s13.trans s4)⟩
 have s14:=s13.trans s4
 have s24:=s2.trans (s3.trans s4)
 refine⟨_,rfl,_,rfl,_,rfl,_,rfl,g,o,l,tm,rs,os,ts,rfl,R1.same s24,h3,rn,O1.same s24,yzb ob h2,on,yoi bn,(s3.trans s4) _ _ I2,tk.1,fun u us H5 hu hus s5 R5=>?_⟩
 exact q6 ok u us H5 (s14.free hu) hus (s14.trans s5) R5
end
end K28
namespace K28
open PySem L2
abbrev yep:Stmt:=top 46
abbrev ysa:List Str:=["lots","outs","term","row","lot","out","count"]
abbrev yfj:List Str:=["lots","outs","term","row"]
theorem sc_is_given:FnScope ysa yfj (yac yep):=⟨rfl,rfl,rfl,by decide +kernel,rfl,by decide +kernel,by decide +kernel⟩
abbrev ye5:Stmt:=top 48
abbrev ygc:List Str:=["sums","rows"]
abbrev ybp:Stmt:=top 49
abbrev yed:List Str:=["lots","outs","term","rows","goods","gone","by_lots","by_outs"]
abbrev yee:List Str:=["lots","outs","term","rows"]
theorem sc_is_dealing:FnScope yed yee (yac ybp):=⟨rfl,rfl,rfl,by decide +kernel,rfl,by decide +kernel,by decide +kernel⟩
def yix:Sp:=fun vs H Q _=>∃(a b t:Addr) (tm:Int),vs=[.ref a,.ref b,.int tm,.ref t]∧H t=some (.tup [.int (-1),.int 0,.int 1])∧Q (.bl false) H
def yj5 (cl:Nat→Addr):Sp:=fun vs H Q E=>∃(a b p t:Addr) (tm:Int) (rs os:List (List Int)),vs=[.ref a,.ref b,.int tm,.ref p]∧Rows H a rs∧(∀r∈rs,r.length=3)∧Rows H b os∧(∀r∈os,r.length=2)∧H p=some (.lst [.ref t])∧H t=some (.tup [.int (-1),.int 0,.int 1])∧
 (∀n,ybj rs os tm=some n→∀H',Same H H'→E (.ref (cl n)) none H')∧(ybj rs os tm=none→∀H',Same H H'→Q (.bl false) H')
theorem ywu {P:Program}{w:World}{K:PySem.W.Frag}{mg:Str→Option Value}{base:Heap}{f:Addr}{fd:FuncData}{k:Nat}{ps:List Str}:FnOk P w K mg base CX0 k f fd ps (fun _ _ _ _=>False):=⟨fun _ _ _ _ z=>z.elim,fun _ _ _ _ _ _ _ _ _ _ _ _ _ z=>z.elim⟩
section
variable {P:Program}{w:World}{K:PySem.W.Frag}{mg:Str→Option Value}{base:Heap}{f:Addr}{fd:FuncData}{cl:Nat→Addr}(T:Txt K mg cl)(B:Bn mg)
include T B
theorem yp0 (G_reaches:Cal P w K mg base CX0 4 "reaches" yfh ygb) (F:Fun K "is_given" "is_given" yep f fd):FnOk P w K mg base CX0 5 f fd yfj yix:=by
 refine F.ok sc_is_given (fun vs H Q E h=>?_) (fun cdv A outer s H vs Q E hr h=>?_)
 ·obtain ⟨a,b,t,tm,rfl,_⟩:=h;rfl
 obtain ⟨a,b,t,tm,rfl,ht,q⟩:=h
 refine⟨_,(yae (ych (pv 3) (ya8 rfl (yag (yai (i:=4) sc_is_given.nd rfl (Or.inl rfl)) (yag (yai (i:=5) sc_is_given.nd rfl (Or.inl rfl)) (yag (yai (i:=6) sc_is_given.nd rfl (Or.inl rfl)) yax)))))
  (yae (yb7 (PW.pt (yo1 (yfa (yd5 ydk yil yaf (pv 4) (yaq yar rfl B.len PySem.boot_len (yaj (pv 0) yab)))) (yo1 (yfa (yd5 ydk yil yaf (pv 5) (yaq yar rfl B.len PySem.boot_len (yaj (pv 1) yab)))) (ykv (yay yil (pv 6) yaf (ya7 _)))))) (yah (yat yke)) ya6)
  (yah (yat (yam G_reaches hr rfl ya1 (yaj (yba ybt (yba ya2 (pv 1) (pv 5) (fun _ _=>rfl)) yaf (fun _ _=>rfl)) (yaj (pv 2) (yaj (yba ybt (yba ya2 (pv 0) (pv 4) (fun _ _=>rfl)) yaf (fun _ _=>rfl)) yab)))))))),?_⟩
 refine⟨_,rfl,t,_,rfl,SqT.of ht,rfl,_,_,rfl,_,_,rfl,_,_,rfl,rfl,?_⟩
 refine⟨_,rfl,_,_,rfl,rfl,_,rfl,?_⟩
 exact yct ⟨_,rfl,ycl (ycl q)⟩
theorem ymy (G_checked_both:Cal P w K mg base (CXE P w) 4 "checked_both" ybo (yla cl)) (G_is_given:Cal P w K mg base CX0 5 "is_given" yfj yix) (G_summed:Cal P w K mg base CX0 1 "summed" ygm yit) (G_none_above:Cal P w K mg base CX0 1 "none_above" ygc fun _ _ _ _=>False) (F:Fun K "is_dealing" "is_dealing" ybp f fd):FnOk P w K mg base (CXE P w) 6 f fd yee (yj5 cl):=by
 refine F.okE sc_is_dealing (fun vs H Q E h=>?_) (fun cdv A outer s H vs Q E hr h=>?_)
 ·obtain ⟨a,b,p,t,tm,rs,os,rfl,_⟩:=h;rfl
 obtain ⟨a,b,p,t,tm,rs,os,rfl,hR,h3,hO,h2,hp,ht,q1,q2⟩:=h
 refine⟨_,(yae (ych (yam (E:=E) G_checked_both hr rfl (yeg fun _ _ z=>z) (yaj (pv 0) (yaj (pv 1) (yaj (pv 2) yab)))) (ya8 rfl (yag (yai (i:=4) sc_is_dealing.nd rfl (Or.inr rfl)) (yag (yai (i:=5) sc_is_dealing.nd rfl (Or.inr rfl)) yax))))
  (yae (yb7 (yfa (yfq (yaq (ynm rfl) rfl B.all PyProof.Rows.boot_all (yaj (yc0 (N':=["row","goods","gone","term"]) (ix:=[none,some 4,some 5,some 2]) (g:=(ybg 0)) (ti:=ykh) (te:=(ykf yix [] E0 (ybn (ycc 1) (ybn (ycc 2) (ybn (ycc 3) (ybn (ycc 0) yky)))))) rfl (yaw (N:=yed) (D:=yac ybp) (by decide +kernel)) (ya9 (pv 3)) (fun C s H fp=>(yai (i:=0) (show (["row","goods","gone","term"]:List Str).Nodup by decide +kernel) rfl (Or.inl rfl))) (fun C s H fp=>ybs) (fun C s H fp=>(yam G_is_given hr rfl ya1 (yaj (pv 1) (yaj (pv 2) (yaj (pv 3) (yaj (pv 0) yab))))))) yab)) (fun _=>rfl))) (yah (yat yke)) ya6)
  (yae (yb7 (yay yil (yaq yar rfl B.len PySem.boot_len (yaj (ymp (N':=["lot","out","count"]) (ix:=[none,none,none]) (g:=(ym6 K 3 (ybw (ybg 0) (ybw (ybg 1) (ybw (ybg 2) ym5))))) (ti:=ykh) (te:=(ys1 (ybn (ycc 0) (ybn (ycc 1) yky)))) rfl (yaw (N:=yed) (D:=yac ybp) (by decide +kernel)) (ya9 (pv 3)) (fun C s H fp=>(ya8 rfl (yag (yai (i:=0) (show (["lot","out","count"]:List Str).Nodup by decide +kernel) rfl (Or.inl rfl)) (yag (yai (i:=1) (show (["lot","out","count"]:List Str).Nodup by decide +kernel) rfl (Or.inl rfl)) (yag (yai (i:=2) (show (["lot","out","count"]:List Str).Nodup by decide +kernel) rfl (Or.inl rfl)) yax))))) (fun C s H fp=>ybs) (fun C s H fp=>(ybd (yaj (pv 0) (yaj (pv 1) yab))))) yab)) (yaq yar rfl B.len PySem.boot_len (yaj (pv 3) yab)) (ya7 _)) (yah (yat yke)) ya6)
  (yae (yas (i:=6) sc_is_dealing.nd rfl (Or.inl rfl) (yam G_summed hr rfl ya1 (yaj (yaq yar rfl B.len PySem.boot_len (yaj (pv 4) yab)) (yaj (yc0 (N':=["lot","out","count"]) (ix:=[none,none,none]) (g:=(ym6 K 3 (ybw (ybg 0) (ybw (ybg 1) (ybw (ybg 2) ym5))))) (ti:=ykh) (te:=(ys1 (ybn (ycc 0) (ybn (ycc 2) yky)))) rfl (yaw (N:=yed) (D:=yac ybp) (by decide +kernel)) (ya9 (pv 3)) (fun C s H fp=>(ya8 rfl (yag (yai (i:=0) (show (["lot","out","count"]:List Str).Nodup by decide +kernel) rfl (Or.inl rfl)) (yag (yai (i:=1) (show (["lot","out","count"]:List Str).Nodup by decide +kernel) rfl (Or.inl rfl)) (yag (yai (i:=2) (show (["lot","out","count"]:List Str).Nodup by decide +kernel) rfl (Or.inl rfl)) yax))))) (fun C s H fp=>ybs) (fun C s H fp=>(ybd (yaj (pv 0) (yaj (pv 2) yab))))) yab))))
  (yae (yas (i:=7) sc_is_dealing.nd rfl (Or.inl rfl) (yam G_summed hr rfl ya1 (yaj (yaq yar rfl B.len PySem.boot_len (yaj (pv 5) yab)) (yaj (yc0 (N':=["lot","out","count"]) (ix:=[none,none,none]) (g:=(ym6 K 3 (ybw (ybg 0) (ybw (ybg 1) (ybw (ybg 2) ym5))))) (ti:=ykh) (te:=(ys1 (ybn (ycc 1) (ybn (ycc 2) yky)))) rfl (yaw (N:=yed) (D:=yac ybp) (by decide +kernel)) (ya9 (pv 3)) (fun C s H fp=>(ya8 rfl (yag (yai (i:=0) (show (["lot","out","count"]:List Str).Nodup by decide +kernel) rfl (Or.inl rfl)) (yag (yai (i:=1) (show (["lot","out","count"]:List Str).Nodup by decide +kernel) rfl (Or.inl rfl)) (yag (yai (i:=2) (show (["lot","out","count"]:List Str).Nodup by decide +kernel) rfl (Or.inl rfl)) yax))))) (fun C s H fp=>ybs) (fun C s H fp=>(ybd (yaj (pv 1) (yaj (pv 2) yab))))) yab))))
  (yah (yat (yzw (yam G_none_above hr rfl ya1 (yaj (pv 6) (yaj (pv 4) yab))) (yxf (yam G_none_above hr rfl ya1 (yaj (pv 7) (yaj (pv 5) yab)))))))))))),?_⟩
 refine⟨_,rfl,_,rfl,_,rfl,a,b,tm,rs,os,rfl,hR,h3,hO,h2,q1,fun bn t' g o H1 ht' hg ho s1 R1 O1 e1=>?_⟩
 refine⟨t',_,rfl,SqT.of e1,rfl,_,_,rfl,_,_,rfl,rfl,?_⟩
 have hp1:=s1 _ _ hp
 have ht1:=s1 _ _ ht
 refine⟨_,rfl,p,rfl,⟨_,SqL.of hp1⟩,fun D hD=>?_⟩
 refine yf4 (fun i zs _=>zs=(List.replicate i false).map V.bl) hD hp1 (by show 1≤1000;decide) (fun i zs _ _ h _=>h) rfl (fun i x zs H2 e2 s2 hz K1 K2 k1 k2=>?_) fun zs H2 s2 hz ln hD2=>?_
 ·have hi:i=0:=by have:=(List.getElem?_eq_some_iff.mp e2).1;have z:[V.ref t].length=1:=rfl;omega
  subst hi
  cases e2
  refine⟨ya5 ybi rfl,?_⟩
  refine⟨_,rfl,_,rfl,_,rfl,_,rfl,g,o,t,tm,rfl,s2 _ _ ht1,k1 _ _ (fun _ _ h=>h) ?_⟩
  rw[hz];rfl
 subst hz
 refine⟨D,_,rfl,SqL.of hD2,_,rfl,?_⟩
 exact ycl (q2 bn H2 (s1.trans s2))
end
end K28
namespace K28
open PySem L2
abbrev ysb:Stmt:=top 74
abbrev zcf:List Str:=["_law_draw","_law_odd_here"]
abbrev ysc:List Str:=["_law_draw"]
theorem sc_odd:FnScope zcf ysc (yac ysb):=⟨rfl,rfl,rfl,by decide +kernel,rfl,by decide +kernel,by decide +kernel⟩
section
variable {P:Program}{w:World}{K:PySem.W.Frag}{mg:Str→Option Value}{base:Heap}{f:Addr}{fd:FuncData}
theorem za2 (B:Bn mg) (G_pick:Cal P w K mg base CX0 1 "_law_pick" yih yig) (F:Fun K "_law_odd" "_law_odd" ysb f fd):FnOk P w K mg base CX0 2 f fd ysc yvy:=by
 refine F.ok sc_odd (fun vs H Q E h=>?_) (fun cdv A outer s H vs Q E hr h=>?_)
 ·obtain ⟨a,c,rfl,_⟩:=h;rfl
 obtain ⟨a,c,rfl,d,q⟩:=h
 refine⟨_,(yae (yas (i:=1) sc_odd.nd rfl (Or.inl rfl) (yys (yb3 (ytv (yja yaf yaf ⟨by decide,by decide,by decide⟩)) (yb3 (ytv (yfc yaf)) (yb3 (yfc yaf) (yb3 (yfc yaf) (yb3 (yfc yaf) (yb3 (yfc yaf) (yb3 (yfc yaf) (yb3 (yfc yaf) (yb3 (yfc yaf) (yb3 (yfc yaf) (yb3 (yfc yaf) (yb3 (yfc yaf) (yb3 (yja yaf yaf ⟨by decide,by decide,by decide⟩) (yb3 (ytw (yja yaf yaf ⟨by decide,by decide,by decide⟩) (yfc yaf)) (yb3 (yja yaf yaf ⟨by decide,by decide,by decide⟩) (yb3 (ytw (yja yaf yaf ⟨by decide,by decide,by decide⟩) (yfc yaf)) yyr))))))))))))))))))
  (yae (yas (i:=1) sc_odd.nd rfl (Or.inl rfl) (ybh yg8 (pv 1) (yb5 (yaj (ybh yic yaf yaf) yab))))
  (yah (yat (yba ya2 (pv 1) (yam G_pick hr rfl ya1 (yaj (pv 0) (yaj (yaq yar rfl B.len PySem.boot_len (yaj (pv 1) yab)) yab))) (fun _ _=>rfl)))))),?_⟩
 refine⟨by decide,fun vs hl l1 n1=>?_⟩
 refine⟨_,rfl,_,_,rfl,rfl,⟨by decide,by decide,by decide⟩,by show 1≤sizeLine;decide,fun l2 n2=>?_⟩
 refine⟨l1,l2,vs.map V.int,_,rfl,rfl,by rw[yal (yak yaa n2)];exact yaa,yaa,by rw[List.length_map,hl];show 17≤sizeLine;decide,fun l3 n3=>?_⟩
 have d3:=fun o=>((d.new n1).new n2).new (o:=o) n3
 refine⟨_,rfl,_,rfl,_,rfl,l3,_,rfl,.inl (SqL.of yaa),a,c,_,rfl,d3 _,?_,?_,fun r H4 a4 c4 d4 kb4=>?_⟩
 ·rw[List.length_append,List.length_map,hl];decide
 ·rw[List.length_append,List.length_map,hl];decide
 have ht:=kb4 l3 _ (((d.new n1).new n2).ne n3) yaa
 obtain ⟨v,ev⟩:=zai (r:=r) (by
  intro x hx'
  rcases List.mem_append.mp hx' with h|h
  ·obtain ⟨v,_,e⟩:=List.mem_map.mp h
   exact⟨v,e.symm⟩
  ·exact⟨_,List.mem_singleton.mp h⟩) a4 c4
 exact⟨l3,_,_,.int v,rfl,rfl,SqL.of ht,ev,q v H4 d4 ((((KeepBut.refl.new n1).new n2).new n3).trans kb4)⟩
end
end K28
namespace L2
open PySem PySem.Spec PySem.W PyProof.Rows
def ymz (mg:Str→Option Value) (base:Heap):Prop:=∃bm ob,mg "__builtins__" = some (.ref bm)∧bm≠builtinsNs∧base.get? bm=some ob∧ob.cls = .type "module" ∧ ob.dict=some builtinsNs∧ob.data = .plain
def ydz (H:Hp)(a c:Addr):Hp:=fun b=>if b=a∨b=c then none else H b
theorem yik {H:Hp}{a c b:Addr}(h:H b=none):ydz H a c b=none:=by
 unfold ydz
 split
 ·rfl
 ·exact h
theorem yoj {H:Hp}{a c b:Addr}{o:HO}(h:ydz H a c b=some o):b≠a∧b≠c∧H b=some o:=by
 unfold ydz at h
 split at h
 ·cases h
 ·rename_i n
  exact⟨fun z=>n (.inl z),fun z=>n (.inr z),h⟩
theorem ycp {H:Hp}{a c b:Addr}(h1:b≠a)(h2:b≠c):ydz H a c b=H b:=by
 unfold ydz
 rw[if_neg (fun z=>z.elim h1 h2)]
theorem yut {H:Hp}{a c:Addr}:ydz H a c a=none:=by unfold ydz;rw[if_pos (.inl rfl)]
theorem yuu {H:Hp}{a c:Addr}:ydz H a c c=none:=by unfold ydz;rw[if_pos (.inr rfl)]
def za3 (q:Str)(o:Obj):Prop:=∃vs t,o.data = .fields vs∧vs[1]? = some (.str q t)
section
variable {X:Cx}{pins:List (Addr×Obj)}{σ:St}{H:Hp}{s:Shared}
theorem Inv.fsFree (I:Inv X pins σ H s){b:Addr}(hb:b∈X.fs):H b=none:=by
 obtain ⟨_,o,ho,_⟩:=I.ok.funs.mem hb
 exact I.base.free b o ho (I.ok.frf b hb) fun z=>I.ok.exfs b z hb
theorem Inv.notOld (I:Inv X pins σ H s)(hex:X.ex=[]){b:Addr}{u:HO}(e:H b=some u):∀o,X.s₀.heap.get? b=some o→X.H₀ b≠none:=fun o ho n=>by
 have:=I.base.free b o ho n (by rw[hex];simp)
 rw[e] at this;cases this
theorem ywv {A:Around}{E:Value→Shared→Prop}{q:Str}{params:Arguments}{body:Expr}{scope:Scope}{pos:Pos}{c P:Addr}{clos:List (Str×Addr)}{Q:Value→Shared→Prop}(I:Inv X pins σ H s)(hex:X.ex=[])
 (hP:H P=some (.cod q pos)) (hcode:X.env.code = .ref c) (C:codeHdIn X.K c P=true) (B:ymz X.mg X.base) (hcl:closureFor scope X.env=pure clos) (hdef:defaultsOf params X.env=([],[])) (hq:X.env.qual ++ "<lambda>" = q)
 (h:∀f c' ctv co s',Inv X ((f,kla_obj "<lambda>" q params body scope clos ((X.mg "__name__").getD .none) c' ctv)::(P,tabObj #[rawInt pos.line,rawInt pos.col,.ref c'])::(c',co)::pins) σ (ydz H P c') s'→za3 q co→P≠c'→H f=none→(H c'=none∨H c'=some (.own P)) →
  (∀o,X.s₀.heap.get? c' = some o→X.H₀ c'≠none)→(∀p∈X.pn++pins,p.1≠P∧p.1≠c')→Q (.ref f) s') :
 wpAny (model X.prog X.w) A (eval (.Lambda params body scope pos) X.env) Q E s:=by
 have Cd:CodeHd s.heap c P:=codeHd_of_K I.kIn C
 have hgs:=I.mod.glob.keeps I.bk
 have nP:∀b,H b=none→b≠P:=fun b n z=>by rw[z,hP] at n;cases n
 obtain ⟨bm,ob,b1,b2,b3,b4,b5,b6⟩:=B
 have b3':=I.bs _ _ b3
 have hgP:mainGlobals≠P:=by
  obtain ⟨o,es,ep,e,_⟩:=I.mod.glob
  exact nP _ (I.bs _ _ e).2
 have hbG:bm≠mainGlobals:=fun z=>by
  obtain ⟨o,es,ep,e,hd,_⟩:=I.mod.glob
  rw[z,e] at b3;cases b3;rw[hd] at b6;cases b6
 have BA:s.heap.BuiltinsAt X.mg P:=⟨bm,ob,b1,b2,hbG,nP _ b3'.2,b3'.1,b4,b5,b6⟩
 have Lne:X.env.locals≠P:=nP _ I.free
 refine kla_eval hdef ?_
 rw[hq]
 have fin:∀(h':Heap) (tk:Nat) (f c':Addr) (ctv:Value),Heap.ExtBut P s.heap h'→s.heap.objs.size≤h'.objs.size→f=h'.objs.size→h'.CodeRec (.ref c') q→h'.get? P=some (tabObj #[rawInt pos.line,rawInt pos.col,.ref c'])→P≠c'→
  (H c'=some (.own P)∨s.heap.objs.size≤c')→Q (.ref f) { s with heap:=h'.push (kla_obj "<lambda>" q params body scope clos ((X.mg "__name__").getD .none) c' ctv),toks:=tk }:=by
  intro h' tk f c' ctv hx hsz ef hrec hT hne hc
  subst ef
  have hcn:H c'=none∨H c'=some (.own P):=by
   rcases hc with z|z
   ·exact .inr z
   ·exact .inl (I.hok.fresh z)
  have kp:∀b o,b≠P→s.heap.get? b=some o→(h'.push (kla_obj "<lambda>" q params body scope clos ((X.mg "__name__").getD .none) c' ctv)).get? b=some o:=fun b o n e=>Heap.get?_push_of_some _ (hx b o n e)
  have ncc:∀b u,H b=some u→u≠.own P→b≠c':=fun b u e n z=>by
   rw[z] at e
   rcases hcn with y|y
   ·rw[y] at e;cases e
   ·rw[y] at e;cases e;exact n rfl
  have npp:∀b u,H b=some u→u≠.cod q pos→b≠P:=fun b u e n z=>by
   rw[z,hP] at e;cases e;exact n rfl
  obtain ⟨c₂,co,vs,t,e2,hoc,hd,hv⟩:=hrec
  cases e2
  have J:Inv X pins σ (ydz H P c') { s with heap:=h'.push (kla_obj "<lambda>" q params body scope clos ((X.mg "__name__").getD .none) c' ctv),toks:=tk }:=by
   refine I.step (g':=s.gens) (d':=s.drawn) (ch:=[]) (fun _ z=>nomatch z) (fun b o _ _ _ e n=>kp b o (nP b n) e) (fun b o _ _ _ e n=>⟨o.slots,kp b o (nP b n) e⟩) (fun b o _ _ n=>yik n) (fun b o _ e=>?_)
    (fun b xs e=>by rw[ycp (npp b _ e (by intro z;cases z)) (ncc b _ e (by intro z;cases z))];exact e) (fun b o u e=>by rw[ycp (npp b _ e (by intro z;cases z)) (ncc b _ e (by intro z;cases z))];exact e)
    (fun b ps e=>⟨#[],by rw[ycp (npp b _ e (by intro z;cases z)) (ncc b _ e (by intro z;cases z)),e];simp⟩) (fun m hm=>?_) (fun b u e=>?_) I.bare
   ·by_cases hb:b=P
    ·exact⟨_,by rw[hb];exact Heap.get?_push_of_some _ hT⟩
    ·exact⟨o,kp b o hb e⟩
   ·obtain ⟨o,es,ep,ho,r⟩:=hm
    exact⟨o,es,ep,kp _ o Lne ho,r⟩
   ·obtain ⟨n1,n2,e'⟩:=yoj e
    refine(I.hok b u e').stay (fun d v hd q=>kp d v ?_ q) (fun d z=>?_) fun d xs z=>?_
    ·rcases hd with z|z
     ·rw[z];exact n1
     ·exact npp d _ z (by intro y;cases y)
    ·rw[ycp (npp d _ z (by intro y;cases y)) (ncc d _ z (by intro y;cases y;exact n1 rfl))];exact z
    ·rw[ycp (npp d _ z (by intro y;cases y)) (ncc d _ z (by intro y;cases y))];exact z
  have hf:H h'.objs.size=none:=I.hok.fresh hsz
  have old:∀b u,H b=some u→b≠X.env.locals∧b ∉ X.fs:=fun b u e=>⟨fun z=>(by rw[z,I.free] at e;cases e),fun z=>(by rw[I.fsFree z] at e;cases e)⟩
  have new:∀b,s.heap.objs.size≤b→b≠X.env.locals∧b ∉ X.fs:=fun b hb=>⟨Nat.ne_of_gt (Nat.lt_of_lt_of_le I.lt hb),I.nofs hb⟩
  have hc':c'≠X.env.locals∧c' ∉ X.fs:=by
   rcases hc with z|z
   ·exact old _ _ z
   ·exact new _ z
  refine h h'.objs.size c' ctv co _ (J.pins_of fun p hp=>?_) ⟨vs,t,hd,hv⟩ hne hf hcn (fun o ho=>?_) fun p hp=>?_
  ·rcases List.mem_cons.mp hp with rfl|hp
   ·exact⟨Heap.get?_push_size _ rfl,yik hf,(new _ hsz).1,(new _ hsz).2,fun v z=>(by cases z)⟩
   ·rcases List.mem_cons.mp hp with rfl|hp
    ·exact⟨Heap.get?_push_of_some _ hT,yut,(old _ _ hP).1,(old _ _ hP).2,fun v z=>(by cases z)⟩
    ·rcases List.mem_cons.mp hp with rfl|hp
     ·exact⟨Heap.get?_push_of_some _ hoc,yuu,hc'.1,hc'.2,fun v z=>(by rw[hd] at z;cases z)⟩
     ·exact J.pin p (List.mem_append_right _ hp)
  ·rcases hc with z|z
   ·exact I.notOld hex z o ho
   ·exact absurd (Nat.lt_of_lt_of_le (Heap.lt_size ho) (Nat.le_trans I.sz z)) (Nat.lt_irrefl _)
  ·obtain ⟨e,n,_⟩:=I.pin p hp
   refine⟨nP _ n,fun z=>?_⟩
   rcases hc with y|y
   ·rw[z,y] at n;cases n
   ·exact absurd (Nat.lt_of_lt_of_le (Heap.lt_size e) (z ▸ y)) (Nat.lt_irrefl _)
 rcases (show ObjOk X.prog X.w H s.heap P (.cod q pos) from I.hok P _ hP) with e|⟨c',e,hw,hrec⟩
 ·refine kla_makeFunction (mg:=X.mg) hcl I.ok.glob hgs hcode Cd e trivial rfl hgP BA fun c' ctv h' tk hx hge hlt hrec htb=>?_
  refine fin h' tk _ c' ctv hx (Nat.le_of_lt (Nat.lt_of_le_of_lt hge hlt)) rfl hrec (by rw[htb];simp) ?_ (.inr hge)
  intro z
  rw[← z] at hge
  exact absurd (Nat.lt_of_lt_of_le (Heap.lt_size e) hge) (Nat.lt_irrefl _)
 ·refine kla_makeFunctionHit (mg:=X.mg) hcl I.ok.glob hgs hcode Cd e (by simp [TriplesOk,rawInt]) (cv:=.ref c') (by simp [codeAmong,rawInt]) BA fun ctv h' tk hk hsz=>?_
  refine fin h' tk _ c' ctv (fun b o _ e=>hk b o e) hsz rfl (hrec.keeps hk) (hk _ _ e) ?_ (.inl hw)
  intro z
  rw[← z,hP] at hw;cases hw
theorem Inv.retrack {P c' f:Addr}{fo co:Obj}{q:Str}{pos:Pos}(I:Inv X ((f,fo)::(P,tabObj #[rawInt pos.line,rawInt pos.col,.ref c'])::(c',co)::pins) σ H s)(hq:za3 q co)(hne:P≠c')
 (nP:∀o,X.s₀.heap.get? P=some o→X.H₀ P≠none) (nc:∀o,X.s₀.heap.get? c' = some o→X.H₀ c'≠none) (hp:∀p∈X.pn++pins,p.1≠P∧p.1≠c'):Inv X pins σ (upd (upd H P (.cod q pos)) c' (.own P)) s:=by
 obtain ⟨eP,hP,lP,_,dP⟩:=I.pin (P,tabObj #[rawInt pos.line,rawInt pos.col,.ref c']) (List.mem_append_right _ (.tail _ (.head _)))
 obtain ⟨ec,hc,lc,_,dc⟩:=I.pin (c',co) (List.mem_append_right _ (.tail _ (.tail _ (.head _))))
 dsimp only at eP hP lP dP ec hc lc dc
 have away:∀b,b≠P→b≠c'→upd (upd H P (.cod q pos)) c' (.own P) b=H b:=fun b n1 n2=>by rw[yal n2,yal n1]
 have some_away:∀b u,H b=some u→b≠P∧b≠c':=fun b u e=>⟨fun z=>(by rw[z,hP] at e;cases e),fun z=>(by rw[z,hc] at e;cases e)⟩
 have keepS:∀b u,H b=some u→upd (upd H P (.cod q pos)) c' (.own P) b=some u:=fun b u e=>by
  obtain ⟨n1,n2⟩:=some_away b u e
  rw[away b n1 n2];exact e
 have atP:upd (upd H P (.cod q pos)) c' (.own P) P=some (.cod q pos):=by rw[yal hne,yaa]
 have atc:upd (upd H P (.cod q pos)) c' (.own P) c'=some (.own P):=yaa
 refine⟨I.ok,I.os,I.bare,⟨I.base.keep,I.base.slot,fun b o e n hx=>?_,I.base.there,fun b xs e=>keepS b _ (I.base.tups b xs e),fun b o xs e=>keepS b _ (I.base.frzs b o xs e),fun b ps e=>?_⟩,I.loc,I.cell,?_,fun x c e=>?_,fun p hp'=>?_,fun b u e=>?_,I.len⟩
 ·rw[away b (fun z=>nP o (z ▸ e) (z ▸ n)) (fun z=>nc o (z ▸ e) (z ▸ n))]
  exact I.base.free b o e n hx
 ·obtain ⟨more,z⟩:=I.base.tbls b ps e
  exact⟨more,keepS b _ z⟩
 ·rw[away _ (Ne.symm lP) (Ne.symm lc)];exact I.free
 ·obtain ⟨v,o,ho,hd⟩:=I.cell x c e
  rw[away c (fun z=>by rw[z,eP] at ho;cases ho;exact dP v hd) (fun z=>by rw[z,ec] at ho;cases ho;exact dc v hd)]
  exact I.freeC x c e
 ·obtain ⟨z1,z2⟩:=hp p hp'
  have hp2:p∈X.pn++((f,fo)::(P,tabObj #[rawInt pos.line,rawInt pos.col,.ref c'])::(c',co)::pins):=by
   rcases List.mem_append.mp hp' with y|y
   ·exact List.mem_append_left _ y
   ·exact List.mem_append_right _ (.tail _ (.tail _ (.tail _ y)))
  obtain ⟨e,n,r⟩:=I.pin p hp2
  exact⟨e,by rw[away _ z1 z2];exact n,r⟩
 ·by_cases hb:b=c'
  ·subst hb
   rw[atc] at e;cases e
   exact⟨co,ec⟩
  ·by_cases hb2:b=P
   ·subst hb2
    rw[atP] at e;cases e
    obtain ⟨vs,t,d1,d2⟩:=hq
    exact .inr ⟨c',eP,atc,c',co,vs,t,rfl,ec,d1,d2⟩
   ·rw[away b hb2 hb] at e
    exact(I.hok b u e).stay (fun _ _ _ q=>q) (fun d z=>keepS d _ z) fun d xs z=>keepS d _ z
end
def yze (X:Cx)(A:Around)(N':List Str)(q:Str)(scope:Scope)(f c':Addr)(s:Shared)(H:Hp):Cx where
 prog:=X.prog
 w:=X.w
 K:=X.K
 mg:=X.mg
 base:=X.base
 A:=A.deeper (envX q scope s.heap.objs.size f (.ref c') (yhp X.env scope.names []))
 N:=N'
 s₀:=s
 H₀:=H
 env:=envX q scope s.heap.objs.size f (.ref c') (yhp X.env scope.names [])
 outer:=X.stack
 stack:=envX q scope s.heap.objs.size f (.ref c') (yhp X.env scope.names [])::X.stack
 ex:=[]
 fn:=fun _=>false
 calm:=true
 pn:=[]
 xe:=fun _ _=>False
structure LamScope (X:Cx) (N':List Str) (ix:List (Option Nat)) (p:Str) (scope:Scope):Prop where
 kind:scope.kind = .function
 co:scope.isCoroutine=false
 gen:scope.isGenerator=false
 nocell:∀y∈scope.names,y.2≠.cell
 par:N'[0]? = some p
 loc:scope.names.lookup p=some .local
 len:ix.length=N'.length
 pos:0<N'.length
 free:∀y∈scope.names,y.2 = .free→X.env.kindOf y.1=some .cell
 out:∀(k j:Nat) (x:Str),N'[k]? = some x→ix[k]? = some (some j)→X.N[j]? = some x∧(x,NameKind.free)∈scope.names∧scope.names.lookup x=some .free
def yww (ix:List (Option Nat))(σ:St)(v:V):St:=(yb1 ix σ).set 0 (some v)
section
variable {X:Cx}{pins:List (Addr×Obj)}{σ:St}{H:Hp}{s:Shared}{N':List Str}{ix:List (Option Nat)}{p q:Str}{scope:Scope}
theorem ygd (I:Inv X pins σ H s)(S:LamScope X N' ix p scope){x:Str}{c:Addr}(h:(yhp X.env scope.names []).lookup x=some c):X.env.cells.lookup x=some c:=by
 rcases ylw _ _ (PySem.mem_of_lookup h) with z|⟨z1,z2⟩
 ·cases z
 ·obtain ⟨c',hc⟩:=I.ok.has x (.inl (S.free _ z1 rfl))
  dsimp only at z2
  rw[hc] at z2
  rw[hc,z2]
  rfl
theorem yzf {A:Around}{f c':Addr}{h':Heap}{tk:Nat}{x:V}{u:Value}(I:Inv X pins σ H s)(hcalm:A.handled=none)(hfr:A.frames=some X.stack)(S:LamScope X N' ix p scope)(r:RelV x u)
 (hns:h'.Ns s.heap.objs.size (fun y=>([(p,u)]:List (Str×Value)).reverse.lookup y)) (hk:∀b o,s.heap.get? b=some o→h'.get? b=some o):Inv (yze X A N' q scope f c' s H) [] (yww ix σ x) H { s with heap:=h',toks:=tk }:=by
 have noL:H s.heap.objs.size=none:=I.hok.fresh (Nat.le_refl _)
 refine⟨⟨I.ok.mod,S.kind,rfl,rfl,Nat.le_refl _,fun x y c h1 h2=>I.ok.inj x y c (ygd I S h1) (ygd I S h2),fun x hx=>?_,(fun x c z=>nomatch z),fun _=>hcalm,Around.frames_deeper hfr,.inr ⟨rfl,rfl⟩,fun b hb=>absurd (show b∈([]:List Addr) from hb) (by simp),I.bs,Nat.le_trans I.ok.bsz I.sz,fun b o q hb=>absurd (show b∈([]:List Addr) from hb) (by simp),fun b hb=>absurd (show b∈([]:List Addr) from hb) (by simp),I.stack,I.stkFree⟩,
  rfl,I.bare,Un.kept hk,⟨_,hns,fun k y v h1 h2 h3=>?_⟩,fun x c h=>?_,noL,fun x c h=>I.freeC x c (ygd I S h),(fun p hp=>absurd (show p∈([]:List (Addr×Obj)) from hp) (by simp)),I.hok.kept hk,?_⟩
 ·have hx':scope.names.lookup x=some .cell∨scope.names.lookup x=some .free:=hx
  rcases hx' with z|z
  ·exact absurd rfl (S.nocell _ (PySem.mem_of_lookup z))
  ·exact yde (yhb (env:=X.env) scope.names [] (PySem.mem_of_lookup z))
 ·have e2:((yb1 ix σ).set 0 (some x))[k]? = some (some v):=h2
  have h1':N'[k]? = some y:=h1
  by_cases hk0:k=0
  ·subst hk0
   rw[S.par] at h1'
   cases h1'
   have hl:0<(yb1 ix σ).length:=by unfold yb1;rw[List.length_map,S.len];exact S.pos
   rw[List.getElem?_set_self hl] at e2
   cases e2
   refine⟨u,r,.inl ⟨S.loc,?_⟩⟩
   show ([(p,u)]:List (Str×Value)).lookup p=some u
   rw[List.lookup_cons,show (p == p)=true from by simp]
  ·rw[List.getElem?_set_ne (fun z=>hk0 z.symm)] at e2
   unfold yb1 at e2
   rw[List.getElem?_map] at e2
   cases e3:ix[k]? with
   |none=>rw[e3] at e2;cases e2
   |some o=>
    rw[e3] at e2
    cases o with
    |none=>cases e2
    |some j=>
     obtain ⟨n1,n2,n3⟩:=S.out k j y h1' e3
     have e4:σ[j]? = some (some v):=by
      have:(σ[j]?).join=some v:=Option.some.inj e2
      cases e5:σ[j]? with
      |none=>rw[e5] at this;cases this
      |some w=>rw[e5] at this;exact congrArg some this
     have kc:=S.free _ n2 rfl
     obtain ⟨m,hn,hl⟩:=I.loc
     obtain ⟨u',r',l⟩:=hl j y v n1 e4 (.inr (.inl kc))
     refine⟨u',r',?_⟩
     rcases l with ⟨z,_⟩ | ⟨_,c,hc,hcell⟩
     ·dsimp only at kc
      rw[kc] at z;cases z
     ·obtain ⟨c2,hc2⟩:=yde (yhb (env:=X.env) scope.names [] n2)
      have ec:=ygd I S hc2
      rw[hc] at ec
      cases ec
      exact .inr ⟨.inr n3,c,hc2,hcell.keeps hk⟩
 ·obtain ⟨v,z⟩:=I.cell x c (ygd I S h)
  exact⟨v,z.keeps hk⟩
 ·unfold yww yb1
  rw[List.length_set,List.length_map]
  exact S.len
theorem ywx {A:Around}{f c':Addr}{params:Arguments}{body:Expr}{pm ctv:Value}{x:V}{u:Value}{tb:TE}{Q:VK}(I:Inv X pins σ H s)(hcalm:A.handled=none)(hfr:A.frames=some X.stack)(hdp:A.depth<recursionLimit)(S:LamScope X N' ix p scope)
 (hf:s.heap.get? f=some (kla_obj "<lambda>" q params body scope (yhp X.env scope.names []) pm c' ctv)) (hc:s.heap.CodeRec (.ref c') q)
 (hb:bindArgs (kla_fn "<lambda>" q params body scope (yhp X.env scope.names []) pm (.ref c') ctv) ⟨[u],[]⟩=pure [(p,u)])
 (he:PE (yze X A N' q scope f c' s H) body tb) (r:RelV x u) (h:tb (yww ix σ x) H Q):wpAny (model X.prog X.w) A (call (.ref f) [u]) (EP X pins σ Q) (fun _ _=>False) s:=by
 refine wpAny_call (codeAny_mono (R:=fun r s'=>∃u,r = .ok (.ret u)∧EP X pins σ Q u s') ?_ fun r s' hq=>?_)
 ·refine kla_callFunE hdp hf rfl S.co S.gen rfl hc ?_
  rw[hb]
  refine zwp0 (wpAny_newFunctionEnv S.nocell (fun y hy=>?_) (fun h₁ hns hsb=>⟨I.nolimit.fresh _ hsb,?_⟩) S.kind)
  ·obtain rfl:y=(p,u):=by simpa using hy
   exact S.loc
  show codeAny _ _ (.expr body (envX q scope s.heap.objs.size f (.ref c') (yhp X.env scope.names []))) _ _
  have hk₁:∀b o,s.heap.get? b=some o→h₁.get? b=some o:=fun b o e=>hsb.extBut b o (Nat.ne_of_lt (Heap.lt_size e)) (Heap.get?_push_of_some _ e)
  have J:=yzf (q:=q) (A:=A) (f:=f) (c':=c') (tk:=s.toks+([(p,u)]:List (Str×Value)).length) I hcalm hfr S r hns hk₁
  refine kla_codeExpr (wpAny_mono (he [] _ _ H Q J h) (fun v s' hv=>?_) fun _ _ z=>z.elim)
  obtain ⟨v',H',J',rv,q'⟩:=hv
  exact⟨v,rfl,I.after ⟨v',H',J'.os,J'.bare,J'.base,J'.hok,rv,q'⟩⟩
 ·obtain ⟨u',rfl,z⟩:=hq
  exact z
end
section
variable {X:Cx}{pins:List (Addr×Obj)}{σ:St}{H:Hp}{s:Shared}
theorem Inv.turn1 {t':Nat}{it:Addr}{o o':Obj}{h':Heap}(I:Inv X ((it,o)::pins) σ H s)(hs:Heap.SameBut it s.heap h')(ho:h'.get? it=some o')(hd:∀v,o'.data≠.cell v)(hge:X.s₀.heap.objs.size≤it)(hne:∀p∈X.pn++pins,p.1≠it) :
 Inv X ((it,o')::pins) σ H { s with heap:=h',toks:=t' }:=by
 obtain ⟨e,n,l,fs,d⟩:=I.pin (it,o) (List.mem_append_right _ (.head _))
 dsimp only at e n l fs d
 have I0:Inv X pins σ H s:=I.pins_of fun p hp=>I.pin p (List.mem_append_right _ (.tail _ hp))
 have J:=I0.turned (t':=t') (it:=it) (h':=h') (fun b u nb eb=>(hs.2 b nb).trans eb) n l (.inr hge) (fun x c hc z=>by
  obtain ⟨v,oc,hoc,hdc⟩:=I.cell x c hc
  rw[z,e] at hoc
  cases hoc
  exact d v hdc) hne
 refine J.pins_of fun p hp=>?_
 rcases List.mem_cons.mp hp with rfl|hp
 ·exact⟨ho,n,l,fs,hd⟩
 ·exact J.pin p (List.mem_append_right _ hp)
theorem Inv.track1 {it:Addr}{ob:Obj}{o:HO}(I:Inv X ((it,ob)::pins) σ H s)(hge:X.s₀.heap.objs.size≤it)(hne:∀p∈X.pn++pins,p.1≠it)(ok:ObjOk X.prog X.w (upd H it o) s.heap it o):Inv X pins σ (upd H it o) s:=by
 obtain ⟨e,n,l,fs,d⟩:=I.pin (it,ob) (List.mem_append_right _ (.head _))
 dsimp only at e n l fs d
 have I0:Inv X pins σ H s:=I.pins_of fun p hp=>I.pin p (List.mem_append_right _ (.tail _ hp))
 have ne:∀b u,H b=some u→b≠it:=fun b u q z=>by rw[z,n] at q;cases q
 refine I0.step (g':=s.gens) (d':=s.drawn) (t':=s.toks) (h':=s.heap) (ch:=[it]) (fun b hb=>?_) (fun b o _ _ _ e _=>e) (fun b o _ _ _ e _=>⟨o.slots,e⟩) (fun b u hb _ nn=>?_) (fun b o _ e=>⟨o,e⟩) (fun b xs q=>by rw[yal (ne b _ q)];exact q) (fun b u xs q=>by rw[yal (ne b _ q)];exact q)
  (fun b ps q=>⟨#[],by rw[yal (ne b _ q),q];simp⟩) (fun m hm=>hm) (fun b u q=>?_) I.bare
 ·obtain rfl:b=it:=by simpa using hb
  refine⟨.inr hge,l,fun x c hc z=>?_,hne⟩
  obtain ⟨v,oc,hoc,hdc⟩:=I.cell x c hc
  rw[z,e] at hoc
  cases hoc
  exact d v hdc
 ·rw[yal fun z=>hb (by rw[z];exact List.mem_singleton.mpr rfl)];exact nn
 ·by_cases hb:b=it
  ·subst hb
   rw[yaa] at q;cases q
   exact ok
  ·rw[yal hb] at q
   exact(I.hok b u q).stay (fun _ _ _ z=>z) (fun c z=>by rw[yal (ne c _ z)];exact z) fun c xs z=>by rw[yal (ne c _ z)];exact z
def za4 (H:Hp)(bs:List Addr)(ns:List Int)(key:Int→List Int):Prop:=∀(j:Nat) b n,bs[j]? = some b→ns[j]? = some n→H b=some (.tup ((key n).map V.int))
theorem ysd {A:Around}{E:Value→Shared→Prop}{l f:Addr}{ns:List Int}{key:Int→List Int}{wd:Nat}{Q:Value→Shared→Prop}(I:Inv X pins σ H s)(hl:SqL X.K H l (ns.map V.int))(h64:ns.length<64)(hw:∀n∈ns,(key n).length=wd)(hw0:0<wd)
 (hcall:∀n∈ns,∀pins' H2 s2 u,(∀p∈pins,p∈pins')→Inv X pins' σ H2 s2→Same H H2→RelV (.int n) u→wpAny (model X.prog X.w) A.in1.in1 (call (.ref f) [u]) (EP X pins' σ fun y H3=>∃b,y = .ref b∧Same H2 H3∧H3 b=some (.tup ((key n).map V.int))) (fun _ _=>False) s2)
 (h:∀(D:Addr) (ms:List Int) H3 s3,H D=none→ms.Perm ns→ms.Pairwise (fun a b=>yis (key b) (key a)=false)→Same H H3→H3 D=some (.lst (ms.map V.int))→Inv X pins σ H3 s3→Q (.ref D) s3) :
 wpAny (model X.prog X.w) A (call (.builtin "sorted") [.ref l] [(Str.ofString "key",.ref f)]) Q E s:=by
 obtain ⟨its,rv,pl,hz⟩:=I.list hl
 have ia:=yht rv
 have hlen:its.length=ns.length:=IntsAre.length ia
 have hl':=pl.isList
 refine call_function_entry_kw kind_sorted plain_sorted entry_sorted (ksk_s1 _ _) ?_
 unfold Builtin.«sorted»
 refine zwb0 (m:=checkCount "sorted" 1 1 _) (zwp0 ?_)
 refine zwb0 (collect_list hl' ?_ (by rw[sizeLine_eq];omega))
 refine zwb0 (wpAny_newList ?_ (by rw[sizeLine_eq];omega))
 have hsz:((s.heap.push (seqObj "list" #[] 0)).update s.heap.objs.size (Obj.mapSeq (· ++ its.toArray))).objs.size=s.heap.objs.size+1:=by
  rw[Heap.size_update,size_push']
 have hoL:(((s.heap.push (seqObj "list" #[] 0)).update s.heap.objs.size (Obj.mapSeq (· ++ its.toArray))).push (seqObj "list" its.toArray 0)).get? (s.heap.objs.size+1)=some (seqObj "list" its.toArray 0):=by
  rw[← hsz];exact Heap.get?_push_size _ rfl
 have keep:∀b o,s.heap.get? b=some o→(((s.heap.push (seqObj "list" #[] 0)).update s.heap.objs.size (Obj.mapSeq (· ++ its.toArray))).push (seqObj "list" its.toArray 0)).get? b=some o:=fun b o q=>by
  have hlt:b<s.heap.objs.size:=Heap.lt_size q
  rw[Heap.get?_push_ne _ _ _ (by rw[hsz];exact Nat.ne_of_lt (Nat.lt_succ_of_lt hlt)),Heap.get?_update_ne _ _ _ _ (Nat.ne_of_lt hlt),Heap.get?_push_ne _ _ _ (Nat.ne_of_lt hlt)]
  exact q
 have hsz1:(((s.heap.push (seqObj "list" #[] 0)).update s.heap.objs.size (Obj.mapSeq (· ++ its.toArray))).push (seqObj "list" its.toArray 0)).objs.size=s.heap.objs.size+2:=by rw[size_push',hsz]
 show wpAny _ _ _ _ _ { s with heap:=((s.heap.push (seqObj "list" #[] 0)).update s.heap.objs.size (Obj.mapSeq (· ++ its.toArray))).push (seqObj "list" its.toArray 0) }
 rw[hsz]
 generalize ((s.heap.push (seqObj "list" #[] 0)).update s.heap.objs.size (Obj.mapSeq (· ++ its.toArray))).push (seqObj "list" its.toArray 0)=h1 at hoL keep hsz1 ⊢
 refine zwb0 (wpAny_holding (wpAny_call_entry_kw slot_list_sort ⟨_,hoL,rfl⟩ entry_list_sort ?body (ksk_l1 _ _)))
 case body=>
 show wpAny (model X.prog X.w) A.in1.in1 (Builtin.«list.sort» ⟨[.ref (s.heap.objs.size+1)],[(Str.ofString "key",.ref f)]⟩) _ _ _
 rw[ksk_t1]
 obtain ⟨D,eD⟩ : ∃D,s.heap.objs.size+1=D:=⟨_,rfl⟩
 rw[eD] at hoL ⊢
 have hD1:D<h1.objs.size:=by omega
 obtain ⟨e1,ho1⟩ : ∃e1,(h1.update D (Obj.mapSeq fun _=>(#[]:Array Value))).get? D=some (seqObj "list" #[] e1):=⟨_,get?_update_seq hoL fun _=>#[]⟩
 unfold ksk_tree
 refine zwb0 (listItems_at hoL rfl ?_)
 refine zwb0 (listUpdate_at hoL rfl ?_ (by rw[List.size_toArray,sizeLine_eq];omega) (Nat.zero_le _))
 refine zwb0 (seqEpoch_at ho1 rfl ?_)
 refine zwb0 (wpAny_newTuple ?_ (by show its.length≤_;rw[sizeLine_eq];omega))
 refine zwb0 (wpAny_newList ?_ (Nat.zero_le _))
 refine wpAny_holding ?_
 have hkS:((h1.update D (Obj.mapSeq fun _=>(#[]:Array Value))).push (seqObj "tuple" its.toArray 0)).objs.size=s.heap.objs.size+3:=by rw[size_push',Heap.size_update,hsz1]
 have keep2:∀b o,s.heap.get? b=some o→(((h1.update D (Obj.mapSeq fun _=>(#[]:Array Value))).push (seqObj "tuple" its.toArray 0)).push (seqObj "list" #[] 0)).get? b=some o:=fun b o q=>by
  have hlt:b<s.heap.objs.size:=Heap.lt_size q
  refine Heap.get?_push_of_some _ (Heap.get?_push_of_some _ ?_)
  rw[Heap.get?_update_ne _ _ _ _ (Nat.ne_of_lt (Nat.lt_trans hlt (by omega)))]
  exact keep b o q
 have ho2:(((h1.update D (Obj.mapSeq fun _=>(#[]:Array Value))).push (seqObj "tuple" its.toArray 0)).push (seqObj "list" #[] 0)).get? D=some (seqObj "list" #[] e1):=Heap.get?_push_of_some _ (Heap.get?_push_of_some _ ho1)
 have hoS:(((h1.update D (Obj.mapSeq fun _=>(#[]:Array Value))).push (seqObj "tuple" its.toArray 0)).push (seqObj "list" #[] 0)).get? (s.heap.objs.size+3)=some (seqObj "list" #[] 0):=by
  rw[← hkS];exact Heap.get?_push_size _ rfl
 show wpAny (model X.prog X.w) A.in1.in1 _ _ _ { s with heap:=((h1.update D (Obj.mapSeq fun _=>(#[]:Array Value))).push (seqObj "tuple" its.toArray 0)).push (seqObj "list" #[] 0) }
 rw[hkS]
 obtain ⟨S,eS⟩ : ∃S,s.heap.objs.size+3=S:=⟨_,rfl⟩
 rw[eS] at hoS ⊢
 generalize ((h1.update D (Obj.mapSeq fun _=>(#[]:Array Value))).push (seqObj "tuple" its.toArray 0)).push (seqObj "list" #[] 0)=h2 at keep2 ho2 hoS ⊢
 have hDS:D≠S:=by omega
 have HD:H D=none:=I.hok.fresh (by omega)
 have HS':H S=none:=I.hok.fresh (by omega)
 have geD:X.s₀.heap.objs.size≤D:=Nat.le_trans I.sz (by omega)
 have geS:X.s₀.heap.objs.size≤S:=Nat.le_trans I.sz (by omega)
 have pinlt:∀p∈X.pn++pins,p.1<s.heap.objs.size:=fun p hp=>Heap.lt_size (I.pin p hp).1
 have pinD:∀p∈X.pn++pins,p.1≠D:=fun p hp=>Nat.ne_of_lt (Nat.lt_trans (pinlt p hp) (by omega))
 have pinS:∀p∈X.pn++pins,p.1≠S:=fun p hp=>Nat.ne_of_lt (Nat.lt_trans (pinlt p hp) (by omega))
 have pinDS:∀o,∀p∈X.pn++((D,o)::pins),p.1≠S:=fun o p hp=>by
  rcases List.mem_append.mp hp with z|z
  ·exact pinS p (List.mem_append_left _ z)
  ·rcases List.mem_cons.mp z with rfl|z
   ·exact hDS
   ·exact pinS p (List.mem_append_right _ z)
 have I2:Inv X ((S,seqObj "list" #[] 0)::(D,seqObj "list" #[] e1)::pins) σ H { s with heap:=h2 }:=by
  have J:=I.kept (t':=s.toks) keep2
  refine J.pins_of fun p hp=>?_
  rcases List.mem_cons.mp hp with rfl|hp
  ·exact⟨hoS,HS',Nat.ne_of_gt (Nat.lt_of_lt_of_le I.lt (by omega)),I.nofs (by omega),fun v z=>(by cases z)⟩
  ·rcases List.mem_cons.mp hp with rfl|hp
   ·exact⟨ho2,HD,Nat.ne_of_gt (Nat.lt_of_lt_of_le I.lt (by omega)),I.nofs (by omega),fun v z=>(by cases z)⟩
   ·exact J.pin p (List.mem_append_right _ hp)
 unfold ksk_rest
 refine zwb0 (wpAny_rule ?_)
 first
  |rw[List.forIn_toArray]
  |(rw[← Array.forIn_toList];simp only[List.toList_toArray])
  |rw[← Array.forIn_toList]
 refine zwb0 (ksk_fold (fun i s'=>∃H' bs e,Inv X ((S,seqObj "list" (List.toArray (List.map Value.ref bs)) e)::(D,seqObj "list" #[] e1)::pins) σ H' s'∧Same H H'∧bs.length=i∧za4 H' bs ns key) its 0 _ ⟨H,[],0,I2,Same.refl H,rfl,fun j b n e=>(by cases e)⟩ (fun j u s' hj hJ=>?_) fun s' hJ=>?_)
 ·obtain ⟨H',bs,e,J,sm,hbl,hks⟩:=hJ
  rw[Nat.zero_add] at hbl ⊢
  have hjl:j<its.length:=(List.getElem?_eq_some_iff.mp hj).1
  obtain ⟨n,en⟩ : ∃n,ns[j]? = some n:=⟨_,List.getElem?_eq_getElem (by omega)⟩
  obtain ⟨u',eu,ru⟩:=rv.get (i:=j) (x:=.int n) (by rw[List.getElem?_map,en];rfl)
  rw[hj] at eu
  cases eu
  refine zwb0 (wpAny_attempt (wpAny_mono (hcall n (List.mem_of_getElem? en) _ H' s' u (fun p hp=>.tail _ (.tail _ hp)) J sm ru) (fun k s'' hk=>?_) fun _ _ hF=>hF.elim))
  obtain ⟨y,H3,J3,ry,b,rfl,sm3,hb⟩:=hk
  cases ry
  obtain ⟨eS3,nS3,lS3,fS3,dS3⟩:=J3.pin (S,seqObj "list" (List.toArray (List.map Value.ref bs)) e) (List.mem_append_right _ (.head _))
  dsimp only at eS3
  have s1:=Heap.SameBut.update s''.heap S (Obj.mapSeq (·.push (.ref b)))
  have ea:(List.toArray (List.map Value.ref bs)).push (.ref b)=List.toArray (List.map Value.ref (bs++[b])):=by simp
  obtain ⟨c2,hc2⟩ : ∃c2,(s''.heap.update S (Obj.mapSeq (·.push (.ref b)))).get? S=some (seqObj "list" (List.toArray (List.map Value.ref (bs++[b]))) c2):=⟨_,by rw[← ea];exact get?_update_seq eS3 (·.push (.ref b))⟩
  try dsimp only
  refine zwb0 (listUpdate_at eS3 rfl ?_ (by rw[List.size_toArray,List.length_map,sizeLine_eq];omega) (Nat.le_trans (Nat.le_of_eq (Array.size_push ..)) (by rw[List.size_toArray,List.length_map,sizeLine_eq];omega)))
  refine zwp0 ⟨rfl,H3,bs++[b],c2,J3.turn1 (t':=s''.toks) s1 hc2 (fun v z=>(by cases z)) geS (pinDS _),sm.trans sm3,by rw[List.length_append,List.length_singleton];omega,fun j' b' n' e1' e2'=>?_⟩
  by_cases hjj:j' < bs.length
  ·rw[List.getElem?_append_left hjj] at e1'
   exact sm3 _ _ (hks j' b' n' e1' e2')
  ·have:j'=bs.length:=by
    have:=(List.getElem?_eq_some_iff.mp e1').1
    rw[List.length_append,List.length_singleton] at this
    omega
   subst this
   rw[List.getElem?_append_right (Nat.le_refl _),Nat.sub_self] at e1'
   cases e1'
   rw[hbl,en] at e2'
   cases e2'
   exact hb
 ·obtain ⟨H',bs,e,J,sm,hbl,hks⟩:=hJ
  rw[Nat.zero_add] at hbl
  obtain ⟨eS3,nS3,lS3,fS3,dS3⟩:=J.pin (S,seqObj "list" (List.toArray (List.map Value.ref bs)) e) (List.mem_append_right _ (.head _))
  obtain ⟨eD3,nD3,_⟩:=J.pin (D,seqObj "list" #[] e1) (List.mem_append_right _ (.tail _ (.head _)))
  dsimp only at eS3 eD3
  try dsimp only
  refine zwb0 (listItems_at eS3 rfl ?_)
  unfold ksk_end
  try dsimp only
  rw[if_neg Bool.false_ne_true]
  have hkl:(List.map Value.ref bs).length=its.length:=by rw[List.length_map,hbl]
  have tt:TupsAt s'.heap bs (ns.map key):=⟨by rw[List.length_map];omega,fun i b r x1 x2=>by
   rw[List.getElem?_map] at x2
   cases en:ns[i]? with
   |none=>rw[en] at x2;cases x2
   |some n=>
    rw[en] at x2
    cases x2
    obtain ⟨_,us,rr,y⟩:=(show ObjOk X.prog X.w H' s'.heap b (.tup ((key n).map V.int)) from J.hok b _ (hks i b n x1 en))
    exact⟨us,y,yht rr⟩⟩
  have hwk:∀r∈ns.map key,r.length=wd:=fun r hr=>by
   obtain ⟨n,hn,rfl⟩:=List.mem_map.mp hr
   exact hw n hn
  have tail:∀(st':SortSt) (p:Array Nat),PermN its.length p→Up (ysm (ns.map key)) p its.length→(arrOf st').map (·.2)=List.toArray (p.toList.map fun i=>its.getD i Value.none)→failedOf st'=none→
   wpAny (model X.prog X.w) A.in1.in1 (ksk_tail D false e1 (.ref S) st') (fun fin s'=>∃v,fin = .done (.ret v)∧wpAny (model X.prog X.w) A.in1 (pure (PySem.Fin.done (.ret (.ref D)))) (fun fin s'=>∃v,fin = .done (.ret v)∧Q v s') E s') E s':=by
   intro st' p hp hu har hf
   unfold ksk_tail
   try dsimp only
   rw[har]
   have s1:=Heap.SameBut.update s'.heap S (Obj.mapSeq fun _=>(#[]:Array Value))
   obtain ⟨c1,hc1⟩ : ∃c1,(s'.heap.update S (Obj.mapSeq fun _=>(#[]:Array Value))).get? S=some (seqObj "list" #[] c1):=⟨_,get?_update_seq eS3 fun _=>#[]⟩
   have eD4:(s'.heap.update S (Obj.mapSeq fun _=>(#[]:Array Value))).get? D=some (seqObj "list" #[] e1):=(s1.2 D hDS).trans eD3
   have s2:=Heap.SameBut.update (s'.heap.update S (Obj.mapSeq fun _=>(#[]:Array Value))) D (Obj.mapSeq fun _=>List.toArray (p.toList.map fun i=>its.getD i Value.none))
   obtain ⟨c2,hc2⟩ : ∃c2,((s'.heap.update S (Obj.mapSeq fun _=>(#[]:Array Value))).update D (Obj.mapSeq fun _=>List.toArray (p.toList.map fun i=>its.getD i Value.none))).get? D=some (seqObj "list" (List.toArray (p.toList.map fun i=>its.getD i Value.none)) c2):=⟨_,get?_update_seq eD4 fun _=>List.toArray (p.toList.map fun i=>its.getD i Value.none)⟩
   refine zwb0 (listUpdate_at eS3 rfl ?_ (by rw[List.size_toArray,sizeLine_eq];omega) (Nat.zero_le _))
   refine zwb0 (wpAny_letGo ?_)
   refine zwb0 (seqEpoch_at eD4 rfl ?_)
   refine zwb0 (listUpdate_at eD4 rfl ?_ (Nat.zero_le _) (by
    show (List.toArray (p.toList.map fun i=>its.getD i Value.none)).size≤_
    rw[List.size_toArray,List.length_map,Array.length_toList,hp.size,sizeLine_eq];omega))
   rw[hf]
   simp only[bne_self_eq_false,Bool.false_eq_true,if_false]
   refine zwp0 ⟨_,rfl,zwp0 ⟨_,rfl,?_⟩⟩
   have J1:=J.turn1 (t':=s'.toks) s1 hc1 (fun v z=>(by cases z)) geS (pinDS _)
   have J2:Inv X ((D,seqObj "list" #[] e1)::pins) σ H' { s' with heap:=s'.heap.update S (Obj.mapSeq fun _=>(#[]:Array Value)) }:=J1.pins_of fun p hp=>J1.pin p (List.mem_append_right _ (.tail _ hp))
   have J3:=J2.turn1 (t':=s'.toks) s2 hc2 (fun v z=>(by cases z)) geD pinD
   have hmem:∀i∈p.toList,i<its.length:=fun i hi=>List.mem_range.mp ((List.Perm.mem_iff hp).mp hi)
   have vv:∀is:List Nat,(∀i∈is,i<its.length)→Vals ((is.map fun i=>ns.getD i 0).map V.int) (is.map fun i=>its.getD i Value.none):=fun is his=>by
    induction is with
    |nil=>exact .nil
    |cons i r ih=>
     refine .cons ?_ (ih fun j hj=>his j (.tail _ hj))
     have hi:=his i (.head _)
     obtain ⟨u,eu,ru⟩:=rv.get (i:=i) (x:=.int (ns.getD i 0)) (by
      rw[List.getElem?_map,List.getD_eq_getElem?_getD,List.getElem?_eq_getElem (show i<ns.length by omega)];rfl)
     show RelV (.int (ns.getD i 0)) (its.getD i Value.none)
     rw[List.getD_eq_getElem?_getD (l:=its),eu]
     exact ru
   refine h D (p.toList.map fun i=>ns.getD i 0) (upd H' D (.lst ((p.toList.map fun i=>ns.getD i 0).map V.int))) _ HD ?_ ?_ (sm.trans (yad nD3 _)) yaa (J3.track1 geD pinD ⟨?_,_,c2,vv _ hmem,hc2⟩)
   ·have e1:(List.range its.length).map (fun i=>ns.getD i 0)=ns:=by
     apply List.ext_getElem?
     intro i
     rw[List.getElem?_map]
     by_cases hi:i<its.length
     ·rw[List.getElem?_range hi];simp [show i<ns.length by omega]
     ·rw[List.getElem?_eq_none (by simpa using hi),List.getElem?_eq_none (by omega)];rfl
    have:=hp.map (fun i=>ns.getD i 0)
    rw[e1] at this
    exact this
   ·rw[List.pairwise_map,List.pairwise_iff_getElem]
    intro i j hi hj hij
    have hj':j<its.length:=by rw[Array.length_toList,hp.size] at hj;exact hj
    have:=hu i j (Nat.le_of_lt hij) hj'
    have gi:gA p i=p.toList[i]:=by
     rw[Array.length_toList] at hi
     simp [gA,hi]
    have gj:gA p j=p.toList[j]:=by
     rw[Array.length_toList] at hj
     simp [gA,hj]
    rw[gi,gj] at this
    have kk:∀i,i<ns.length→(ns.map key).getD i []=key (ns.getD i 0):=fun i hi=>by simp [hi]
    have this':yis ((ns.map key).getD p.toList[j] []) ((ns.map key).getD p.toList[i] [])=false:=this
    rw[kk _ (by have:=hmem _ (List.getElem_mem hj);omega),kk _ (by have:=hmem _ (List.getElem_mem hi);omega)] at this'
    exact this'
   ·rw[List.length_map,List.length_map,Array.length_toList,hp.size,sizeLine_eq];omega
  by_cases h2:its.toArray.size<2
  ·rw[if_pos h2,if_pos h2]
   refine zwb0 (zwp0 ?_)
   rw[StateT.run_pure]
   refine zwb0 (zwp0 ?_)
   rw[if_neg Bool.false_ne_true]
   have pr:PermN its.length (List.toArray (List.range its.length)):=by unfold PermN;simp
   refine tail _ (List.toArray (List.range its.length)) pr (yqn (yl3 _) (by rw[List.size_toArray] at h2;exact h2)) ?_ rfl
   exact kat_snds (vs:=its) (ks:=List.map Value.ref bs) (p:=List.toArray (List.range its.length)) hkl (by
    have e:=kas_range ((List.map Value.ref bs).toArray.zip its.toArray)
    rw[show ((List.map Value.ref bs).toArray.zip its.toArray).size=its.length by simp [hkl,hbl]] at e
    exact e.symm)
  ·rw[if_neg h2,if_neg h2]
   rw[List.size_toArray] at h2
   obtain ⟨fs,f1,f2,f3⟩:=tt.kat fun r hr z=>by have:=hwk r hr;rw[z] at this;simp at this;omega
   refine zwb0 (kat_kind (T:=.type "int") f2 (by omega) (fun v hv=>?_) rfl ?_)
   ·obtain ⟨m,k,rfl⟩:=f3 v hv
    exact Looks.of_pure rfl
   rw[show ((Value.type "int" : Value) != Value.type "tuple")=true from rfl,if_neg Bool.false_ne_true]
   refine zwb0 (wpAny_mono (kat_run (A:=A.in1.in1) (vs:=its) (ks:=List.map Value.ref bs) (κ:=tuples' true)
    (G:=fun p s2=>(PermN its.length p∧Up (ysm (ns.map key)) p its.length)∧s2=s')
    (Q:=fun st' s2=>∃p:Array Nat,PermN its.length p∧Up (ysm (ns.map key)) p its.length∧arrOf st'=p.map (kas_item ((List.map Value.ref bs).toArray.zip its.toArray))∧failedOf st'=none∧s2=s')
    hkl (by omega) (by omega) (fun p' st' s2 a1 a2 a3 a4=>⟨p',a4.1.1,a4.1.2,a2,a3,a4.2⟩) ?_) ?_ fun _ _ e=>e)
   ·refine ytr (n:=its.length) (lt:=ysm (ns.map key)) (fun i j C hi hj q=>TupsAt.ask tt hwk i j C (by omega) (by omega) q) (ycy (fun p hp=>⟨hp,rfl⟩) (ytu (yl3 _) (by omega)))
   ·rintro ⟨⟨⟩,st'⟩ s2 ⟨p,hp,hu,har,hf,rfl⟩
    dsimp only
    exact tail st' p hp hu (kat_snds hkl har) hf
end
def yxw (P:Addr)(q:Str)(lpos:Pos)(ix:List (Option Nat))(tb:TE)(σ:St)(Q:VK)(v:V)(H1:Hp):Prop:=∃(l:Addr) (ns:List Int) (key:Int→List Int) (wd:Nat),v = .ref l∧H1 l=some (.lst (ns.map V.int))∧ns.length<64∧H1 P=some (.cod q lpos)∧0<wd∧(∀n∈ns,(key n).length=wd)∧
 (∀n∈ns,∀H2,(∀b o,H1 b=some o→o≠.cod q lpos→o≠.own P→H2 b=some o)→tb (yww ix σ (.int n)) H2 fun y H3=>∃b,y = .ref b∧Same H2 H3∧H3 b=some (.tup ((key n).map V.int)))∧
 ∀(D:Addr) (ms:List Int) H',H1 D=none→ms.Perm ns→ms.Pairwise (fun a b=>yis (key b) (key a)=false)→Same H1 H'→H' D=some (.lst (ms.map V.int))→Q (.ref D) H'
def za5 (te:TE)(P:Addr)(q:Str)(lpos:Pos)(ix:List (Option Nat))(tb:TE):TE:=fun σ H Q=>te σ H fun v H1=>yxw P q lpos ix tb σ Q v H1
theorem ywy {X:Cx}{k:Nat}{e body:Expr}{te tb:TE}{P c:Addr}{q p:Str}{N':List Str}{ix:List (Option Nat)}{params:Arguments}{scope:Scope}{npos lpos kpos pos:Pos} (hr:Room k X.A) (ha:PA X [e] (ybn te yky)) (hg:Gl X "sorted") (hm:X.mg "sorted" = none) (hv:bootBuiltins "sorted" = some (.builtin "sorted"))
 (hex:X.ex=[]) (hcode:X.env.code = .ref c) (C:codeHdIn X.K c P=true) (B:ymz X.mg X.base) (hdef:defaultsOf params X.env=([],[])) (hq:X.env.qual ++ "<lambda>" = q) (S:LamScope X N' ix p scope)
 (hbnd:∀(cl:List (Str×Addr)) (pm:Value) (c':Addr) (ctv u:Value),bindArgs (kla_fn "<lambda>" q params body scope cl pm (.ref c') ctv) ⟨[u],[]⟩=pure [(p,u)])
 (hb:∀(A:Around) (f c':Addr) (s:Shared) (H:Hp),PE (yze X A N' q scope f c' s H) body tb)
 (he:backTo pos (starEach [e] X.env)=(false,eval e X.env)::backTo pos (starEach [] X.env):=by rfl) (hpl:(backTo pos (starEach [e] X.env)).any (·.1)=false:=by rfl) :
 PE X (.Call (.Name "sorted" npos) [e] [⟨some (Str.ofString "key"),.Lambda params body scope lpos,kpos⟩] pos) (za5 te P q lpos ix tb):=by
 intro pins s σ H Q I h
 refine wpAny_Call_Name_kw (yiz I hg hm hv ?_ (by decide) (by decide))
 refine callWith_kw (thn (ha pos pins s σ H (fun vs H1=>match vs with | [v]=>yxw P q lpos ix tb σ Q v H1|_=>False) I h) fun us s1 ⟨vs,H1,I1,r1,q1⟩=>?_) he hpl
 obtain ⟨v,rfl⟩ : ∃v,vs=[v]:=by
  match vs,q1 with
  |[v],_=>exact⟨v,rfl⟩
 obtain ⟨l,ns,key,wd,rfl,hl,h64,hP,hw0,hw,hkey,q⟩:=q1
 obtain ⟨u,rfl,ru⟩:=r1.one
 cases ru
 show wpAny _ _ (evalAll ((do let v ← eval (.Lambda params body scope lpos) X.env;standAt pos;pure v)::[])) _ _ s1
 refine wpAny_evalAll_cons (zwb0 ?_)
 have hcl:closureFor scope X.env=pure (yhp X.env scope.names []):=yha fun y hy hf=>I1.ok.has y.1 (.inl (S.free y hy hf))
 refine ywv I1 hex hP hcode C B hcl hdef hq fun f c' ctv co s2 J hco hne hfn hcn nc hpp=>?_
 refine zwb0 (wpAny_standAt (zwp0 (wpAny_evalAll_nil ?_)))
 have ncc:∀b o,H1 b=some o→o≠.own P→b≠c':=fun b o e n z=>by
  rw[z] at e
  rcases hcn with y|y
  ·rw[y] at e;cases e
  ·rw[y] at e;cases e;exact n rfl
 have npp:∀b o,H1 b=some o→o≠.cod _ lpos→b≠P:=fun b o e n z=>by
  rw[z,hP] at e;cases e;exact n rfl
 have hl2:ydz H1 P c' l=some (.lst (ns.map V.int)):=by rw[ycp (npp _ _ hl (by intro z;cases z)) (ncc _ _ hl (by intro z;cases z))];exact hl
 show wpAny _ _ (call (.builtin "sorted") [.ref l] [(Str.ofString "key",.ref f)]) _ _ s2
 refine ysd J (SqL.of hl2) h64 hw hw0 (fun n hn pins' H2 s3 u hsub J3 sm ru=>?_) fun D ms H3 s3 hD hperm hpw sm hD3 J3=>?_
 ·have pf:=J3.pin (f,kla_obj "<lambda>" _ params body scope (yhp X.env scope.names []) ((X.mg "__name__").getD .none) c' ctv) (List.mem_append_right _ (hsub _ (.head _)))
  have pc:=J3.pin (c',co) (List.mem_append_right _ (hsub _ (.tail _ (.tail _ (.head _)))))
  obtain ⟨vs,t,d1,d2⟩:=hco
  refine ywx J3 hr.hd I1.ok.frames hr.depth S pf.1 ⟨c',co,vs,t,rfl,pc.1,d1,d2⟩ (hbnd _ _ _ _ _) (hb _ f c' s3 H2) ru (hkey n hn H2 fun b o e n1 n2=>sm _ _ ?_)
  rw[ycp (npp _ _ e n1) (ncc _ _ e n2)]
  exact e
 ·have pP:=(J3.pin (P,tabObj #[rawInt lpos.line,rawInt lpos.col,.ref c']) (List.mem_append_right _ (.tail _ (.head _)))).2.1
  have pc:=(J3.pin (c',co) (List.mem_append_right _ (.tail _ (.tail _ (.head _))))).2.1
  dsimp only at pP pc
  have nDP:D≠P:=fun z=>by rw[z,pP] at hD3;cases hD3
  have nDc:D≠c':=fun z=>by rw[z,pc] at hD3;cases hD3
  have J4:=J3.retrack hco hne (I1.notOld hex hP) nc hpp
  refine⟨.ref D,_,J4,rfl,q D ms _ ?_ hperm hpw (fun b o e=>?_) ?_⟩
  ·rw[ycp nDP nDc] at hD;exact hD
  ·by_cases hb:b=c'
   ·subst hb
    rw[yaa]
    rcases hcn with z|z
    ·rw[z] at e;cases e
    ·rw[z] at e;exact e
   ·rw[yal hb]
    by_cases hb2:b=P
    ·subst hb2
     rw[yaa,← hP];exact e
    ·rw[yal hb2]
     exact sm _ _ (by rw[ycp hb2 hb];exact e)
  ·rw[yal nDc,yal nDP];exact hD3
theorem Fun.okC {P:Program}{w:World}{K:PySem.W.Frag}{mg:Str→Option Value}{base:Heap}{x qual:Str}{st:Stmt}{f c:Addr}{fd:FuncData}{N ps:List Str}{k:Nat}{sp:Sp}(F:Fun K x qual st f fd)(hc:fd.code = .ref c)(S:FnScope N ps (yac st))(len:∀vs H Q E,sp vs H Q E→vs.length=ps.length)
 (hbody:∀(A:Around) (outer:List Env) (s:Shared) (H:Hp) (vs:List V) (Q:VK) (E:XK),Room k (A.deeper (envOfC qual (yac st) s.heap.objs.size f (.ref c)))→sp vs H Q E→
  ∃t,PSs (ysk CX0 P w K mg base N qual (yac st) f (.ref c) A outer s H E).nox (yao st) t∧t { nx:=fun _ H'=>Q .non H',rt:=Q } (ykg N vs) H):FnOk P w K mg base CX0 (k+1) f fd ps sp:=by
 obtain ⟨oc,od,kV,doc,pm,an,cdv,ct,osl,rfl,lk,hcd⟩:=F.ex
 obtain rfl:cdv = .ref c:=hc
 refine yx8 lk hcd S len fun A outer s H vs Q E hr hsp=>?_
 obtain ⟨t,h,q⟩:=hbody A outer s H vs Q E hr hsp
 exact⟨t,h.nox,q⟩
def za6 (N N':List Str)(ix:List (Option Nat))(p:Str)(scope D:Scope):Bool:=
 (scope.kind == .function)&&(!scope.isCoroutine)&&(!scope.isGenerator)&&(scope.names.all fun y=>(y.2 != .cell)&&(y.2 != .free || D.names.lookup y.1 == some .cell))&&(N'[0]? == some p)&&(scope.names.lookup p == some .local)&&(ix.length == N'.length)&&decide (0<N'.length) &&
 ((List.range N'.length).all fun k=>match ix[k]?,N'[k]? with
  |some (some j),some x=>N[j]? == some x&&scope.names.contains (x,.free)&&scope.names.lookup x == some .free
  |_,_=>true)
theorem yuv {X:Cx}{N':List Str}{ix:List (Option Nat)}{p:Str}{scope:Scope}{N:List Str}{D:Scope}(h:za6 N N' ix p scope D=true)(hN:X.N=N:=by rfl)(hD:X.env.scope=D:=by rfl):LamScope X N' ix p scope:=by
 unfold za6 at h
 simp only[Bool.and_eq_true,decide_eq_true_eq] at h
 obtain ⟨⟨⟨⟨⟨⟨⟨⟨h1,h2⟩,h3⟩,h4⟩,h5⟩,h6⟩,h7⟩,h8⟩,h9⟩:=h
 have hall:=List.all_eq_true.mp h4
 refine⟨by simpa using h1,by simpa using h2,by simpa using h3,fun y hy z=>?_,by simpa using h5,by simpa using h6,by simpa using h7,h8,fun y hy z=>?_,fun k j x e1 e2=>?_⟩
 ·have:=hall y hy
  rw[z] at this
  simp at this
 ·have:=hall y hy
  rw[z] at this
  have q:D.names.lookup y.1=some .cell:=by simpa using this
  show X.env.scope.names.lookup y.1=some .cell
  rw[hD];exact q
 ·have hk:k<N'.length:=(List.getElem?_eq_some_iff.mp e1).1
  have:=List.all_eq_true.mp h9 k (List.mem_range.mpr hk)
  rw[e1,e2] at this
  simp only[Bool.and_eq_true] at this
  obtain ⟨⟨a,b⟩,c⟩:=this
  refine⟨by rw[hN];simpa using a,by simpa using b,by simpa using c⟩
def za7 (st:Stmt):Pos:=match yao st with
 |[.Return (some (.Call _ _ [⟨_,.Lambda _ _ _ pos,_⟩] _)) _]=>pos
 |_=>⟨0,0,0,0⟩
abbrev Tbs:=List (Addr×Str×Pos)
def Tb (ts:Tbs)(H:Hp):Prop:=∀t∈ts,H t.1=some (.cod t.2.1 t.2.2)
theorem Tb.same {ts:Tbs}{H H':Hp}(h:Tb ts H)(s:Same H H'):Tb ts H':=fun t ht=>s _ _ (h t ht)
theorem Tb.keep {ts:Tbs}{H H':Hp}{a c:Addr}(h:Tb ts H)(d:DrawAt H a c)(k:KeepBut a H H'):Tb ts H':=fun t ht=>by
 refine k _ _ (fun z=>?_) (h t ht)
 obtain ⟨_,_,_,_,_,e,_⟩:=d
 have:=h t ht
 rw[z,e] at this;cases this
def yuw (ts:Tbs)(key:List (List Int)→Int→List Int)(ok:List Int→Prop):Sp:=fun vs H Q _=>∃(a:Addr) (rs:List (List Int)),vs=[.ref a]∧Tb ts H∧Rows H a rs∧rs.length≤60∧(∀r∈rs,ok r)∧
 ∀(l:Addr) (os:List Int) (H':Hp),H l=none→Same H H'→ydt (key rs) rs.length os→H' l=some (.lst (os.map V.int))→Q (.ref l) H'
end L2
namespace L2
def S:List (Int×Int)→Int→Int→Int
 |[],_,_=>0
 |p::r,f,l=>(if f≤p.1∧p.1≤l then p.2 else 0)+S r f l
def yhn (tm e:Int):Int→List (Int×Int)→List (Int×Int)
 |_,[]=>[]
 |c,p::r=>(p.1,p.2-(if 0<min c p.2∧e-tm≤p.1∧p.1≤e then min c p.2 else 0))::yhn tm e (c-(if 0<min c p.2∧e-tm≤p.1∧p.1≤e then min c p.2 else 0)) r
def deal (tm:Int):List (Int×Int)→List (Int×Int)→List (Int×Int)
 |[],L=>L
 |o::O,L=>deal tm O (yhn tm o.1 o.2 L)
def Pos (L:List (Int×Int)):Prop:=∀p∈L,0≤p.2
def Up1 (L:List (Int×Int)):Prop:=L.Pairwise fun p q=>p.1≤q.1
def zbk (L O:List (Int×Int))(tm:Int):Prop:=∀f l,f≤l→S L f l≤S O f (l+tm)
theorem yiy:∀{L:List (Int×Int)},Pos L→∀f l,0≤S L f l
 |[],_,f,l=>Int.le_refl _
 |p::r,h,f,l=>by
  have h1:=h p (.head _)
  have h2:=yiy (L:=r) (fun q hq=>h q (.tail _ hq)) f l
  show 0≤(if f≤p.1∧p.1≤l then p.2 else 0)+S r f l
  split <;> omega
theorem yux:∀{L:List (Int×Int)},Pos L→∀{f l f' l':Int},f'≤f→l≤l'→S L f l≤S L f' l'
 |[],_,f,l,f',l',_,_=>Int.le_refl _
 |p::r,h,f,l,f',l',h1,h2=>by
  have h0:=h p (.head _)
  have h3:=yux (L:=r) (fun q hq=>h q (.tail _ hq)) h1 h2
  show (if f≤p.1∧p.1≤l then p.2 else 0)+S r f l≤(if f'≤p.1∧p.1≤l' then p.2 else 0)+S r f' l'
  split <;> split <;> omega
theorem yok:∀{L:List (Int×Int)}{f l:Int},(∀p∈L,¬ (f≤p.1∧p.1≤l))→S L f l=0
 |[],_,_,_=>rfl
 |p::r,f,l,h=>by
  show (if f≤p.1∧p.1≤l then p.2 else 0)+S r f l=0
  rw[if_neg (h p (.head _)),yok fun q hq=>h q (.tail _ hq)]
  rfl
theorem yj6 {tm e:Int}:∀{c:Int}{L:List (Int×Int)},(yhn tm e c L).map (·.1)=L.map (·.1)
 |_,[]=>rfl
 |c,p::r=>by show p.1::(yhn tm e _ r).map (·.1)=p.1::r.map (·.1);rw[yj6]
theorem yzg {L M:List (Int×Int)}(h:M.map (·.1)=L.map (·.1))(hL:Up1 L):Up1 M:=by
 unfold Up1 at *
 rw[← List.pairwise_map (f:=fun p:Int×Int=>p.1) (R:=(·≤·))] at *
 rw[h];exact hL
theorem ym0 {tm e:Int}:∀{c:Int}{L:List (Int×Int)},Pos L→Pos (yhn tm e c L)
 |_,[],h=>h
 |c,p::r,h=>fun q hq=>by
  have h0:=h p (.head _)
  rcases List.mem_cons.mp hq with z|z
  ·rw[z]
   show 0≤p.2-(if 0<min c p.2∧e-tm≤p.1∧p.1≤e then min c p.2 else 0)
   split <;> omega
  ·exact ym0 (fun q hq=>h q (.tail _ hq)) q z
theorem yuy {tm e:Int}:∀{c:Int}{L:List (Int×Int)},Pos L→∀f l,S (yhn tm e c L) f l≤S L f l
 |_,[],_,_,_=>Int.le_refl _
 |c,p::r,h,f,l=>by
  have h0:=h p (.head _)
  have ih:=yuy (tm:=tm) (e:=e) (c:=c-(if 0<min c p.2∧e-tm≤p.1∧p.1≤e then min c p.2 else 0)) (L:=r) (fun q hq=>h q (.tail _ hq)) f l
  show (if f≤p.1∧p.1≤l then p.2-(if 0<min c p.2∧e-tm≤p.1∧p.1≤e then min c p.2 else 0) else 0)+S (yhn tm e _ r) f l≤(if f≤p.1∧p.1≤l then p.2 else 0)+S r f l
  split
  ·have:0≤(if 0<min c p.2∧e-tm≤p.1∧p.1≤e then min c p.2 else 0):=by split <;> omega
   omega
  ·omega
theorem yol {tm e:Int}:∀{L:List (Int×Int)},yhn tm e 0 L=L
 |[]=>rfl
 |p::r=>by
  show (p.1,p.2-(if 0<min 0 p.2∧e-tm≤p.1∧p.1≤e then min 0 p.2 else 0))::yhn tm e (0-(if 0<min 0 p.2∧e-tm≤p.1∧p.1≤e then min 0 p.2 else 0)) r=p::r
  rw[if_neg (by omega)]
  show (p.1,p.2-0)::yhn tm e (0-0) r=p::r
  rw[Int.sub_zero,Int.sub_zero,yol]
theorem yom {tm e:Int}:∀{c:Int}{L:List (Int×Int)},0≤c→Pos L→∀f l,S L f l≤(if f≤e∧e≤l+tm then c else 0)+S (yhn tm e c L) f l
 |c,[],hc,_,f,l=>by
  show (0:Int)≤_+0
  split <;> omega
 |c,p::r,hc,h,f,l=>by
  have h0:=h p (.head _)
  have y0:0≤(if 0<min c p.2∧e-tm≤p.1∧p.1≤e then min c p.2 else 0)∧(if 0<min c p.2∧e-tm≤p.1∧p.1≤e then min c p.2 else 0)≤c∧((if 0<min c p.2∧e-tm≤p.1∧p.1≤e then min c p.2 else 0)=0∨(e-tm≤p.1∧p.1≤e)):=by split <;> omega
  show (if f≤p.1∧p.1≤l then p.2 else 0)+S r f l≤(if f≤e∧e≤l+tm then c else 0)+((if f≤p.1∧p.1≤l then p.2-(if 0<min c p.2∧e-tm≤p.1∧p.1≤e then min c p.2 else 0) else 0)+S (yhn tm e (c-(if 0<min c p.2∧e-tm≤p.1∧p.1≤e then min c p.2 else 0)) r) f l)
  generalize (if 0<min c p.2∧e-tm≤p.1∧p.1≤e then min c p.2 else 0)=y at *
  have ih:=yom (tm:=tm) (e:=e) (c:=c-y) (L:=r) (by omega) (fun q hq=>h q (.tail _ hq)) f l
  split at ih <;> split <;> omega
theorem yon {tm e:Int}:∀{c:Int}{L:List (Int×Int)},0≤c→Pos L→Up1 L→∀{d x l:Int},(d,x)∈yhn tm e c L→0<x→e-tm≤d→d≤e→d≤l→S L (e-tm) l=c+S (yhn tm e c L) (e-tm) l
 |_,[],_,_,_,d,x,l,hm,_,_,_,_=>by cases hm
 |c,p::r,hc,h,hu,d,x,l,hm,hx,h1,h2,h3=>by
  have h0:=h p (.head _)
  have hr:Pos r:=fun q hq=>h q (.tail _ hq)
  obtain ⟨hu1,hu2⟩:=List.pairwise_cons.mp hu
  show (if e-tm≤p.1∧p.1≤l then p.2 else 0)+S r (e-tm) l=c+((if e-tm≤p.1∧p.1≤l then p.2-(if 0<min c p.2∧e-tm≤p.1∧p.1≤e then min c p.2 else 0) else 0)+S (yhn tm e (c-(if 0<min c p.2∧e-tm≤p.1∧p.1≤e then min c p.2 else 0)) r) (e-tm) l)
  rcases List.mem_cons.mp hm with z|z
  ·have e1:d=p.1:=congrArg Prod.fst z
   have e2:x=p.2-(if 0<min c p.2∧e-tm≤p.1∧p.1≤e then min c p.2 else 0):=congrArg Prod.snd z
   have hy:(if 0<min c p.2∧e-tm≤p.1∧p.1≤e then min c p.2 else 0)=c:=by
    split at e2 <;> split <;> omega
   rw[hy,Int.sub_self,yol,if_pos (by omega),if_pos (by omega)]
   omega
  ·have hd:p.1≤d:=by
    have m:d∈(yhn tm e (c-(if 0<min c p.2∧e-tm≤p.1∧p.1≤e then min c p.2 else 0)) r).map (·.1):=List.mem_map.mpr ⟨_,z,rfl⟩
    rw[yj6] at m
    obtain ⟨q,hq,e'⟩:=List.mem_map.mp m
    have:=hu1 q hq
    omega
   have y0:0≤(if 0<min c p.2∧e-tm≤p.1∧p.1≤e then min c p.2 else 0)∧(if 0<min c p.2∧e-tm≤p.1∧p.1≤e then min c p.2 else 0)≤c∧((if 0<min c p.2∧e-tm≤p.1∧p.1≤e then min c p.2 else 0)=0∨(e-tm≤p.1∧p.1≤e)):=by split <;> omega
   generalize (if 0<min c p.2∧e-tm≤p.1∧p.1≤e then min c p.2 else 0)=y at *
   have ih:=yon (tm:=tm) (e:=e) (c:=c-y) (L:=r) (by omega) hr hu2 z hx h1 h2 h3
   split <;> omega
theorem yse {tm e c:Int}{L O:List (Int×Int)}(ht:0≤tm)(hc:0≤c)(hL:Pos L)(hu:Up1 L)(hO:Pos O)(he:∀o∈O,e≤o.1)(h:zbk L ((e,c)::O) tm):zbk (yhn tm e c L) O tm:=by
 intro f l hfl
 have H:∀f l,f≤l→S L f l≤(if f≤e∧e≤l+tm then c else 0)+S O f (l+tm):=fun f l hfl=>h f l hfl
 have gl:=yuy (tm:=tm) (e:=e) (c:=c) hL
 have gp:=ym0 (tm:=tm) (e:=e) (c:=c) hL
 by_cases c0:f≤e∧e≤l+tm
 ·have low:S L f (e-tm-1)≤0:=by
   by_cases z:f≤e-tm-1
   ·have:=H f (e-tm-1) z
    rw[if_neg (by omega),yok (L:=O) (fun o ho y=>by have:=he o ho;omega)] at this
    omega
   ·rw[yok fun p _ y=>by omega]
    exact Int.le_refl _
  by_cases c1:∃d x,(d,x)∈yhn tm e c L∧0<x∧e-tm≤d∧d≤e∧f≤d∧d≤l
  ·obtain ⟨d,x,hm,hx,h1,h2,h3,h4⟩:=c1
   have full:=yon hc hL hu hm hx h1 h2 h4
   have h5:=H (e-tm) l (by omega)
   rw[if_pos (by omega)] at h5
   have h6:S O (e-tm) (l+tm)≤S O f (l+tm):=by
    have:∀(O:List (Int×Int)),Pos O→(∀o∈O,e≤o.1)→S O (e-tm) (l+tm)≤S O f (l+tm):=by
     intro O
     induction O with
     |nil=>intro _ _;exact Int.le_refl _
     |cons o r ih=>
      intro hp hd
      have i1:=ih (fun q hq=>hp q (.tail _ hq)) (fun q hq=>hd q (.tail _ hq))
      have i2:=hd o (.head _)
      have i3:=hp o (.head _)
      show (if e-tm≤o.1∧o.1≤l+tm then o.2 else 0)+S r (e-tm) (l+tm)≤(if f≤o.1∧o.1≤l+tm then o.2 else 0)+S r f (l+tm)
      split <;> split <;> omega
    exact this O hO he
   have h7:S (yhn tm e c L) f l≤S (yhn tm e c L) f (e-tm-1)+S (yhn tm e c L) (e-tm) l:=by
    have:∀(M:List (Int×Int)),Pos M→S M f l≤S M f (e-tm-1)+S M (e-tm) l:=by
     intro M
     induction M with
     |nil=>intro _;exact Int.le_refl _
     |cons p r ih=>
      intro hp
      have i1:=ih (fun q hq=>hp q (.tail _ hq))
      have i2:=hp p (.head _)
      show (if f≤p.1∧p.1≤l then p.2 else 0)+S r f l≤((if f≤p.1∧p.1≤e-tm-1 then p.2 else 0)+S r f (e-tm-1))+((if e-tm≤p.1∧p.1≤l then p.2 else 0)+S r (e-tm) l)
      split <;> split <;> split <;> omega
    exact this _ gp
   have h8:=gl f (e-tm-1)
   omega
  ·have h9:S (yhn tm e c L) f l≤S (yhn tm e c L) f (e-tm-1)+S (yhn tm e c L) (e+1) l:=by
    have:∀(M:List (Int×Int)),Pos M→(∀d x,(d,x)∈M→¬ (0<x∧e-tm≤d∧d≤e∧f≤d∧d≤l))→S M f l≤S M f (e-tm-1)+S M (e+1) l:=by
     intro M
     induction M with
     |nil=>intro _ _;exact Int.le_refl _
     |cons p r ih=>
      intro hp hn
      have i1:=ih (fun q hq=>hp q (.tail _ hq)) (fun d x hm=>hn d x (.tail _ hm))
      have i2:=hp p (.head _)
      have i3:=hn p.1 p.2 (.head _)
      show (if f≤p.1∧p.1≤l then p.2 else 0)+S r f l≤((if f≤p.1∧p.1≤e-tm-1 then p.2 else 0)+S r f (e-tm-1))+((if e+1≤p.1∧p.1≤l then p.2 else 0)+S r (e+1) l)
      split <;> split <;> split <;> omega
    exact this _ gp fun d x hm z=>c1 ⟨d,x,hm,z⟩
   have h10:=gl f (e-tm-1)
   have h11:=gl (e+1) l
   have h12:S L (e+1) l≤S O f (l+tm):=by
    by_cases z:e+1≤l
    ·have:=H (e+1) l z
     rw[if_neg (by omega)] at this
     have:=yux hO (f:=e+1) (l:=l+tm) (f':=f) (l':=l+tm) (by omega) (Int.le_refl _)
     omega
    ·rw[yok fun p _ y=>by omega]
     exact yiy hO _ _
   omega
 ·have:=H f l hfl
  rw[if_neg c0] at this
  have:=gl f l
  omega
theorem yq3 {tm:Int}(ht:0≤tm):∀{O L:List (Int×Int)},Pos O→Up1 O→Pos L→Up1 L→((∀p∈deal tm O L,p.2=0)↔zbk L O tm)
 |[],L,_,_,hL,_=>by
  constructor
  ·intro h f l _
   have:∀(M:List (Int×Int)),(∀p∈M,p.2=0)→S M f l=0:=by
    intro M
    induction M with
    |nil=>intro _;rfl
    |cons p r ih=>
     intro hm
     have i1:=ih fun q hq=>hm q (.tail _ hq)
     have i2:=hm p (.head _)
     show (if f≤p.1∧p.1≤l then p.2 else 0)+S r f l=0
     split <;> omega
   rw[this L h]
   exact Int.le_refl _
  ·intro h p hp
   have h1:=h p.1 p.1 (Int.le_refl _)
   have h2:p.2≤S L p.1 p.1:=by
    have:∀(M:List (Int×Int)),Pos M→p∈M→p.2≤S M p.1 p.1:=by
     intro M
     induction M with
     |nil=>intro _ hm;cases hm
     |cons q r ih=>
      intro hp' hm
      show p.2≤(if p.1≤q.1∧q.1≤p.1 then q.2 else 0)+S r p.1 p.1
      have i0:=hp' q (.head _)
      have i1:=yiy (L:=r) (fun q hq=>hp' q (.tail _ hq)) p.1 p.1
      rcases List.mem_cons.mp hm with z|z
      ·rw[← z,if_pos ⟨Int.le_refl _,Int.le_refl _⟩]
       omega
      ·have:=ih (fun q hq=>hp' q (.tail _ hq)) z
       split <;> omega
    exact this L hL hp
   have h3:=hL p hp
   have h4:S ([]:List (Int×Int)) p.1 (p.1+tm)=0:=rfl
   show p.2=0
   omega
 |o::O,L,hO,hu,hL,huL=>by
  obtain ⟨e,c⟩:=o
  have hO':Pos O:=fun q hq=>hO q (.tail _ hq)
  obtain ⟨hu1,hu2⟩:=List.pairwise_cons.mp hu
  have hc:0≤c:=hO (e,c) (.head _)
  have ih:=yq3 ht (O:=O) (L:=yhn tm e c L) hO' hu2 (ym0 hL) (yzg yj6 huL)
  show (∀p∈deal tm O (yhn tm e c L),p.2=0)↔_
  rw[ih]
  constructor
  ·intro h f l hfl
   have h1:=yom (tm:=tm) (e:=e) hc hL f l
   have h2:=h f l hfl
   show S L f l≤(if f≤e∧e≤l+tm then c else 0)+S O f (l+tm)
   omega
  ·exact yse ht hc hL huL hO' hu1
end L2
namespace L2
open PySem PySem.Spec PySem.W PyProof.Rows
end L2
namespace L2
abbrev zcu:=Int×Int×Int×Int
def SX (f l:Int):List zcu→Int
 |[]=>0
 |(d,c,x,y)::Z=>(if f≤d∧d≤l then x else 0)+SX f l Z
def one (d x:Int)(Ts:List (Int×Int)):Int:=(Ts.map fun T=>if T.1≤d∧d≤T.2 then x else 0).sum
def CX (Ts:List (Int×Int))(Z:List zcu):Int:=(Ts.map fun T=>SX T.1 T.2 Z).sum
end L2
namespace L2
theorem ywz {a b:List Int}(h:a.Perm b):a.sum=b.sum:=by
 induction h with
 |nil=>rfl
 |cons x _ ih=>rw[List.sum_cons,List.sum_cons,ih]
 |swap x y l=>rw[List.sum_cons,List.sum_cons,List.sum_cons,List.sum_cons];omega
 |trans _ _ a b=>exact a.trans b
theorem ysf (n:Nat):(ydl n).Nodup:=by
 unfold ydl
 exact List.Pairwise.map _ (fun a b h e=>h (by omega)) List.nodup_range
theorem yh8 (r:List Int)(os:List (List Int))(tm f l:Int):ybc (r::os) tm f l=(if f≤r.getD 0 0∧r.getD 0 0≤l+tm then r.getD 1 0 else 0)+ybc os tm f l:=by
 unfold ybc
 rw[List.filter_cons]
 by_cases c:f≤r.getD 0 0∧r.getD 0 0≤l+tm
 ·rw[if_pos (show ykj tm f l r=true from decide_eq_true c),if_pos c,List.map_cons,List.sum_cons]
 ·rw[if_neg (fun z:ykj tm f l r=true=>c (of_decide_eq_true z)),if_neg c];omega
end L2
namespace L2
def ycw (rs:List (List Int))(ts:List Int)(is:List Int):List (Int×Int):=is.map fun i=>(yav rs 0 i,ts.getD i.toNat 0)
def yfk (os:List (List Int))(js:List Int):List (Int×Int):=js.map fun j=>(yav os 0 j,yav os 1 j)
theorem yzh (g:Int→Int×Int)(f l:Int):∀is:List Int,S (is.map g) f l=(is.map fun i=>if f≤(g i).1∧(g i).1≤l then (g i).2 else 0).sum
 |[]=>rfl
 |i::is=>by
  rw[List.map_cons,List.map_cons,List.sum_cons,← yzh g f l is]
  rfl
theorem yxx (g:Int→Int×Int)(f l:Int){is js:List Int}(h:is.Perm js):S (is.map g) f l=S (js.map g) f l:=by
 rw[yzh,yzh]
 exact ywz (h.map _)
theorem yq4 (f l:Int):∀(a b:List (Int×Int)),S (a++b) f l=S a f l+S b f l
 |[],b=>by show S b f l=0+S b f l;omega
 |p::a,b=>by
  show (if f≤p.1∧p.1≤l then p.2 else 0)+S (a++b) f l=(if f≤p.1∧p.1≤l then p.2 else 0)+S a f l+S b f l
  rw[yq4 f l a b];omega
theorem yuz (rs:List (List Int))(ts:List Int)(f l:Int):∀n,S (ycw rs ts (ydl n)) f l=ymw rs ts f l n
 |0=>rfl
 |n+1=>by
  unfold ycw
  rw[yhu,List.map_append,yq4]
  have ih:=yuz rs ts f l n
  unfold ycw at ih
  rw[ih]
  show _+((if f≤yav rs 0 (n:Int)∧yav rs 0 (n:Int)≤l then ts.getD (n:Int).toNat 0 else 0)+0)=_+(if f≤yav rs 0 (n:Int)∧yav rs 0 (n:Int)≤l then ts.getD n 0 else 0)
  rw[Int.toNat_natCast]
  omega
theorem yxy (f l:Int):∀os:List (List Int),S (os.map fun r=>(r.getD 0 0,r.getD 1 0)) f l=ybc os 0 f l
 |[]=>rfl
 |r::os=>by
  rw[yh8,← yxy f l os,Int.add_zero]
  rfl
theorem yw0 (os:List (List Int))(tm f l:Int):ybc os tm f l=ybc os 0 f (l+tm):=by
 induction os with
 |nil=>rfl
 |cons r os ih=>rw[yh8,yh8,ih,Int.add_zero]
theorem yu0 (os:List (List Int)):yfk os (ydl os.length)=os.map fun r=>(r.getD 0 0,r.getD 1 0):=by
 unfold yfk ydl
 rw[List.map_map]
 refine List.ext_getElem? fun i=>?_
 rw[List.getElem?_map,List.getElem?_map]
 by_cases h:i<os.length
 ·rw[List.getElem?_range h,List.getElem?_eq_getElem h]
  show some (yav os 0 (i:Int),yav os 1 (i:Int))=_
  unfold yav
  rw[yfd (List.getElem?_eq_getElem h)]
  rfl
 ·rw[List.getElem?_eq_none (by rw[List.length_range];omega),List.getElem?_eq_none (by omega)];rfl
theorem yzi {os:List (List Int)}{js:List Int}(h:js.Perm (ydl os.length))(tm f l:Int):S (yfk os js) f (l+tm)=ybc os tm f l:=by
 unfold yfk
 rw[yxx _ _ _ h]
 have:=yu0 os
 unfold yfk at this
 rw[this,yxy,← yw0]
theorem yq5:∀(xs:List Int),xs≠[]→(∃m∈xs,∀x∈xs,m≤x)∧∃m∈xs,∀x∈xs,x≤m
 |[],h=>absurd rfl h
 |[x],_=>⟨⟨x,.head _,fun y hy=>by rw[List.mem_singleton.mp hy];exact Int.le_refl _⟩,⟨x,.head _,fun y hy=>by rw[List.mem_singleton.mp hy];exact Int.le_refl _⟩⟩
 |x::y::r,_=>by
  obtain ⟨⟨a,ha,h1⟩,⟨b,hb,h2⟩⟩:=yq5 (y::r) (fun z=>by cases z)
  refine⟨?_,?_⟩
  ·by_cases c:x≤a
   ·exact⟨x,.head _,fun z hz=>by
     rcases List.mem_cons.mp hz with e|e
     ·omega
     ·have:=h1 z e;omega⟩
   ·exact⟨a,.tail _ ha,fun z hz=>by
     rcases List.mem_cons.mp hz with e|e
     ·omega
     ·exact h1 z e⟩
  ·by_cases c:b≤x
   ·exact⟨x,.head _,fun z hz=>by
     rcases List.mem_cons.mp hz with e|e
     ·omega
     ·have:=h2 z e;omega⟩
   ·exact⟨b,.tail _ hb,fun z hz=>by
     rcases List.mem_cons.mp hz with e|e
     ·omega
     ·exact h2 z e⟩
theorem zdh {L:List (Int×Int)}{f l f' l':Int}:(∀p∈L,f≤p.1→p.1≤l→f'≤p.1∧p.1≤l')→f≤f'→l'≤l→S L f l=S L f' l':=by
 intro h h1 h2
 induction L with
 |nil=>rfl
 |cons p L ih=>
  have e:=ih fun q hq=>h q (.tail _ hq)
  have hp:=h p (.head _)
  show (if f≤p.1∧p.1≤l then p.2 else 0)+S L f l=(if f'≤p.1∧p.1≤l' then p.2 else 0)+S L f' l'
  rw[e]
  by_cases c:f≤p.1∧p.1≤l
  ·rw[if_pos c,if_pos (hp c.1 c.2)]
  ·rw[if_neg c,if_neg (by omega)]
theorem ysg {rs os:List (List Int)}{tm:Int}{ts ds is js:List Int}(hds:ydo rs ds)(hi:is.Perm (ydl rs.length))(hj:js.Perm (ydl os.length))(ho:∀r∈os,0≤r.getD 1 0):(∀p∈ybr ds,0≤ygu rs os tm ts p.1 p.2)↔zbk (ycw rs ts is) (yfk os js) tm:=by
 have key:∀f l,ygu rs os tm ts f l=S (yfk os js) f (l+tm)-S (ycw rs ts is) f l:=fun f l=>by
  unfold ygu
  rw[yj0,yzi hj,← yuz]
  unfold ycw
  rw[yxx _ _ _ hi]
 have posO:Pos (yfk os js):=fun p hp=>by
  obtain ⟨j,_,rfl⟩:=List.mem_map.mp hp
  exact yxu ho j
 constructor
 ·intro h f l hfl
  by_cases c:(ds.filter fun d=>decide (f≤d∧d≤l))=[]
  ·have:S (ycw rs ts is) f l=0:=yok fun p hp z=>by
    obtain ⟨i,hi',rfl⟩:=List.mem_map.mp hp
    obtain ⟨i0,i1⟩:=uptoN_mem.mp (hi.mem_iff.mp hi')
    have hl:i.toNat<rs.length:=by omega
    have hd:yav rs 0 i∈ds:=(hds.2.1 _).mpr ⟨rs[i.toNat],List.getElem_mem hl,by unfold yav;rw[List.getD_eq_getElem?_getD (l:=rs),List.getElem?_eq_getElem hl];rfl⟩
    have:yav rs 0 i∈ds.filter fun d=>decide (f≤d∧d≤l):=List.mem_filter.mpr ⟨hd,decide_eq_true z⟩
    rw[c] at this
    cases this
   rw[this]
   exact yiy posO _ _
  ·obtain ⟨⟨a,ha,h1⟩,⟨b,hb,h2⟩⟩:=yq5 _ c
   obtain ⟨a1,a2⟩:=List.mem_filter.mp ha
   obtain ⟨b1,b2⟩:=List.mem_filter.mp hb
   have a3:=of_decide_eq_true a2
   have b3:=of_decide_eq_true b2
   have ab:=h1 b hb
   have e:S (ycw rs ts is) f l=S (ycw rs ts is) a b:=zdh (fun p hp z1 z2=>by
    obtain ⟨i,hi',rfl⟩:=List.mem_map.mp hp
    obtain ⟨i0,i1⟩:=uptoN_mem.mp (hi.mem_iff.mp hi')
    have hl:i.toNat<rs.length:=by omega
    have hd:yav rs 0 i∈ds:=(hds.2.1 _).mpr ⟨rs[i.toNat],List.getElem_mem hl,by unfold yav;rw[List.getD_eq_getElem?_getD (l:=rs),List.getElem?_eq_getElem hl];rfl⟩
    have hm:yav rs 0 i∈ds.filter fun d=>decide (f≤d∧d≤l):=List.mem_filter.mpr ⟨hd,decide_eq_true ⟨z1,z2⟩⟩
    exact⟨h1 _ hm,h2 _ hm⟩) a3.1 b3.2
   have k:=key a b
   have h0:=h (a,b) (mem_str.mpr ⟨a1,b1,ab⟩)
   dsimp only at h0
   have mo:S (yfk os js) a (b+tm)≤S (yfk os js) f (l+tm):=yux posO a3.1 (by omega)
   omega
 ·intro h p hp
  have:=(mem_str.mp (show (p.1,p.2)∈ybr ds from hp)).2.2
  have:=h p.1 p.2 this
  have:=key p.1 p.2
  omega
end L2
namespace L2
def ycx (rs:List (List Int))(tm e j:Int)(st:Int×List Int×List (List Int))(i:Int):Int×List Int×List (List Int):=
 if 0<min st.1 (st.2.1.getD i.toNat 0)∧e-tm≤yav rs 0 i∧yav rs 0 i≤e then (st.1-min st.1 (st.2.1.getD i.toNat 0),st.2.1.set i.toNat (st.2.1.getD i.toNat 0-min st.1 (st.2.1.getD i.toNat 0)),st.2.2++[[i,j,min st.1 (st.2.1.getD i.toNat 0)]]) else st
def yox (rs os:List (List Int))(tm:Int)(ages:List Int)(st:List Int×List (List Int))(j:Int):List Int×List (List Int):=
 (ages.foldl (ycx rs tm (yav os 0 j) j) (yav os 1 j,st.1,st.2)).2
def yj7 (rs os:List (List Int))(tm:Int)(ages outs ts:List Int):List Int×List (List Int):=outs.foldl (yox rs os tm ages) (ts,[])
theorem ylf {rs:List (List Int)}{tm e j:Int}{k:Nat}:∀(is:List Int) (st:Int×List Int×List (List Int)),(∀i∈is,i.toNat≠k)→(is.foldl (ycx rs tm e j) st).2.1[k]? = st.2.1[k]?
 |[],st,_=>rfl
 |i::is,st,h=>by
  rw[List.foldl_cons,ylf is _ fun m hm=>h m (.tail _ hm)]
  unfold ycx
  split
  ·exact List.getElem?_set_ne (h i (.head _))
  ·rfl
theorem yhh {rs:List (List Int)}{tm e j:Int}:∀(is:List Int) (st:Int×List Int×List (List Int)),(is.foldl (ycx rs tm e j) st).2.1.length=st.2.1.length
 |[],st=>rfl
 |i::is,st=>by
  rw[List.foldl_cons,yhh is]
  unfold ycx
  split
  ·exact List.length_set
  ·rfl
theorem yoo {rs:List (List Int)}{a b:List Int}{is:List Int}(h:∀i∈is,a[i.toNat]? = b[i.toNat]?):ycw rs a is=ycw rs b is:=by
 unfold ycw
 refine List.map_congr_left fun i hi=>?_
 rw[List.getD_eq_getElem?_getD,List.getD_eq_getElem?_getD,h i hi]
theorem yj8 {rs:List (List Int)}{tm e j:Int}:∀(is:List Int) (c:Int) (left:List Int) (told:List (List Int)),is.Nodup→(∀i∈is,0≤i∧i.toNat<left.length)→ycw rs (is.foldl (ycx rs tm e j) (c,left,told)).2.1 is=yhn tm e c (ycw rs left is)
 |[],c,left,told,_,_=>rfl
 |i::is,c,left,told,nd,hi=>by
  obtain ⟨n1,n2⟩:=List.nodup_cons.mp nd
  obtain ⟨i0,i1⟩:=hi i (.head _)
  have ne:∀k∈is,k.toNat≠i.toNat:=fun k hk z=>n1 (by
   have:=(hi k (.tail _ hk)).1
   rw[show i=k by omega];exact hk)
  rw[List.foldl_cons]
  show (yav rs 0 i,(is.foldl (ycx rs tm e j) (ycx rs tm e j (c,left,told) i)).2.1.getD i.toNat 0)::ycw rs (is.foldl (ycx rs tm e j) (ycx rs tm e j (c,left,told) i)).2.1 is=(yav rs 0 i,left.getD i.toNat 0-(if 0<min c (left.getD i.toNat 0)∧e-tm≤yav rs 0 i∧yav rs 0 i≤e then min c (left.getD i.toNat 0) else 0))::yhn tm e (c-(if 0<min c (left.getD i.toNat 0)∧e-tm≤yav rs 0 i∧yav rs 0 i≤e then min c (left.getD i.toNat 0) else 0)) (ycw rs left is)
  rw[List.getD_eq_getElem?_getD,ylf is _ ne]
  by_cases z:0<min c (left.getD i.toNat 0)∧e-tm≤yav rs 0 i∧yav rs 0 i≤e
  ·have st:ycx rs tm e j (c,left,told) i=(c-min c (left.getD i.toNat 0),left.set i.toNat (left.getD i.toNat 0-min c (left.getD i.toNat 0)),told++[[i,j,min c (left.getD i.toNat 0)]]):=by
    unfold ycx
    exact if_pos z
   rw[st,if_pos z,yj8 is _ _ _ n2 fun k hk=>⟨(hi k (.tail _ hk)).1,by rw[List.length_set];exact(hi k (.tail _ hk)).2⟩]
   congr 1
   ·dsimp only
    rw[List.getElem?_set_self i1];rfl
   ·congr 1
    exact yoo fun k hk=>List.getElem?_set_ne (ne k hk).symm
  ·have st:ycx rs tm e j (c,left,told) i=(c,left,told):=by
    unfold ycx
    exact if_neg z
   rw[st,if_neg z,yj8 is _ _ _ n2 fun k hk=>hi k (.tail _ hk)]
   congr 1
   ·dsimp only
    rw[← List.getD_eq_getElem?_getD,Int.sub_zero]
   ·rw[Int.sub_zero]
theorem yop {rs os:List (List Int)}{tm:Int}{ages:List Int}(nd:ages.Nodup):∀(outs:List Int) (st:List Int×List (List Int)),(∀i∈ages,0≤i∧i.toNat<st.1.length)→ycw rs (outs.foldl (yox rs os tm ages) st).1 ages=deal tm (yfk os outs) (ycw rs st.1 ages)
 |[],st,_=>rfl
 |j::outs,st,h=>by
  rw[List.foldl_cons,yop nd outs _ fun i hi=>⟨(h i hi).1,by
   show i.toNat<(ages.foldl (ycx rs tm (yav os 0 j) j) (yav os 1 j,st.1,st.2)).2.1.length
   rw[yhh];exact(h i hi).2⟩]
  show deal tm (yfk os outs) (ycw rs (ages.foldl (ycx rs tm (yav os 0 j) j) (yav os 1 j,st.1,st.2)).2.1 ages)=_
  rw[yj8 ages _ _ _ nd h]
  rfl
theorem yoq {rs:List (List Int)}{n:Nat}{is:List Int}(h:ydt (yki rs) n is):is.Pairwise fun i j=>yav rs 0 i≤yav rs 0 j:=by
 refine h.2.imp fun {i j} z=>?_
 have z':(if yav rs 0 j=yav rs 0 i then (if j=i then false else decide (j<i)) else decide (yav rs 0 j<yav rs 0 i))=false:=z
 by_cases c:yav rs 0 j=yav rs 0 i
 ·omega
 ·rw[if_neg c] at z'
  have:=of_decide_eq_false z'
  omega
theorem yw1 {rs os:List (List Int)}{tm:Int}{ts ds ages outs:List Int}(ht:0≤tm)(hds:ydo rs ds)(ha:ydt (yki rs) rs.length ages)(hb:ydt (yki os) os.length outs)(ho:∀r∈os,0≤r.getD 1 0)(hl:ts.length=rs.length)(hts:∀u∈ts,0≤u) :
 (∀i∈ages,(yj7 rs os tm ages outs ts).1.getD i.toNat 0=0)↔∀p∈ybr ds,0≤ygu rs os tm ts p.1 p.2:=by
 have nd:ages.Nodup:=(ha.1.nodup_iff).mpr (ysf _)
 have rng:∀i∈ages,0≤i∧i.toNat<ts.length:=fun i hi=>by
  have:=uptoN_mem.mp (ha.1.mem_iff.mp hi)
  exact⟨this.1,by omega⟩
 rw[ysg hds ha.1 hb.1 ho,← yq3 ht (O:=yfk os outs) (L:=ycw rs ts ages) (fun p hp=>by
  obtain ⟨j,_,rfl⟩:=List.mem_map.mp hp
  exact yxu ho j) (List.pairwise_map.mpr (yoq hb)) (fun p hp=>by
  obtain ⟨i,hi,rfl⟩:=List.mem_map.mp hp
  have:=(rng i hi).2
  show 0≤ts.getD i.toNat 0
  rw[List.getD_eq_getElem?_getD,List.getElem?_eq_getElem this]
  exact hts _ (List.getElem_mem this)) (List.pairwise_map.mpr (yoq ha)),← yop nd outs (ts,[]) rng]
 show _↔∀p∈ycw rs (yj7 rs os tm ages outs ts).1 ages,p.2=0
 constructor
 ·intro h p hp
  obtain ⟨i,hi,rfl⟩:=List.mem_map.mp hp
  exact h i hi
 ·intro h i hi
  exact h _ (List.mem_map.mpr ⟨i,hi,rfl⟩)
end L2
namespace L2
end L2
namespace L2
end L2
namespace L2
open PySem PySem.Spec PySem.W PyProof.Rows
def insD (x:Int):List Int→List Int
 |[]=>[x]
 |d::ds=>if x<d then x::d::ds else if x=d then d::ds else d::insD x ds
theorem mem_insD {x z:Int}:∀{ds:List Int},z∈insD x ds↔z=x∨z∈ds
 |[]=>by simp [insD]
 |d::ds=>by
  unfold insD
  split
  ·simp
  ·split
   ·rename_i e;subst e;simp
   ·rw[List.mem_cons,mem_insD,List.mem_cons]
    constructor
    ·rintro (h|h|h) <;> simp [h]
    ·rintro (h|h|h) <;> simp [h]
theorem yu1 {x:Int}:∀{ds:List Int},ds.Pairwise (· < ·)→(insD x ds).Pairwise (· < ·)
 |[],_=>by simp [insD]
 |d::ds,h=>by
  obtain ⟨h1,h2⟩:=List.pairwise_cons.mp h
  unfold insD
  split
  ·rename_i c
   refine List.pairwise_cons.mpr ⟨fun z hz=>?_,h⟩
   rcases List.mem_cons.mp hz with e|e
   ·omega
   ·have:=h1 z e;omega
  ·rename_i c
   split
   ·exact h
   ·rename_i e
    refine List.pairwise_cons.mpr ⟨fun z hz=>?_,yu1 h2⟩
    rcases mem_insD.mp hz with y|y
    ·omega
    ·exact h1 z y
theorem yq6 {x:Int}:∀{ds:List Int},(insD x ds).length≤ds.length+1
 |[]=>Nat.le_refl _
 |d::ds=>by
  unfold insD
  split
  ·simp
  ·split
   ·simp
   ·have:=yq6 (x:=x) (ds:=ds)
    simp;omega
theorem ylg:∀rs:List (List Int),∃ds,ydo rs ds
 |[]=>⟨[],.nil,fun d=>⟨fun h=>(by cases h),fun ⟨r,h,_⟩=>(by cases h)⟩,Nat.le_refl _⟩
 |r::rs=>by
  obtain ⟨ds,h1,h2,h3⟩:=ylg rs
  refine⟨insD (r.getD 0 0) ds,yu1 h1,fun d=>?_,Nat.le_trans yq6 (by rw[List.length_cons];omega)⟩
  rw[mem_insD,h2 d]
  constructor
  ·rintro (e|⟨q,hq,e⟩)
   ·exact⟨r,.head _,e.symm⟩
   ·exact⟨q,.tail _ hq,e⟩
  ·rintro ⟨q,hq,e⟩
   rcases List.mem_cons.mp hq with z|z
   ·subst z;exact .inl e.symm
   ·exact .inr ⟨q,z,e⟩
def NoLack (rs os:List (List Int))(tm:Int)(ts:List Int):Prop:=∀ds,ydo rs ds→∀p∈ybr ds,0≤ygu rs os tm ts p.1 p.2
theorem yu2 {rs:List (List Int)}{ds ds':List Int}(h:ydo rs ds)(h':ydo rs ds'):ds'=ds:=yuo h' h fun _=>Iff.rfl
theorem NoLack.of {rs os:List (List Int)}{tm:Int}{ts ds:List Int}(hds:ydo rs ds)(h:∀p∈ybr ds,0≤ygu rs os tm ts p.1 p.2):NoLack rs os tm ts:=fun ds' h'=>by rw[yu2 hds h'];exact h
theorem yq7 {rs:List (List Int)}{tm e j:Int}:∀(is:List Int) (st:Int×List Int×List (List Int)),(∀x∈st.2.1,0≤x)→∀x∈(is.foldl (ycx rs tm e j) st).2.1,0≤x
 |[],st,h=>h
 |i::is,st,h=>by
  rw[List.foldl_cons]
  refine yq7 is _ fun x hx=>?_
  unfold ycx at hx
  split at hx
  ·rcases List.mem_or_eq_of_mem_set hx with z|z
   ·exact h x z
   ·rw[z];omega
  ·exact h x hx
theorem yq8 {rs os:List (List Int)}{tm:Int}{ages:List Int}:∀(outs:List Int) (st:List Int×List (List Int)),(∀x∈st.1,0≤x)→∀x∈(outs.foldl (yox rs os tm ages) st).1,0≤x
 |[],st,h=>h
 |j::outs,st,h=>by
  rw[List.foldl_cons]
  exact yq8 outs _ (yq7 ages _ h)
theorem yj9 {rs os:List (List Int)}{tm:Int}{ages:List Int}:∀(outs:List Int) (st:List Int×List (List Int)),(outs.foldl (yox rs os tm ages) st).1.length=st.1.length
 |[],st=>rfl
 |j::outs,st=>by
  rw[List.foldl_cons,yj9 outs]
  exact yhh ages _
theorem yh9 {rs:List (List Int)}{tm e j:Int}:∀(is:List Int) (st:Int×List Int×List (List Int)),(is.foldl (ycx rs tm e j) st).2.2.length≤st.2.2.length+is.length
 |[],st=>Nat.le_refl _
 |i::is,st=>by
  have a:=yh9 (rs:=rs) (tm:=tm) (e:=e) (j:=j) is (ycx rs tm e j st i)
  have b:(ycx rs tm e j st i).2.2.length≤st.2.2.length+1:=by
   unfold ycx
   split
   ·rw[List.length_append,List.length_singleton];exact Nat.le_refl _
   ·exact Nat.le_succ _
  rw[List.foldl_cons,List.length_cons]
  omega
theorem ylh {rs os:List (List Int)}{tm:Int}{ages:List Int}:∀(outs:List Int) (st:List Int×List (List Int)),(outs.foldl (yox rs os tm ages) st).2.length≤st.2.length+outs.length*ages.length
 |[],st=>by rw[List.length_nil,Nat.zero_mul];exact Nat.le_refl _
 |j::outs,st=>by
  have a:=ylh (rs:=rs) (os:=os) (tm:=tm) (ages:=ages) outs (yox rs os tm ages st j)
  have b:(yox rs os tm ages st j).2.length≤st.2.length+ages.length:=yh9 (rs:=rs) (tm:=tm) (e:=yav os 0 j) (j:=j) ages (yav os 1 j,st.1,st.2)
  rw[List.foldl_cons,List.length_cons,Nat.succ_mul]
  omega
theorem yu3:∀{xs:List Int},(∀x∈xs,0≤x)→0≤xs.sum∧(xs.sum=0↔∀x∈xs,x=0)
 |[],_=>⟨Int.le_refl _,by simp⟩
 |x::xs,h=>by
  obtain ⟨a,b⟩:=yu3 fun y hy=>h y (.tail _ hy)
  have h0:=h x (.head _)
  rw[List.sum_cons]
  refine⟨by omega,fun z=>?_,fun z=>?_⟩
  ·have e:xs.sum=0:=by omega
   exact zfm0 ⟨by omega,b.mp e⟩
  ·obtain ⟨z1,z2⟩:=List.forall_mem_cons.mp z
   rw[z1,b.mpr z2];rfl
theorem yw2 {rs os:List (List Int)}{tm:Int}{ts ages outs:List Int}(ht:0≤tm)(ha:ydt (yki rs) rs.length ages)(hb:ydt (yki os) os.length outs)(ho:∀r∈os,0≤r.getD 1 0)(hl:ts.length=rs.length)(hts:∀u∈ts,0≤u) :
 0≤(yj7 rs os tm ages outs ts).1.sum∧((yj7 rs os tm ages outs ts).1.sum=0↔NoLack rs os tm ts):=by
 obtain ⟨ds,hds⟩:=ylg rs
 have nn:=yq8 (rs:=rs) (os:=os) (tm:=tm) (ages:=ages) outs (ts,[]) hts
 have ln:=yj9 (rs:=rs) (os:=os) (tm:=tm) (ages:=ages) outs (ts,[])
 obtain ⟨s0,s1⟩:=yu3 nn
 refine⟨s0,?_⟩
 have e1:NoLack rs os tm ts↔∀p∈ybr ds,0≤ygu rs os tm ts p.1 p.2:=⟨fun h=>h ds hds,fun h=>.of hds h⟩
 rw[e1,← yw1 ht hds ha hb ho hl hts]
 refine s1.trans ?_
 show (∀x∈(yj7 rs os tm ages outs ts).1,x=0)↔_
 have ln':(yj7 rs os tm ages outs ts).1.length=rs.length:=ln.trans hl
 constructor
 ·intro h i hi
  have:=uptoN_mem.mp (ha.1.mem_iff.mp hi)
  have hk:i.toNat<(yj7 rs os tm ages outs ts).1.length:=by omega
  rw[List.getD_eq_getElem?_getD,List.getElem?_eq_getElem hk]
  exact h _ (List.getElem_mem hk)
 ·intro h x hx
  obtain ⟨k,hk,e⟩:=List.getElem_of_mem hx
  have:=h ((k:Nat):Int) (ha.1.mem_iff.mpr (uptoN_mem.mpr ⟨by omega,by omega⟩))
  rw[Int.toNat_natCast,List.getD_eq_getElem?_getD,List.getElem?_eq_getElem hk,e] at this
  exact this
def yp1 (tb:Tbs):Sp:=fun vs H Q _=>∃(a b t:Addr) (tm:Int) (rs os:List (List Int)) (ts:List Int),vs=[.ref a,.ref b,.int tm,.ref t]∧Tb tb H∧Rows H a rs∧(∀r∈rs,r.length=3)∧rs.length≤31∧Rows H b os∧(∀r∈os,r.length=2)∧os.length≤31∧ybf H t ts∧ts.length=rs.length∧
 ∀q l ages outs H',H q=none→H l=none→ydt (yki rs) rs.length ages→ydt (yki os) os.length outs→Same H H'→Rows H' l (yj7 rs os tm ages outs ts).2→H' q=some (.tup [.ref l,.int (yj7 rs os tm ages outs ts).1.sum])→Q (.ref q) H'
section
variable {K:PySem.W.Frag}{a c x D:Addr}{g:TG}{te:TE}{σ₀:St}{H1:Hp}{R:Hp→Prop}
theorem yu4 {xs:List V}(P:Nat→List V→Hp→Prop)(hD:H1 D=none)(hx:H1 x=some (.lst xs))(nx:x≠a)(d1:DrawAt H1 a c)(hn:xs.length≤1000)(st:∀i zs H H',P i zs H→(H D=none∨∃l,H D=some (.lst l))→(∀b o,b≠D→H b=some o→H' b=some o)→P i zs H')(h0:P 0 [] H1)
 (step:∀i y zs H,xs[i]? = some y→H D=some (.lst zs)→KeepBut a H1 H→DrawAt H a c→P i zs H→∀K1:V→Hp→Prop,(∀z H4,KeepBut a H H4→DrawAt H4 a c→P (i+1) (zs++[z]) H4→K1 z H4)→g y σ₀ H fun σ2 H2=>(∀(k:Nat) v,σ₀[k]? = some (some v)→σ2[k]? = some (some v))∧te σ2 H2 K1)
 (fin:∀zs H,KeepBut a H1 H→DrawAt H a c→P xs.length zs H→zs.length=xs.length→H D=some (.lst zs)→R H) :
 ∃W:Nat→Nat→Hp→Prop,(∃m,W 0 m (upd H1 D (.lst [])))∧∀i m H,W i m H→((Itl K x).stop i H∧R H)∨((Itl K x).go i H∧∀y H',(Itl K x).yld i H y H'→g y σ₀ H' fun σ2 H2=>(∀(k:Nat) v,σ₀[k]? = some (some v)→σ2[k]? = some (some v))∧ykh σ2 H2 fun b H3=>
  if b=true then te σ2 H3 fun y H4=>∃zs,H4 D=some (.lst zs)∧zs.length<sizeLine∧∃m',m' < m∧W (i+1) m' (upd H4 D (.lst (zs++[y]))) else ∃m',m' < m∧W (i+1) m' H3):=by
 have na:=d1.ne hD
 have nc:=d1.nc hD
 refine⟨fun i m H=>i+m=xs.length∧KeepBut a H1 H∧DrawAt H a c∧∃zs,H D=some (.lst zs)∧zs.length=i∧P i zs H,⟨xs.length,by omega,KeepBut.refl.new hD,d1.new hD,[],yaa,rfl,st _ _ _ _ h0 (.inl hD) fun b o hb e=>by rw[yal hb];exact e⟩,?_⟩
 rintro i m H ⟨him,k1,d,zs,hz,hl,hp⟩
 have ex:=k1 _ _ nx hx
 by_cases hi:i<xs.length
 ·refine .inr ⟨⟨xs,_,SqL.of ex,List.getElem?_eq_getElem hi⟩,?_⟩
  rintro y H' ⟨rfl,hy⟩
  refine step i y zs _ (hy _ (SqL.of ex)) hz k1 d hp _ fun y H4 k4 d4 p4=>⟨zs,k4 _ _ na hz,yau (by omega),m-1,by omega,by omega,(k1.trans k4).young hD,d4.upd na nc,zs++[y],yaa,by rw[List.length_append,List.length_singleton];omega,st _ _ _ _ p4 (.inr ⟨_,k4 _ _ na hz⟩) fun b o hb e=>by rw[yal hb];exact e⟩
 ·have e:i=xs.length:=by omega
  subst e
  exact .inl ⟨⟨xs,SqL.of ex,Nat.le_refl _⟩,fin zs H k1 d hp hl hz⟩
end
theorem yw3 {K:PySem.W.Frag}{a D:Addr}{xs:List V}{g:TG}{te:TE}{σ₀:St}{H1:Hp}{R:Hp→Prop}(P:Nat→List V→Hp→Prop)(hD:H1 D=none)(hx:H1 a=some (.lst xs))(hn:xs.length≤1000)
 (st:∀i zs H H',P i zs H→(H D=none∨∃l,H D=some (.lst l))→(∀b o,b≠D→H b=some o→H' b=some o)→P i zs H') (h0:P 0 [] H1)
 (step:∀i x zs H,xs[i]? = some x→H D=some (.lst zs)→Same H1 H→P i zs H→∀K1:V→Hp→Prop,(∀y H4,Same H H4→P (i+1) (zs++[y]) H4→K1 y H4)→
  g x σ₀ H fun σ2 H2=>(∀(k:Nat) v,σ₀[k]? = some (some v)→σ2[k]? = some (some v))∧te σ2 H2 K1)
 (fin:∀zs H,Same H1 H→P xs.length zs H→zs.length=xs.length→H D=some (.lst zs)→R H) :
 ∃W:Nat→Nat→Hp→Prop,(∃m,W 0 m (upd H1 D (.lst [])))∧∀i m H,W i m H→((Itl K a).stop i H∧R H)∨((Itl K a).go i H∧∀x H',(Itl K a).yld i H x H'→g x σ₀ H' fun σ2 H2=>(∀(k:Nat) v,σ₀[k]? = some (some v)→σ2[k]? = some (some v))∧ykh σ2 H2 fun b H3=>
  if b=true then te σ2 H3 fun y H4=>∃zs,H4 D=some (.lst zs)∧zs.length<sizeLine∧∃m',m' < m∧W (i+1) m' (upd H4 D (.lst (zs++[y]))) else ∃m',m' < m∧W (i+1) m' H3):=by
 refine⟨fun i m H=>i+m=xs.length∧Same H1 H∧∃zs,H D=some (.lst zs)∧zs.length=i∧P i zs H,⟨xs.length,by omega,yad hD _,[],yaa,rfl,st _ _ _ _ h0 (.inl hD) fun b o hb e=>by rw[yal hb];exact e⟩,?_⟩
 rintro i m H ⟨him,s1,zs,hz,hl,hp⟩
 have ex:=s1 _ _ hx
 by_cases hi:i<xs.length
 ·refine .inr ⟨⟨xs,_,SqL.of ex,List.getElem?_eq_getElem hi⟩,?_⟩
  rintro x H' ⟨rfl,hy⟩
  refine step i x zs H' (hy _ (SqL.of ex)) hz s1 hp _ fun y H4 s4 p4=>⟨zs,s4 _ _ hz,yau (by omega),m-1,by omega,by omega,(s1.trans s4).young hD,zs++[y],yaa,by rw[List.length_append,List.length_singleton];omega,st _ _ _ _ p4 (.inr ⟨_,s4 _ _ hz⟩) fun b o hb e=>by rw[yal hb];exact e⟩
 ·have e:i=xs.length:=by omega
  subst e
  exact .inl ⟨⟨xs,SqL.of ex,Nat.le_refl _⟩,fin zs H s1 hp hl hz⟩
theorem Rows.but {H H':Hp}{D l:Addr}{ls:List (List Int)}(h:Rows H l ls)(hk:∀b o,b≠D→H b=some o→H' b=some o)(nl:H D=none∨∃zs,H D=some (.lst zs))(n:l≠D):Rows H' l ls:=by
 obtain ⟨ps,h1,h2,h3⟩:=h
 refine⟨ps,hk _ _ n h1,h2,fun i p r e1 e2=>hk _ _ (fun z=>?_) (h3 i p r e1 e2)⟩
 have:=h3 i p r e1 e2
 rw[z] at this
 rcases nl with y|⟨zs,y⟩ <;> (rw[y] at this;cases this)
theorem Tups.cat {H:Hp}{xs ys:List V}{rs qs:List (List Int)}(h:Tups H xs rs)(h':Tups H ys qs):Tups H (xs++ys) (rs++qs):=by
 obtain ⟨h1,h2⟩:=h
 obtain ⟨g1,g2⟩:=h'
 refine⟨by rw[List.length_append,List.length_append,h1,g1],fun i x r e1 e2=>?_⟩
 by_cases c:i<xs.length
 ·rw[List.getElem?_append_left c] at e1
  rw[List.getElem?_append_left (by omega)] at e2
  exact h2 i x r e1 e2
 ·rw[List.getElem?_append_right (by omega)] at e1
  rw[List.getElem?_append_right (by omega),← h1] at e2
  exact g2 _ x r e1 e2
theorem yzj (xs:List V){k:Int}(h0:0≤k):yi2 xs none (some k)=xs.take k.toNat:=by
 have e:HT.sIx xs.length xs.length (some k)=min k.toNat xs.length:=by
  show (if k<0 then (k+(xs.length:Int)).toNat else min k.toNat xs.length)=_
  rw[if_neg (by omega)]
 unfold yi2
 rw[e]
 show (xs.drop 0).take (min k.toNat xs.length-0)=_
 rw[List.drop_zero,Nat.sub_zero]
 by_cases z:k.toNat≤xs.length
 ·rw[Nat.min_eq_left z]
 ·rw[Nat.min_eq_right (by omega),List.take_length,List.take_of_length_le (by omega)]
end L2
namespace HT
open PySem PySem.Spec PyProof.Rows
variable {prog:Program}{w:World}{A:Around}{E:Value→Shared→Prop}{s:Shared}
theorem getItem_tuple_all {t sl:Addr}{items:Array Value}{vl vu:Value}{lo hi:Option Int}{Q:Value→Shared→Prop}(ht:IsTup s.heap t items)(hs:s.heap.IsSliceOf sl vl vu .none)(pl:IsPart vl lo)(pu:IsPart vu hi)
 (hw:sIx items.size 0 lo=0∧sIx items.size items.size hi=items.size) (h:Q (.ref t) s):wpAny (model prog w) A (getItem (.ref t) (.ref sl)) Q E s:=by
 obtain ⟨os,hos,hcs,hds⟩:=id hs
 have hTs:s.TypeIs (.ref sl) "slice" := ⟨os,hos,hcs⟩
 unfold getItem
 try with_reducible refine wpAny_holding ?_
 first|refine zwb0 (zwp0 ?_)|skip
 refine zwb0 (wpAny_sequenceKey ht.typeIs (by decide) ?_)
 refine zwb0 (wpAny_callSpecial?_slot (name:=Str.ofString "__getitem__") ht.typeIs PyProof.Rows.slot_tuple_getitem
  (wpAny_call_entry PyProof.Rows.slot_tuple_getitem ht.typeIs entry_tuple_getitem ?_ (args_tuple_getitem _ _)))
 show wpAny _ _ (Builtin.Tuple.tupleItemsOf (.ref t) >>= _) _ _ s
 refine zwb0 (tupleItemsOf_ ht ?_)
 refine zwb0 (wpAny_typeOf hTs ?_)
 rw[if_pos (by decide)]
 refine zwb0 (yfw hs pl pu ?_)
 have hyes:(((sIx items.size 0 lo:Nat):Int) == 0&&(1:Int) == 1&&(sIx items.size items.size hi-sIx items.size 0 lo) == items.size)=true:=by
  rw[hw.1,hw.2];simp
 show wpAny _ _ (if (((sIx items.size 0 lo:Nat):Int) == 0&&(1:Int) == 1&&(sIx items.size items.size hi-sIx items.size 0 lo) == items.size)=true then _ else _) _ _ s
 rw[if_pos hyes]
 refine zwb0 ?_
 unfold Builtin.Tuple.tupleIsExact
 refine zwb0 (wpAny_typeOf ht.typeIs (zwp0 ?_))
 rw[if_pos (by decide)]
 refine zwb0 (wpAny_rule ?_)
 exact zwp0 ⟨_,rfl,zwp0 h⟩
end HT
namespace L2
open PySem PySem.Spec PyProof.Rows
def zdi (K:PySem.W.Frag):V→Option Int→Option Int→Hp→VK→Prop:=fun x lo hi H Q=>∃a xs,x = .ref a∧SqT K H a xs∧
 ((HT.sIx xs.length 0 lo=0∧HT.sIx xs.length xs.length hi=xs.length∧Q (.ref a) H)∨(¬ (HT.sIx xs.length 0 lo=0∧HT.sIx xs.length xs.length hi=xs.length)∧∀p,H p=none→Q (.ref p) (upd H p (.tup (yi2 xs lo hi)))))
theorem yp2 {X:Cx}:SlR X (zdi X.K):=by
 intro pins s σ H x v vl vu lo hi sl Q I rx hs pl pu h
 obtain ⟨a,xs,rfl,hx,h⟩:=h
 rcases h with ⟨h1,h2,q⟩ | ⟨hw,q⟩
 ·cases rx
  obtain ⟨its,r,ht,hz⟩:=I.tuple hx
  have hlen:its.toArray.size=xs.length:=by rw[List.size_toArray];exact r.length.symm
  refine⟨"tuple",_,PyProof.Rows.slot_tuple_getitem.lookup,ht.typeIs,?_⟩
  exact HT.getItem_tuple_all ht hs pl pu (by rw[hlen];exact⟨h1,h2⟩) ⟨.ref a,H,I,rfl,q⟩
 ·exact yz5 pins s σ H _ v vl vu lo hi sl Q I rx hs pl pu ⟨a,xs,rfl,hx,hw,q⟩
end L2
namespace L2
open PySem PySem.Spec PySem.W PyProof.Rows
theorem yzk (xs:List V){k:Int}(h0:0≤k):yi2 xs (some k) none=xs.drop k.toNat:=by
 have e:HT.sIx xs.length 0 (some k)=min k.toNat xs.length:=by
  show (if k<0 then (k+(xs.length:Int)).toNat else min k.toNat xs.length)=_
  rw[if_neg (by omega)]
 unfold yi2
 rw[e]
 show (xs.drop (min k.toNat xs.length)).take (xs.length-min k.toNat xs.length)=_
 by_cases z:k.toNat≤xs.length
 ·rw[Nat.min_eq_left z,List.take_of_length_le (by rw[List.length_drop];omega)]
 ·rw[Nat.min_eq_right (by omega),List.drop_length,List.drop_eq_nil_of_le (by omega),List.take_nil]
theorem Tups.rep {H:Hp}{xs:List V}{rs:List (List Int)}(h:Tups H xs rs):∀n,Tups H (List.replicate n xs).flatten (List.replicate n rs).flatten
 |0=>Tups.nil
 |n+1=>by
  rw[List.replicate_succ,List.replicate_succ,List.flatten_cons,List.flatten_cons]
  exact h.cat (h.rep n)
theorem yu5 {r q:List Int}:∀{n:Nat},q∈(List.replicate n [r]).flatten→q=r
 |0,h=>by cases h
 |n+1,h=>by
  rw[List.replicate_succ,List.flatten_cons] at h
  rcases List.mem_append.mp h with z|z
  ·exact List.mem_singleton.mp z
  ·exact yu5 z
theorem yu6 {α:Type}(x:α):∀n,(List.replicate n [x]).flatten.length=n
 |0=>rfl
 |n+1=>by rw[List.replicate_succ,List.flatten_cons,List.length_append,yu6 x n,List.length_singleton];omega
end L2
namespace L2
open PySem
def nmF:Option Nat→Str
 |none => ""
 |some 1 => "BadDay"
 |some 2 => "BadTerm"
 |some 3 => "BadCount"
 |some 4 => "BadDuty"
 |some 5 => "BadRows"
 |some 6 => "BadStretch"
 |some 7 => "BadTaken"
 |some 8 => "NotDealable"
 |some _ => "NoPlace"
theorem yge {rs:List (List Int)}{n:Nat}(h:ya3 rs=some n):n=5∨n=1∨n=3∨n=4:=by
 unfold ya3 at h
 split at h
 ·cases h;exact .inl rfl
 ·cases e:ybk rs with
  |none=>rw[e] at h;cases h
  |some j=>
   rw[e] at h
   cases h
   match j with
   |0=>exact .inr (.inl rfl)
   |1=>exact .inr (.inr (.inl rfl))
   |j+2=>exact .inr (.inr (.inr rfl))
theorem yu7 {o:Option Nat}:decide (V.str (nmF o)=V.str "")=decide (o=none):=by
 match o with
 |none=>rfl
 |some 0=>rfl
 |some 1=>rfl
 |some 2=>rfl
 |some 3=>rfl
 |some 4=>rfl
 |some 5=>rfl
 |some 6=>rfl
 |some 7=>rfl
 |some 8=>rfl
 |some (n+9)=>rfl
def zcg (rs:List (List Int)):Prop:=∀r∈rs,r.length=2∨r.length=3
def ygp:Sp:=fun vs H Q _=>∃(a:Addr) (rs:List (List Int)),vs=[.ref a]∧Rows H a rs∧zcg rs∧∀H',Same H H'→Q (.str (nmF (ya3 rs))) H'
def yp3:Sp:=fun vs H Q _=>∃(x:V) (b:Addr) (tm:Int) (rs os:List (List Int)),vs=[x,.ref b,.int tm]∧((∃a,x = .ref a∧Rows H a rs)∨(x = .non∧rs=[]))∧zcg rs∧Rows H b os∧zcg os∧∀H',Same H H'→Q (.str (nmF (ybj rs os tm))) H'
def ym1:Sp:=fun vs H Q _=>∃(a c l:Addr) (w:Nat) (rs:List (List Int)),vs=[.ref a,.ref l,.int (w:Int)]∧DrawAt H a c∧Rows H l rs∧l≠a∧(w=2∨w=3)∧(∀r∈rs,r.length=w)∧rs.length≤31∧
 ∀l' rs' H',l'≠a→(∀r∈rs',r.length=w)→rs'.length≤31→DrawAt H' a c→KeepBut a H H'→Rows H' l' rs'→Q (.ref l') H'
def ygf:Sp:=fun vs H Q _=>∃(a c:Addr) (m:Int),vs=[.ref a,.int m]∧DrawAt H a c∧0≤m∧m≤30∧
 ∀(q l o:Addr) (tm:Int) ls os H',l≠a→o≠a→(∀r∈ls,r.length=3)→(∀r∈os,r.length=2)→ls.length≤31→os.length≤31→DrawAt H' a c→KeepBut a H H'→Rows H' l ls→Rows H' o os→H' q=some (.tup [.ref l,.ref o,.int tm])→Q (.ref q) H'
theorem yq9 {rs os:List (List Int)}{tm:Int}{n:Nat}(h:ya3 rs=some n):ybj rs os tm=some n:=by unfold ybj;rw[h]
theorem yra {rs os:List (List Int)}{tm:Int}{n:Nat}(h:ya3 rs=none)(h2:ya3 os=some n):ybj rs os tm=some n:=by unfold ybj;rw[h];simp only;rw[h2]
theorem yrb {rs os:List (List Int)}{tm:Int}(h:ya3 rs=none)(h2:ya3 os=none):ybj rs os tm=if yeu tm then none else some 2:=by unfold ybj;rw[h];simp only;rw[h2]
def ydi (ks:List Nat)(n:Nat):List V:=ks.map fun j=>.bl (decide (n=j))
theorem yxz {ks:List Nat}{n:Nat}(h:n∈ks):ks[ks.idxOf n]? = some n:=by
 have hl:ks.idxOf n<ks.length:=List.idxOf_lt_length_iff.mpr h
 rw[List.getElem?_eq_getElem hl,List.getElem_idxOf hl]
theorem yw4 {ks:List Nat}{n:Nat}(h:n∈ks):∃z,(ydi ks n)[ks.idxOf n]? = some z∧eqV z (.bl true)=true:=
 ⟨.bl (decide (n=n)),by unfold ydi;rw[List.getElem?_map,yxz h];rfl,by rw[decide_eq_true rfl];rfl⟩
theorem yu8 {ks:List Nat}{n:Nat}:∀(m:Nat) z,m<ks.idxOf n→(ydi ks n)[m]? = some z→eqV z (.bl true)=false:=fun m z hm hz=>by
 obtain ⟨j,hj,rfl⟩ : ∃j,ks[m]? = some j∧V.bl (decide (n=j))=z:=by
  unfold ydi at hz
  rw[List.getElem?_map] at hz
  cases e:ks[m]? with
  |none=>rw[e] at hz;cases hz
  |some j=>rw[e] at hz;exact⟨j,rfl,Option.some.inj hz⟩
 have hl:m<ks.length:=(List.getElem?_eq_some_iff.mp hj).1
 have e:=(List.getElem?_eq_some_iff.mp hj).2
 have:=List.not_of_lt_findIdx (p:=(· == n)) (xs:=ks) hm
 rw[e] at this
 have ne:n≠j:=fun z=>by rw[z,beq_self_eq_true] at this;cases this
 rw[decide_eq_false ne];rfl
theorem yka {n:Nat}:∀{ks:List Nat},n∈ks→ks.Nodup→((ydi ks n).countP fun z=>eqV z (.bl true))=1
 |j::ks,h,nd=>by
  rw[List.nodup_cons] at nd
  show ((V.bl (decide (n=j))::ydi ks n).countP fun z=>eqV z (.bl true))=1
  by_cases z:n=j
  ·subst z
   rw[List.countP_cons,decide_eq_true rfl]
   have:(ydi ks n).countP (fun z=>eqV z (.bl true))=0:=by
    rw[List.countP_eq_zero]
    intro v hv
    obtain ⟨j,hj,rfl⟩:=List.mem_map.mp hv
    have ne:n≠j:=fun z=>nd.1 (z ▸ hj)
    rw[decide_eq_false ne];decide
   rw[this];rfl
  ·rw[List.countP_cons,decide_eq_false z,yka ((List.mem_cons.mp h).resolve_left z) nd.2];rfl
theorem yw5 {ks:List Nat}{n:Nat}(h:n∈ks):atI (ks.map fun n=>V.str (nmF (some n))) ((ks.idxOf n:Nat):Int)=some (.str (nmF (some n))):=
 ycz (by rw[List.getElem?_map,yxz h];rfl)
def za8 (ks:List Nat)(H:Hp)(cl:Nat→Addr)(o:Option Nat):XK:=fun cls _ H1=>Same H H1∧∃n:Nat,n∈ks∧cls = .ref (cl n)∧o=some n
theorem zch {ks:List Nat}{K:PySem.W.Frag}{cl:Nat→Addr}{H:Hp}{o:Option Nat}(Y:XcL K cl ks):∀cls H1,za8 ks H cl o cls none H1→(∃D,cls = .ref D)∧PySem.W.exmOne K cls (.ref (cl 0))=some true:=fun cls H1 h=>by
 obtain ⟨_,n,hn,rfl,_⟩:=h
 exact⟨⟨_,rfl⟩,Y.m _ hn⟩
end L2
namespace K28
open PySem L2
abbrev yd0:Stmt:=top 63
abbrev yp4:List Str:=["_law_rows","_law_row","_law_at","_law_most"]
abbrev yd1:List Str:=["_law_rows"]
theorem sc_row_fault:FnScope yp4 yd1 (yac yd0):=⟨rfl,rfl,rfl,by decide +kernel,rfl,by decide +kernel,by decide +kernel⟩
abbrev yia:Stmt:=top 64
abbrev yzl:List Str:=["_law_lots","_law_outs","_law_term"]
abbrev ykb:List Str:=["_law_lots","_law_outs","_law_term"]
theorem yw6:FnScope yzl ykb (yac yia):=⟨rfl,rfl,rfl,by decide +kernel,rfl,by decide +kernel,by decide +kernel⟩
abbrev ygq:Stmt:=top 75
abbrev yw7:List Str:=["_law_draw","_law_rows","_law_wide","_law_at","_law_place","_law_row"]
abbrev yhi:List Str:=["_law_draw","_law_rows","_law_wide"]
theorem sc_spoilt:FnScope yw7 yhi (yac ygq):=⟨rfl,rfl,rfl,by decide +kernel,rfl,by decide +kernel,by decide +kernel⟩
abbrev ycq:Stmt:=top 76
abbrev ym2:List Str:=["_law_draw","_law_most","_law_lots","_law_outs","_law_term"]
abbrev ydj:List Str:=["_law_draw","_law_most"]
theorem sc_spoilt_case:FnScope ym2 ydj (yac ycq):=⟨rfl,rfl,rfl,by decide +kernel,rfl,by decide +kernel,by decide +kernel⟩
section
variable {P:Program}{w:World}{K:PySem.W.Frag}{mg:Str→Option Value}{base:Heap}{f:Addr}{fd:FuncData}(B:Bn mg)
include B
theorem yor (F:Fun K "_law_row_fault" "_law_row_fault" yd0 f fd):FnOk P w K mg base CX0 1 f fd yd1 ygp:=by
 refine F.ok sc_row_fault (fun vs H Q E h=>?_) (fun cdv A outer s H vs Q E hr h=>?_)
 ·obtain ⟨a,rs,rfl,_⟩:=h;rfl
 obtain ⟨a,rs,rfl,hR,hw,q⟩:=h
 refine⟨_,(yae (yb7 (yay ylr (yaq yar rfl B.len PySem.boot_len (yaj (pv 0) yab)) yaf (ya7 _)) (yah (yat ybl)) ya6)
  (yae (ycr PassesOwn.never rfl (ya9 (pv 0)) (yai (i:=1) sc_row_fault.nd rfl (Or.inl rfl)) (yah (ycr PassesOwn.never rfl (yi6 rfl B.enumerate (yaj (yd6 ygx (yb5 (yaj yaf (yaj (ybh yic yaf yaf) (yaj (ybh yic yaf yaf) yab)))) ye7 (ye8 (yaq yar rfl B.len PySem.boot_len (yaj (pv 1) yab)))) yab)) (ya8 rfl (yag (yai (i:=2) sc_row_fault.nd rfl (Or.inl rfl)) (yag (yai (i:=3) sc_row_fault.nd rfl (Or.inl rfl)) yax))) (yah (yb7 (PW.pt (yo1 (yay yil (yba ybt (pv 1) (pv 2) (fun _ _=>rfl)) yaf (ya7 _)) (ykv (yay ylr (yba ybt (pv 1) (pv 2) (fun _ _=>rfl)) (pv 3) (ya7 _))))) (yah (yat (yba ybt (ybd (yaj ybl (yaj ybl (yaj ybl yab)))) (pv 2) (fun _ _=>rfl)))) ya6)))))
  (yah (yat ybl)))),?_⟩
 obtain ⟨xs,ex,exl,exi⟩:=hR.get
 refine⟨_,rfl,a,_,rfl,.inl (SqL.of ex),_,_,rfl,rfl,_,rfl,?_⟩
 by_cases c:(30:Int)<xs.length
 ·rw[decide_eq_true c]
  have e:ya3 rs=some 5:=by rw[ya3,if_pos (by omega)]
  rw[e] at q
  exact ycl (q _ (Same.refl H))
 rw[decide_eq_false c]
 have c30:¬ 30<rs.length:=by omega
 refine yct ?_
 refine⟨_,rfl,a,rfl,⟨xs,SqL.of ex⟩,?_⟩
 refine ydb (xs:=xs) (fun i σ H3=>∃o1 o2 o3,σ=[some (.ref a),o1,o2,o3]∧Same H H3∧ybk (rs.take i)=none) ⟨_,_,_,rfl,Same.refl H,rfl⟩ ?_ ?_ ?_
 ·rintro i σ H3 hi ⟨o1,o2,o3,rfl,sm,_⟩
  exact SqL.of (sm _ _ ex)
 ·rintro i x σ H3 exi' ⟨o1,o2,o3,rfl,sm,hb⟩
  obtain ⟨p,r,rfl,er,hp⟩:=exi i x exi'
  have h23:r.length=2∨r.length=3:=hw r (List.mem_of_getElem? er)
  have hp3:=sm _ _ hp
  refine⟨_,_,rfl,rfl,⟨by decide,by decide,by decide⟩,_,_,rfl,rfl,⟨by decide,by decide,by decide⟩,by show 3≤sizeLine;decide,fun p0 hp0=>?_⟩
  refine⟨_,rfl,p,_,rfl,.inr (SqT.of (by rw[yal (yak hp3 hp0)];exact hp3)),_,rfl,p0,_,rfl,SqL.of yaa,fun p1 hp1=>⟨p1,_,rfl,SqL.of yaa,?_⟩⟩
  have hz:yi2 [V.int 999,.int (10 ^ (10:Int).toNat),.int (10 ^ (6:Int).toNat)] none (some (((r.map V.int).length:Nat):Int))=(List.range r.length).map fun m=>V.int (lim m):=by
   rw[List.length_map]
   rcases h23 with z|z <;> rw[z] <;> rfl
  show ∃W,_
  rw[hz]
  have s3:=(sm.trans (yad hp0 (.lst [.int 999,.int (10 ^ (10:Int).toNat),.int (10 ^ (6:Int).toNat)]))).trans (yad hp1 (.lst ((List.range r.length).map fun m=>V.int (lim m))))
  refine yly (xs:=(List.range r.length).map fun m=>V.int (lim m)) (fun j σ H5=>∃o2 o3,σ=[some (.ref a),some (.ref p),o2,o3]∧Same H H5∧H5 p1=some (.lst ((List.range r.length).map fun m=>V.int (lim m)))∧∀m:Nat,m<j→inB (r.getD m 0) (lim m)) ⟨_,_,rfl,s3,yaa,fun m hm=>absurd hm (Nat.not_lt_zero _)⟩ ?_ ?_ ?_
  ·rintro j σ H5 hj ⟨o2,o3,rfl,sm5,e5,_⟩
   exact SqL.of e5
  ·rintro j x σ H5 p2 ej ⟨o2,o3,rfl,sm5,e5,hm⟩ hp2
   have hj:j<r.length:=by
    have:=(List.getElem?_eq_some_iff.mp ej).1
    rw[List.length_map,List.length_range] at this
    exact this
   have hx:x = .int (lim j):=by
    rw[List.getElem?_map,List.getElem?_range hj] at ej
    exact(Option.some.inj ej).symm
   subst hx
   have s6:=sm5.trans (yad hp2 (.tup [.int j,.int (lim j)]))
   have h6:=s6 _ _ hp
   have hv:atI (r.map V.int) (j:Int)=some (.int (r.getD j 0)):=ycz (by rw[List.getElem?_map,List.getElem?_eq_getElem hj,List.getD_eq_getElem?_getD,List.getElem?_eq_getElem hj];rfl)
   refine⟨p2,_,rfl,SqT.of yaa,rfl,_,_,rfl,_,_,rfl,rfl,?_⟩
   have bad:¬ inB (r.getD j 0) (lim j)→ysq (tOp (yvj K) (ys1 (ybn (tC (.str "BadDay")) (ybn (tC (.str "BadCount")) (ybn (tC (.str "BadDuty")) yky)))) (ycc 2)) { nx:=fun _ _=>False,rt:=Q } [some (.ref a),some (.ref p),some (.int (j:Int)),some (.int (lim j))] (L2.upd H5 p2 (.tup [.int j,.int (lim j)])):=fun b=>by
    have hb3:yb2 r=some j:=ypd h23 hm hj b
    have ea:ya3 rs=some (yt9 j):=by rw[ya3,if_neg c30,ygy hb er hb3];rfl
    have j3:=ytx hb3
    rw[ea] at q
    refine⟨by show 3≤sizeLine;decide,fun p3 hp3'=>⟨_,rfl,p3,_,_,.str (nmF (some (yt9 j))),rfl,rfl,SqT.of yaa,?_,q _ (s6.trans (yad hp3' _))⟩⟩
    have:j=0∨j=1∨j=2:=by omega
    rcases this with rfl|rfl|rfl <;> rfl
   refine⟨_,rfl,_,rfl,p,_,_,.int (r.getD j 0),rfl,rfl,SqT.of h6,hv,_,_,rfl,rfl,_,rfl,?_⟩
   by_cases c1:r.getD j 0<1
   ·rw[decide_eq_true c1]
    exact ycl (ycl (bad fun z=>by have:=z.1;omega))
   ·rw[decide_eq_false c1]
    refine yct ⟨_,rfl,_,rfl,p,_,_,.int (r.getD j 0),rfl,rfl,SqT.of h6,hv,_,rfl,_,_,rfl,rfl,_,rfl,?_⟩
    by_cases c2:lim j<r.getD j 0
    ·rw[decide_eq_true c2]
     exact ycl (bad fun z=>by have:=z.2;omega)
    ·rw[decide_eq_false c2]
     refine yct ⟨_,_,rfl,s6,by rw[yal (yak e5 hp2)];exact e5,fun m hm'=>?_⟩
     by_cases z:m=j
     ·rw[z];exact⟨by omega,by omega⟩
     ·exact hm m (by omega)
  ·rintro σ H5 ⟨o2,o3,rfl,sm5,e5,hm⟩
   rw[List.length_map,List.length_range] at hm
   exact⟨_,_,_,rfl,sm5,yf1 hb er (ypc h23 hm)⟩
 ·rintro σ H3 ⟨o1,o2,o3,rfl,sm,hb⟩
  rw[exl,List.take_length] at hb
  have ea:ya3 rs=none:=by rw[ya3,if_neg c30,hb];rfl
  rw[ea] at q
  exact q _ sm
theorem yw8 (G_row_fault:Cal P w K mg base CX0 1 "_law_row_fault" yd1 ygp) (F:Fun K "_law_fault" "_law_fault" yia f fd):FnOk P w K mg base CX0 2 f fd ykb yp3:=by
 refine F.ok yw6 (fun vs H Q E h=>?_) (fun cdv A outer s H vs Q E hr h=>?_)
 ·obtain ⟨x,b,tm,rs,os,rfl,_⟩:=h;rfl
 obtain ⟨x,b,tm,rs,os,rfl,hx,hw,hO,hw2,q⟩:=h
 refine⟨_,(yae (yb7 (PW.pt (ym8 (yay yx5 (pv 0) yzv (ya7 _)) (ylp (yay yrg (yam G_row_fault hr rfl ya1 (yaj (pv 0) yab)) ybl (ya7 _))))) (yah (yat (yam G_row_fault hr rfl ya1 (yaj (pv 0) yab)))) ya6)
  (yae (yb7 (yay yrg (yam G_row_fault hr rfl ya1 (yaj (pv 1) yab)) ybl (ya7 _)) (yah (yat (yam G_row_fault hr rfl ya1 (yaj (pv 1) yab)))) ya6)
  (yah (yat (ylq (PW.pt (yo1 (yay yil (pv 2) yaf (ya7 _)) (ykv (yay ylr (pv 2) yaf (ya7 _))))) ybl ybl))))),?_⟩
 refine yeh (fun σ H'=>σ=[some x,some (.ref b),some (.int tm)]∧Same H H'∧ya3 rs=none) (fun D' nx rt=>?_) ?_
 ·refine⟨_,rfl,rfl,_,rfl,?_⟩
  rcases hx with ⟨a,rfl,hR⟩ | ⟨rfl,rfl⟩
  ·refine ycl ⟨_,rfl,a,rs,rfl,hR,hw,fun H1 s1=>⟨rfl,_,rfl,?_⟩⟩
   rw[yu7]
   cases e:ya3 rs with
   |none=>exact yct (nx _ _ ⟨rfl,s1,e⟩)
   |some n=>
    refine ycl ⟨_,rfl,a,rs,rfl,hR.same s1,hw,fun H2 s2=>?_⟩
    rw[yq9 e] at q
    rw[e,rt]
    exact q _ (s1.trans s2)
  ·exact yct (yct (nx _ _ ⟨rfl,Same.refl H,rfl⟩))
 rintro σ H1 ⟨rfl,s1,e1⟩
 refine yeh (fun σ H'=>σ=[some x,some (.ref b),some (.int tm)]∧Same H H'∧ya3 os=none) (fun D' nx rt=>?_) ?_
 ·refine⟨_,rfl,b,os,rfl,hO.same s1,hw2,fun H2 s2=>⟨rfl,_,rfl,?_⟩⟩
  rw[yu7]
  cases e:ya3 os with
  |none=>exact yct (nx _ _ ⟨rfl,s1.trans s2,e⟩)
  |some n=>
   refine ycl ⟨_,rfl,b,os,rfl,hO.same (s1.trans s2),hw2,fun H3 s3=>?_⟩
   rw[yra e1 e] at q
   rw[e,rt]
   exact q _ ((s1.trans s2).trans s3)
 rintro σ H2 ⟨rfl,s2,e2⟩
 rw[yrb e1 e2] at q
 refine⟨_,rfl,_,_,rfl,rfl,_,rfl,?_⟩
 by_cases c1:tm<0
 ·rw[decide_eq_true c1]
  refine ycl (ycl ?_)
  rw[if_neg (fun z:yeu tm=>by have:=z.1;omega)] at q
  exact q _ s2
 rw[decide_eq_false c1]
 refine yct ⟨_,rfl,_,_,rfl,rfl,_,rfl,?_⟩
 by_cases c2:(400:Int)<tm
 ·rw[decide_eq_true c2]
  refine ycl ?_
  rw[if_neg (fun z:yeu tm=>by have:=z.2;omega)] at q
  exact q _ s2
 rw[decide_eq_false c2]
 refine yct ?_
 rw[if_pos (show yeu tm from ⟨by omega,by omega⟩)] at q
 exact q _ s2
variable (G_pick:Cal P w K mg base CX0 1 "_law_pick" yih yig) (G_odd:Cal P w K mg base CX0 2 "_law_odd" ysc yvy)
include G_pick G_odd
theorem yu9 (F:Fun K "_law_spoilt" "_law_spoilt" ygq f fd):FnOk P w K mg base CX0 3 f fd yhi ym1:=by
 refine F.ok sc_spoilt (fun vs H Q E h=>?_) (fun cdv A outer s H vs Q E hr h=>?_)
 ·obtain ⟨a,c,l,w,rs,rfl,_⟩:=h;rfl
 obtain ⟨a,c,l,wd,rs,rfl,d,hR,nla,hw,hrs,hn,q⟩:=h
 refine⟨_,(yae (yb7 (yay yg7 (yam G_pick hr rfl ya1 (yaj (pv 0) (yaj yaf yab))) yaf (ya7 _)) (yah (yat (yd6 ygx (ybh yg8 (pv 1) (ybh ys6 (yb5 (yaj (yd6 yp2 (ybd (yaj yaf (yaj yaf (yaj yaf yab)))) ye7 (ye8 (pv 2))) yab)) yaf)) ye7 (ye8 yaf)))) ya6)
  (yae (yb7 (PW.pt (yo1 (yay (zag hr.units) (pv 1) (yb5 yab) (ya7 _)) (ykv (yay yg7 (yam G_pick hr rfl ya1 (yaj (pv 0) (yaj yaf yab))) yaf (ya7 _))))) (yah (yat (pv 1))) ya6)
  (yae (yas (i:=3) sc_spoilt.nd rfl (Or.inl rfl) (yam G_pick hr rfl ya1 (yaj (pv 0) (yaj (yaq yar rfl B.len PySem.boot_len (yaj (pv 1) yab)) yab))))
  (yae (yas (i:=4) sc_spoilt.nd rfl (Or.inl rfl) (yam G_pick hr rfl ya1 (yaj (pv 0) (yaj (yaq yar rfl B.len PySem.boot_len (yaj (yba ya2 (pv 1) (pv 3) (fun _ _=>rfl)) yab)) yab))))
  (yae (yas (i:=5) sc_spoilt.nd rfl (Or.inl rfl) (ybh ytq (ybh ytq (yd6 yp2 (yba ya2 (pv 1) (pv 3) (fun _ _=>rfl)) ye7 (ye8 (pv 4))) (ybd (yaj (yam G_odd hr rfl ya1 (yaj (pv 0) yab)) yab))) (yd6 yp2 (yba ya2 (pv 1) (pv 3) (fun _ _=>rfl)) (ye8 (ybh ycs (pv 4) yaf)) ye7)))
  (yah (yat (ybh yg8 (ybh yg8 (yd6 ygx (pv 1) ye7 (ye8 (pv 3))) (yb5 (yaj (pv 5) yab))) (yd6 ygx (pv 1) (ye8 (ybh ycs (pv 3) yaf)) ye7))))))))),?_⟩
 obtain ⟨xs,ex,hx⟩:=hR.tups
 have lx:=hx.1
 refine yeh (fun σ H'=>σ=[some (.ref a),some (.ref l),some (.int (wd:Int)),none,none,none]∧DrawAt H' a c∧KeepBut a H H') (fun D' nx rt=>?_) ?_
 ·refine⟨_,rfl,a,c,7,rfl,d,by decide,by decide,fun y H1 y0 y1 d1 kb1=>⟨rfl,_,rfl,?_⟩⟩
  refine ys9 (fun _=>?_) (fun _=>nx _ _ ⟨rfl,d1,kb1⟩)
  unfold ysq;rw[rt]
  have ex1:=kb1 _ _ nla ex
  have hx1:=hx.draw d kb1
  refine⟨_,rfl,by show 3≤sizeLine;decide,fun t1 ht1=>?_⟩
  have s2:=yad (H:=H1) ht1 (.tup [.int 9,.int 1,.int 1])
  refine⟨_,rfl,_,rfl,t1,_,rfl,SqT.of yaa,?_⟩
  have main:∀(t2:Addr) (r:List Int) (H3:Hp),Same (L2.upd H1 t1 (.tup [.int 9,.int 1,.int 1])) H3→H3 t2=some (.tup (r.map V.int))→r.length=wd→1≤sizeLine∧∀(p1:Addr),H3 p1=none→zcq (.ref p1) (.int 31) (L2.upd H3 p1 (.lst [.ref t2])) fun v H4=>zcp (.ref l) v H4 fun v2 H5=>∃i,V.int 31 = .int i∧zco K v2 none (some i) H5 Q:=by
   intro t2 r H3 s3 e3 hr3
   refine⟨by decide,fun p1 hp1=>?_⟩
   have S3:=s2.trans s3
   have u1:=yad (H:=H3) hp1 (.lst [.ref t2])
   refine⟨p1,31,_,rfl,rfl,yaa,by decide,by decide,by show 1*31≤sizeLine;decide,fun p2 hp2=>?_⟩
   have u2:=u1.trans (yad hp2 (.lst (List.replicate (31:Int).toNat [V.ref t2]).flatten))
   refine⟨l,p2,_,_,rfl,rfl,(S3.trans u2) _ _ ex1,yaa,?_,fun p3 hp3=>?_⟩
   ·rw[yu6]
    exact Nat.le_of_lt (yau (by show xs.length+31≤1000;omega))
   have u3:=u2.trans (yad hp3 (.lst (xs++(List.replicate (31:Int).toNat [V.ref t2]).flatten)))
   refine⟨_,rfl,p3,_,rfl,SqL.of yaa,fun p4 hp4=>?_⟩
   rw[yzj _ (show (0:Int)≤31 by decide)]
   have u4:=u3.trans (yad hp4 (.lst ((xs++(List.replicate (31:Int).toNat [V.ref t2]).flatten).take (31:Int).toNat)))
   have S4:=S3.trans u4
   have Y:=((hx1.same S4).cat ((Tups.one (r:=r) (u4 _ _ e3)).rep (31:Int).toNat)).take (31:Int).toNat
   refine q p4 _ _ ((d1.same (S3.trans u3)).ne hp4) (fun r' hr'=>?_) ?_ (d1.same S4) (kb1.trans (KeepBut.of_same S4)) (Y.rows yaa)
   ·rcases List.mem_append.mp (List.mem_of_mem_take hr') with z|z
    ·exact hrs r' z
    ·rw[yu5 z];exact hr3
   ·rw[List.length_take];exact Nat.min_le_left _ _
  rcases hw with rfl|rfl
  ·refine .inr ⟨by decide,fun t2 ht2=>main t2 [9,1] _ (yad ht2 _) yaa rfl⟩
  ·exact .inl ⟨rfl,rfl,main t1 [9,1,1] _ (Same.refl _) yaa rfl⟩
 rintro σ H1 ⟨rfl,d1,kb1⟩
 have ex1:=kb1 _ _ nla ex
 have hx1:=hx.draw d kb1
 refine yeh (fun σ H'=>σ=[some (.ref a),some (.ref l),some (.int (wd:Int)),none,none,none]∧DrawAt H' a c∧KeepBut a H H'∧xs.length≠0) (fun D' nx rt=>?_) ?_
 ·refine⟨_,rfl,by show 0≤sizeLine;decide,fun e he=>?_⟩
  have sE:=yad (H:=H1) he (.lst [])
  refine yyu (sE _ _ ex1) yaa ⟨_,rfl,?_⟩
  have d2:=d1.same sE
  have x2:=sE _ _ ex1
  have h2:=hx1.same sE
  have k2:KeepBut a H (L2.upd H1 e (.lst [])):=kb1.trans (KeepBut.of_same sE)
  generalize L2.upd H1 e (.lst [])=H2 at *
  by_cases c1:xs.length=0
  ·rw[decide_eq_true c1]
   refine ycl (ycl ?_)
   unfold ysq;rw[rt]
   exact⟨_,rfl,q l rs H2 nla hrs hn d2 k2 (h2.rows x2)⟩
  ·rw[decide_eq_false c1]
   refine yct ⟨_,rfl,a,c,2,rfl,d2,by decide,by decide,fun y H3 y0 y1 d3 kb3=>⟨rfl,_,rfl,?_⟩⟩
   refine ys9 (fun _=>?_) (fun _=>nx _ _ ⟨rfl,d3,k2.trans kb3,c1⟩)
   unfold ysq;rw[rt]
   exact⟨_,rfl,q l rs H3 nla hrs hn d3 (k2.trans kb3) ((h2.draw d2 kb3).rows (kb3 _ _ nla x2))⟩
 clear ex1 hx1 d1 kb1
 rintro σ H1 ⟨rfl,d1,kb1,c1⟩
 have ex1:=kb1 _ _ nla ex
 have hx1:=hx.draw d kb1
 refine⟨_,rfl,_,rfl,l,xs,rfl,.inl (SqL.of ex1),a,c,_,rfl,d1,by omega,by omega,fun x1 H2 a2 c2 d2 kb2=>?_⟩
 have hlt:x1.toNat<xs.length:=by omega
 have ex2:=kb2 _ _ nla ex1
 have hx2:=hx1.draw d1 kb2
 obtain ⟨p,r,ep,er,hp⟩:=hx2.at (List.getElem?_eq_getElem hlt)
 have eat:atI xs x1=some (.ref p):=ylz a2 (by rw[List.getElem?_eq_getElem hlt,ep])
 have hlr:r.length=wd:=hrs r (List.mem_of_getElem? er)
 refine⟨_,rfl,_,rfl,_,rfl,l,xs,_,.ref p,rfl,rfl,SqL.of ex2,eat,p,_,rfl,.inr (SqT.of hp),a,c,_,rfl,d2,?_,?_,fun x2 H3 a3 c3 d3 kb3=>?_⟩
 ·rw[List.length_map];omega
 ·rw[List.length_map];omega
 rw[List.length_map] at c3
 have ex3:=kb3 l _ nla ex2
 have hp3:=kb3 p _ (d2.neT hp) hp
 have hx3:=hx2.draw d2 kb3
 refine⟨_,rfl,_,rfl,l,xs,_,.ref p,rfl,rfl,SqL.of ex3,eat,_,rfl,_,rfl,p,_,rfl,SqT.of hp3,.inr ⟨(yxp r a3 c3).2,fun p1 hp1=>?_⟩⟩
 rw[(yxp r a3 c3).1]
 refine⟨_,rfl,a,c,rfl,d3.new hp1,fun y H4 d4 kb4=>⟨by show 1≤sizeLine;decide,fun p2 hp2=>?_⟩⟩
 have e1:=kb4 p1 _ (d3.ne hp1) yaa
 refine⟨p1,p2,_,_,rfl,rfl,by rw[yal (yak e1 hp2)];exact e1,yaa,Nat.le_of_lt (yau (by rw[List.length_map,List.length_take];show _+1≤1000;omega)),fun p3 H5 s5 e5=>?_⟩
 have d5:=(d4.new (o:=.tup [.int y]) hp2).same s5
 have k5:KeepBut a H3 H5:=((KeepBut.refl.new hp1).trans kb4).trans ((KeepBut.refl.new hp2).trans (KeepBut.of_same s5))
 have ex5:=k5 l _ nla ex3
 have hp5:=k5 p _ (d3.neT hp3) hp3
 have cf:=yv4 r (k:=x2+1) (by omega) (by omega)
 refine⟨_,rfl,_,rfl,l,xs,_,.ref p,rfl,rfl,SqL.of ex5,eat,_,rfl,_,_,rfl,rfl,_,rfl,p,_,rfl,SqT.of hp5,.inr ⟨cf.2,fun p4 hp4=>?_⟩⟩
 rw[cf.1]
 refine⟨p3,p4,_,_,rfl,rfl,by rw[yal (yak e5 hp4)];exact e5,yaa,Nat.le_of_lt (yau (by rw[List.length_append,List.length_map,List.length_map,List.length_take,List.length_drop];show _+1+_≤1000;omega)),fun p5 H6 s6 e6=>?_⟩
 have d6:=(d5.new (o:=.tup ((r.drop (x2+1).toNat).map V.int)) hp4).same s6
 have k6:KeepBut a H3 H6:=(k5.new hp4).trans (KeepBut.of_same s6)
 have ex6:=k6 l _ nla ex3
 have hx6:=hx3.draw d3 k6
 have e6':H6 p5=some (.tup ((r.take x2.toNat++[y]++r.drop (x2+1).toNat).map V.int)):=by rw[e6];simp
 refine⟨_,rfl,_,rfl,_,rfl,l,_,rfl,SqL.of ex6,fun q1 hq1=>?_⟩
 rw[yzj _ a2]
 have v1:=yad (H:=H6) hq1 (.lst (xs.take x1.toNat))
 refine⟨_,rfl,by show 1≤sizeLine;decide,fun q2 hq2=>?_⟩
 have v2:=v1.trans (yad hq2 (.lst [.ref p5]))
 refine⟨q1,q2,_,_,rfl,rfl,yad hq2 _ _ _ yaa,yaa,Nat.le_of_lt (yau (by rw[List.length_take];show _+1≤1000;omega)),fun q3 hq3=>?_⟩
 have v3:=v2.trans (yad hq3 (.lst (xs.take x1.toNat++[.ref p5])))
 refine⟨_,rfl,_,rfl,_,_,rfl,rfl,_,rfl,l,_,rfl,SqL.of (v3 _ _ ex6),fun q4 hq4=>?_⟩
 rw[yzk _ (show (0:Int)≤x1+1 by omega)]
 have v4:=v3.trans (yad hq4 (.lst (xs.drop (x1+1).toNat)))
 refine⟨q3,q4,_,_,rfl,rfl,yad hq4 _ _ _ yaa,yaa,Nat.le_of_lt (yau (by rw[List.length_append,List.length_take,List.length_drop];show _+1+_≤1000;omega)),fun q5 hq5=>?_⟩
 have v5:=v4.trans (yad hq5 (.lst (xs.take x1.toNat++[.ref p5]++xs.drop (x1+1).toNat)))
 have Y:=((((hx6.same v5).take x1.toNat).cat (Tups.one (v5 _ _ e6'))).cat ((hx6.same v5).drop (x1+1).toNat)).rows (yaa (H:=L2.upd (L2.upd (L2.upd (L2.upd H6 q1 (.lst (xs.take x1.toNat))) q2 (.lst [.ref p5])) q3 (.lst (xs.take x1.toNat++[.ref p5]))) q4 (.lst (xs.drop (x1+1).toNat))) (a:=q5))
 refine q q5 _ _ ((d6.same v4).ne hq5) (fun r' hr'=>?_) ?_ (d6.same v5) (((kb1.trans kb2).trans kb3).trans (k6.trans (KeepBut.of_same v5))) Y
 ·rcases List.mem_append.mp hr' with z|z
  ·rcases List.mem_append.mp z with z|z
   ·exact hrs r' (List.mem_of_mem_take z)
   ·rw[List.mem_singleton.mp z,List.length_append,List.length_append,List.length_take,List.length_drop]
    show _+1+_=_
    omega
  ·exact hrs r' (List.mem_of_mem_drop z)
 ·rw[List.length_append,List.length_append,List.length_take,List.length_drop,List.length_singleton];omega
theorem ykt (G_case:Cal P w K mg base CX0 3 "_law_case" ynq ytp) (G_spoilt:Cal P w K mg base CX0 3 "_law_spoilt" yhi ym1) (F:Fun K "_law_spoilt_case" "_law_spoilt_case" ycq f fd):FnOk P w K mg base CX0 4 f fd ydj ygf:=by
 refine F.ok sc_spoilt_case (fun vs H Q E h=>?_) (fun cdv A outer s H vs Q E hr h=>?_)
 ·obtain ⟨a,c,m,rfl,_⟩:=h;rfl
 obtain ⟨a,c,m,rfl,d,m0,m1,q⟩:=h
 refine⟨_,(yae (ych (yam G_case hr rfl ya1 (yaj (pv 0) (yaj (pv 1) yab))) (ya8 rfl (yag (yai (i:=2) sc_spoilt_case.nd rfl (Or.inl rfl)) (yag (yai (i:=3) sc_spoilt_case.nd rfl (Or.inl rfl)) (yag (yai (i:=4) sc_spoilt_case.nd rfl (Or.inl rfl)) yax)))))
  (yae (yb7 (yay yg7 (yam G_pick hr rfl ya1 (yaj (pv 0) (yaj yaf yab))) yaf (ya7 _)) (yah (yas (i:=2) sc_spoilt_case.nd rfl (Or.inl rfl) (yam G_spoilt hr rfl ya1 (yaj (pv 0) (yaj (pv 2) (yaj yaf yab)))))) ya6)
  (yae (yb7 (yay yg7 (yam G_pick hr rfl ya1 (yaj (pv 0) (yaj yaf yab))) yaf (ya7 _)) (yah (yas (i:=3) sc_spoilt_case.nd rfl (Or.inl rfl) (yam G_spoilt hr rfl ya1 (yaj (pv 0) (yaj (pv 3) (yaj yaf yab)))))) ya6)
  (yae (yb7 (yay yg7 (yam G_pick hr rfl ya1 (yaj (pv 0) (yaj yaf yab))) yaf (ya7 _)) (yah (yas (i:=4) sc_spoilt_case.nd rfl (Or.inl rfl) (yam G_odd hr rfl ya1 (yaj (pv 0) yab)))) ya6)
  (yah (yat (ybd (yaj (pv 2) (yaj (pv 3) (yaj (pv 4) yab)))))))))),?_⟩
 refine⟨_,rfl,_,rfl,a,c,m,rfl,d,m0,by omega,fun t l o tm lo n sc ls os H2 hl ho nlo t0 t4 lo1 n6 h1000 sc0 sc1 hls hos lsn osn d2 kb2 R2l R2o ht=>?_⟩
 have nla:l≠a:=d.ne hl
 have noa:o≠a:=d.ne ho
 refine⟨t,_,rfl,SqT.of ht,rfl,_,_,rfl,_,_,rfl,_,_,rfl,rfl,?_⟩
 have h3:∀r∈ls,r.length=3:=fun r hr=>by obtain ⟨_,_,_,rfl,_⟩:=hls r hr;rfl
 have h2:∀r∈os,r.length=2:=fun r hr=>by obtain ⟨_,_,rfl,_⟩:=hos r hr;rfl
 have ln:ls.length≤31:=by omega
 have on:os.length≤31:=by omega
 clear hls hos lsn osn hl ho nlo ht t0 t4
 dsimp only
 refine yeh (fun σ H'=>∃l ls,σ=[some (.ref a),some (.int m),some (.ref l),some (.ref o),some (.int tm)]∧l≠a∧(∀r∈ls,r.length=3)∧ls.length≤31∧DrawAt H' a c∧KeepBut a H H'∧Rows H' l ls∧Rows H' o os) (fun D' nx _=>?_) ?_
 ·refine⟨_,rfl,a,c,3,rfl,d2,by decide,by decide,fun y H3 y0 y1 d3 kb3=>⟨rfl,_,rfl,?_⟩⟩
  refine ys9 (fun _=>?_) (fun _=>nx _ _ ⟨_,_,rfl,nla,h3,ln,d3,kb2.trans kb3,R2l.keep nla d2 kb3,R2o.keep noa d2 kb3⟩)
  refine⟨_,rfl,_,rfl,a,c,l,3,ls,rfl,d3,R2l.keep nla d2 kb3,nla,.inr rfl,h3,ln,fun l' rs' H4 n4 h4 ln4 d4 kb4 R4=>?_⟩
  exact nx _ _ ⟨_,_,rfl,n4,h4,ln4,d4,(kb2.trans kb3).trans kb4,R4,(R2o.keep noa d2 kb3).keep noa d3 kb4⟩
 clear nla h3 ln R2l R2o d2 kb2
 rintro σ H2 ⟨l,ls,rfl,nla,h3,ln,d2,kb2,R2l,R2o⟩
 refine yeh (fun σ H'=>∃o os,σ=[some (.ref a),some (.int m),some (.ref l),some (.ref o),some (.int tm)]∧o≠a∧(∀r∈os,r.length=2)∧os.length≤31∧DrawAt H' a c∧KeepBut a H H'∧Rows H' l ls∧Rows H' o os) (fun D' nx _=>?_) ?_
 ·refine⟨_,rfl,a,c,3,rfl,d2,by decide,by decide,fun y H3 y0 y1 d3 kb3=>⟨rfl,_,rfl,?_⟩⟩
  refine ys9 (fun _=>?_) (fun _=>nx _ _ ⟨_,_,rfl,noa,h2,on,d3,kb2.trans kb3,R2l.keep nla d2 kb3,R2o.keep noa d2 kb3⟩)
  refine⟨_,rfl,_,rfl,a,c,o,2,os,rfl,d3,R2o.keep noa d2 kb3,noa,.inl rfl,h2,on,fun l' rs' H4 n4 h4 ln4 d4 kb4 R4=>?_⟩
  exact nx _ _ ⟨_,_,rfl,n4,h4,ln4,d4,(kb2.trans kb3).trans kb4,(R2l.keep nla d2 kb3).keep nla d3 kb4,R4⟩
 clear noa h2 on R2l R2o d2 kb2
 rintro σ H2 ⟨o,os,rfl,noa,h2,on,d2,kb2,R2l,R2o⟩
 refine yeh (fun σ H'=>∃tm,σ=[some (.ref a),some (.int m),some (.ref l),some (.ref o),some (.int tm)]∧DrawAt H' a c∧KeepBut a H H'∧Rows H' l ls∧Rows H' o os) (fun D' nx _=>?_) ?_
 ·refine⟨_,rfl,a,c,4,rfl,d2,by decide,by decide,fun y H3 y0 y1 d3 kb3=>⟨rfl,_,rfl,?_⟩⟩
  refine ys9 (fun _=>?_) (fun _=>nx _ _ ⟨_,rfl,d3,kb2.trans kb3,R2l.keep nla d2 kb3,R2o.keep noa d2 kb3⟩)
  refine⟨_,rfl,a,c,rfl,d3,fun y H4 d4 kb4=>?_⟩
  exact nx _ _ ⟨_,rfl,d4,(kb2.trans kb3).trans kb4,(R2l.keep nla d2 kb3).keep nla d3 kb4,(R2o.keep noa d2 kb3).keep noa d3 kb4⟩
 rintro σ H3 ⟨tm,rfl,d3,kb3,R3l,R3o⟩
 refine⟨_,rfl,_,rfl,_,rfl,by show 3≤sizeLine;decide,fun tq htq=>?_⟩
 have sQ:=yad (H:=H3) htq (.tup [.ref l,.ref o,.int tm])
 exact q tq l o tm ls os _ nla noa h3 h2 ln on (d3.same sQ) (kb3.trans (KeepBut.of_same sQ)) (R3l.same sQ) (R3o.same sQ) yaa
end
end K28
namespace K28
open PySem L2
abbrev yef:Stmt:=top 65
abbrev yos:List Str:=["_law_rows"]
abbrev ygg:List Str:=["_law_rows"]
theorem ysh:FnScope yos ygg (yac yef):=⟨rfl,rfl,rfl,by decide +kernel,rfl,by decide +kernel,by decide +kernel⟩
abbrev yfl:Str:=("_law_eldest" : Str) ++ ".<locals>." ++ "<lambda>"
abbrev yfm:PySem.Pos:=za7 yef
abbrev yli:Stmt:=top 66
abbrev za9:List Str:=["_law_lots","_law_outs","_law_term","_law_taken","_law_left","_law_found","_law_order","_law_out","_law_day","_law_count","_law_lot","_law_some"]
abbrev yot:List Str:=["_law_lots","_law_outs","_law_term","_law_taken"]
theorem sc_deal:FnScope za9 yot (yac yli):=⟨rfl,rfl,rfl,by decide +kernel,rfl,by decide +kernel,by decide +kernel⟩
section
variable {P:Program}{w:World}{K:PySem.W.Frag}{mg:Str→Option Value}{base:Heap}{f c PT:Addr}{fd:FuncData}{tb:Tbs}(B:Bn mg)
include B
theorem ysi (BM:ymz mg base) (hc:fd.code = .ref c) (hC:PySem.W.codeHdIn K c PT=true) (ht:(PT,yfl,yfm)∈tb) (F:Fun K "_law_eldest" "_law_eldest" yef f fd):FnOk P w K mg base CX0 1 f fd ygg (yuw tb yki okE):=by
 refine F.okC hc ysh (fun vs H Q E h=>?_) (fun A outer s H vs Q E hr h=>?_)
 ·obtain ⟨a,rs,rfl,_⟩:=h;rfl
 obtain ⟨a,rs,rfl,hT,hR,h60,hok,q⟩:=h
 refine⟨_,(yah (yat (ywy (N':=["_law_at","_law_rows"]) (ix:=[none,some 0]) (p := "_law_at") (tb:=(ys1 (ybn (tOp (yvj K) (tOp (zbw K) (ycc 1) (ycc 0)) (tC (.int 0))) (ybn (ycc 0) yky)))) hr (yaj (yfb (yl5 rfl) rfl B.list PyProof.Rows.boot_list (yaj (yfb yt1 rfl B.range PyProof.Rows.boot_range (yaj (yaq yar rfl B.len PySem.boot_len (yaj (pv 0) yab)) yab)) yab)) yab) rfl B.sorted PyProof.Rows.boot_sorted rfl rfl hC BM rfl rfl (yuv (N:=yos) (D:=yac yef) (by decide +kernel)) (fun _ _ _ _ _=>rfl) (fun A f c s H=>(ybd (yaj (yba ybt (yba ya2 (pv 1) (pv 0) (fun _ _=>rfl)) yaf (fun _ _=>rfl)) (yaj (pv 0) yab))))))),?_⟩
 obtain ⟨xs,ex,hx⟩:=hR.tups
 have lx:=hx.1
 refine⟨_,rfl,a,xs,rfl,.inl (SqL.of ex),(xs.length:Int),rfl,fun g hg=>?_⟩
 refine⟨g,xs.length,rfl,yaa,by omega,fun l hl=>?_⟩
 have sg:=yad (H:=H) hg (.rng 0 (xs.length:Int))
 have sl:=yad hl (.lst ((ydl xs.length).map V.int))
 have s1:=sg.trans sl
 refine⟨l,ydl xs.length,yki rs,2,rfl,yaa,by rw[ybe];omega,s1 _ _ (hT _ ht),by decide,fun n hn=>rfl,fun n hn H2 h2=>?_,fun D ms H' hD hp ho s2 e2=>?_⟩
 ·obtain ⟨n0,n1⟩:=uptoN_mem.mp hn
  obtain ⟨k,rfl⟩ : ∃k:Nat,n=(k:Int):=⟨n.toNat,by omega⟩
  have hk:k<xs.length:=by omega
  obtain ⟨p,r,ep,er,hp⟩:=hx.at (List.getElem?_eq_getElem hk)
  have eix:atI xs (k:Int)=some (.ref p):=ycz (by rw[List.getElem?_eq_getElem hk,ep])
  obtain ⟨d,r',rfl⟩ : ∃d r',r=d::r':=by
   match r,hok r (List.mem_of_getElem? er) with
   |d::r',_=>exact⟨d,r',rfl⟩
  have ex2:H2 a=some (.lst xs):=h2 _ _ (s1 _ _ ex) (by intro z;cases z) (by intro z;cases z)
  have hp2:H2 p=some (.tup ((d::r').map V.int)):=h2 _ _ (s1 _ _ hp) (by intro z;cases z) (by intro z;cases z)
  refine⟨_,rfl,_,rfl,a,xs,_,.ref p,rfl,rfl,SqL.of ex2,eix,p,_,_,.int d,rfl,rfl,SqT.of hp2,ylz (by decide) rfl,_,rfl,by show 2≤sizeLine;decide,fun t ht=>⟨t,rfl,yad ht _,?_⟩⟩
  have e2:yki rs ((k:Nat):Int)=[d,(k:Int)]:=by
   unfold yki yav
   rw[yfd er];rfl
  rw[e2]
  exact yaa
 ·rw[lx] at hp
  exact q D ms H' (s1.free hD) (s1.trans s2) ⟨hp,ho⟩ e2
theorem yzm (G_eldestL:Cal P w K mg base CX0 1 "_law_eldest" ygg (yuw tb yki okE)) (F:Fun K "_law_deal" "_law_deal" yli f fd):FnOk P w K mg base CX0 2 f fd yot (yp1 tb):=by
 refine F.ok sc_deal (fun vs H Q E h=>?_) (fun cdv A outer s H vs Q E hr h=>?_)
 ·obtain ⟨a,b,t,tm,rs,os,ts,rfl,_⟩:=h;rfl
 obtain ⟨a,b,t,tm,rs,os,ts,rfl,hTb,hR,h3,rn,hO,h2,on,hT,hl,q⟩:=h
 refine⟨_,(yae (yas (i:=4) sc_deal.nd rfl (Or.inl rfl) (yfb ye1 rfl B.list PyProof.Rows.boot_list (yaj (pv 3) yab)))
  (yae (yas (i:=5) sc_deal.nd rfl (Or.inl rfl) (yb5 yab))
  (yae (yas (i:=6) sc_deal.nd rfl (Or.inl rfl) (yam G_eldestL hr rfl ya1 (yaj (pv 0) yab)))
  (yae (ycr PassesOwn.never rfl (ya9 (yam G_eldestL hr rfl ya1 (yaj (pv 1) yab))) (yai (i:=7) sc_deal.nd rfl (Or.inl rfl)) (yae (ych (yba ya2 (pv 1) (pv 7) (fun _ _=>rfl)) (ya8 rfl (yag (yai (i:=8) sc_deal.nd rfl (Or.inl rfl)) (yag (yai (i:=9) sc_deal.nd rfl (Or.inl rfl)) yax))))
   (yah (ycr PassesOwn.never rfl (ya9 (pv 6)) (yai (i:=10) sc_deal.nd rfl (Or.inl rfl)) (yae (yas (i:=11) sc_deal.nd rfl (Or.inl rfl) (yaq (ync rfl) rfl B.min PyProof.Rows.boot_min (yaj (pv 9) (yaj (yba ya2 (pv 4) (pv 10) (fun _ _=>rfl)) yab))))
    (yah (yb7 (PW.pt (ym8 (yay ylr (pv 11) yaf (ya7 _)) (ym8 (yay ydk (ybh yi0 (pv 8) (pv 2)) (yba ybt (yba ya2 (pv 0) (pv 10) (fun _ _=>rfl)) yaf (fun _ _=>rfl)) (ya7 _)) (ylp (yay ydk (yba ybt (yba ya2 (pv 0) (pv 10) (fun _ _=>rfl)) yaf (fun _ _=>rfl)) (pv 8) (ya7 _)))))) (yae (ybm (ylv PySem.F.plainAttrs_list PySem.F.slot_list_append PySem.F.type_list_append ydd (pv 5) (yaj (ybd (yaj (pv 10) (yaj (pv 7) (yaj (pv 11) yab)))) yab)))
     (yae (ych (ybh yi0 (yba ya2 (pv 4) (pv 10) (fun _ _=>rfl)) (pv 11)) (yg3 (pv 4) (pv 10) ydc))
     (yah (yas (i:=9) sc_deal.nd rfl (Or.inl rfl) (ybh yi0 (pv 9) (pv 11)))))) ya6)))))))
  (yah (yat (ybd (yaj (pv 5) (yaj (yaq (yf3 rfl) rfl B.sum PyProof.Rows.boot_sum (yaj (pv 4) yab)) yab))))))))),?_⟩
 refine⟨_,rfl,t,_,rfl,.inl (SqL.of hT),fun lf hlf=>?_⟩
 have s1:=yad (H:=H) hlf (.lst (ts.map V.int))
 have I1:ybf (L2.upd H lf (.lst (ts.map V.int))) lf ts:=yaa
 generalize L2.upd H lf (.lst (ts.map V.int))=H1 at *
 refine⟨by show 0≤sizeLine;decide,fun tl htl=>?_⟩
 have s2:=yad (H:=H1) htl (.lst [])
 have I2:ybf (L2.upd H1 tl (.lst [])) lf ts:=s2 _ _ I1
 have R2:Rows (L2.upd H1 tl (.lst [])) tl []:=Rows.nil yaa
 have htl0:H tl=none:=s1.free htl
 have nlt:lf≠tl:=yak I1 htl
 generalize L2.upd H1 tl (.lst [])=H2 at *
 have s12:=s1.trans s2
 refine⟨_,rfl,a,rs,rfl,hTb.same s12,hR.same s12,by omega,fun r hr=>by unfold okE;rw[h3 r hr];decide,fun ag ages H3 hag s3 hages e3=>?_⟩
 have s13:=s12.trans s3
 have I3:ybf H3 lf ts:=s3 _ _ I2
 have R3:=R2.same s3
 have nla:lf≠ag:=yak I2 hag
 have nta:tl≠ag:=by obtain ⟨z,ez,_⟩:=R2.get;exact yak ez hag
 have lag:ages.length=rs.length:=by rw[hages.1.length_eq,ybe]
 refine⟨_,rfl,b,os,rfl,hTb.same s13,hO.same s13,by omega,fun r hr=>by unfold okE;rw[h2 r hr];decide,fun ol outs H4 hol s4 houts e4=>?_⟩
 have lou:outs.length=os.length:=by rw[houts.1.length_eq,ybe]
 have nlo:lf≠ol:=yak I3 hol
 have nto:tl≠ol:=by obtain ⟨z,ez,_⟩:=R3.get;exact yak ez hol
 have s14:=s13.trans s4
 refine⟨ol,rfl,⟨_,SqL.of e4⟩,?_⟩
 refine ydb (xs:=outs.map V.int) (fun i σ H5=>∃o7 o8 o9 o10 o11,σ=[some (.ref a),some (.ref b),some (.int tm),some (.ref t),some (.ref lf),some (.ref tl),some (.ref ag),o7,o8,o9,o10,o11]∧Same H H5∧H5 ol=some (.lst (outs.map V.int))∧H5 ag=some (.lst (ages.map V.int))∧ybf H5 lf ((outs.take i).foldl (yox rs os tm ages) (ts,[])).1∧Rows H5 tl ((outs.take i).foldl (yox rs os tm ages) (ts,[])).2) ⟨_,_,_,_,_,rfl,s14,e4,s4 _ _ e3,s4 _ _ I3,R3.same s4⟩ ?_ ?_ ?_
 ·rintro i σ H5 hi ⟨o7,o8,o9,o10,o11,rfl,sm,e5,_⟩
  exact SqL.of e5
 ·rintro i x σ H5 exi ⟨o7,o8,o9,o10,o11,rfl,sm,e5,a5,I5,R5⟩
  obtain ⟨j',rfl,ej⟩:=yc1 exi
  have hj:=uptoN_mem.mp (houts.1.mem_iff.mp (List.mem_of_getElem? ej))
  obtain ⟨j,rfl⟩ : ∃k:Nat,j'=(k:Int):=⟨j'.toNat,by omega⟩
  obtain ⟨xs,ex,hx⟩:=hR.tups
  obtain ⟨ys,ey,hy⟩:=hO.tups
  have lx:=hx.1
  have ly:=hy.1
  have hjy:j<ys.length:=by omega
  obtain ⟨po,r,ep,er,hpo⟩:=hy.at (List.getElem?_eq_getElem hjy)
  obtain ⟨dd,cc,rfl⟩:=ypb (h2 r (List.mem_of_getElem? er))
  have c0:yav os 0 (j:Int)=dd:=by unfold yav;rw[yfd er];rfl
  have c1:yav os 1 (j:Int)=cc:=by unfold yav;rw[yfd er];rfl
  have eix:atI ys (j:Int)=some (.ref po):=ycz (by rw[List.getElem?_eq_getElem hjy,ep])
  refine⟨_,rfl,_,rfl,b,ys,_,.ref po,rfl,rfl,SqL.of (sm _ _ ey),eix,po,_,rfl,SqT.of (sm _ _ hpo),rfl,_,_,rfl,_,_,rfl,rfl,?_⟩
  have fold:(outs.take (i+1)).foldl (yox rs os tm ages) (ts,[])=(ages.foldl (ycx rs tm dd (j:Int)) (cc,((outs.take i).foldl (yox rs os tm ages) (ts,[])).1,((outs.take i).foldl (yox rs os tm ages) (ts,[])).2)).2:=by
   rw[ybb ej,List.foldl_append]
   show yox rs os tm ages _ (j:Int)=_
   unfold yox
   rw[c0,c1]
  rw[fold]
  have len:=yj9 (rs:=rs) (os:=os) (tm:=tm) (ages:=ages) (outs.take i) (ts,[])
  have ypb:=ylh (rs:=rs) (os:=os) (tm:=tm) (ages:=ages) (outs.take i) (ts,[])
  have li:(outs.take i).length≤30:=by rw[List.length_take];have:=(List.getElem?_eq_some_iff.mp ej).1;omega
  generalize ((outs.take i).foldl (yox rs os tm ages) (ts,[])).1=left at *
  generalize ((outs.take i).foldl (yox rs os tm ages) (ts,[])).2=told at *
  have tlen:told.length≤930:=by
   have h9:(outs.take i).length*ages.length≤30*31:=Nat.mul_le_mul li (by omega)
   have h0:([]:List (List Int)).length=0:=rfl
   dsimp only at ypb
   omega
  have llen:left.length=rs.length:=len.trans hl
  clear fold len ypb
  refine⟨_,rfl,ag,rfl,⟨_,SqL.of a5⟩,?_⟩
  refine ydb (xs:=ages.map V.int) (fun k σ H7=>∃o10 o11,σ=[some (.ref a),some (.ref b),some (.int tm),some (.ref t),some (.ref lf),some (.ref tl),some (.ref ag),some (.int (j:Int)),some (.int dd),some (.int ((ages.take k).foldl (ycx rs tm dd (j:Int)) (cc,left,told)).1),o10,o11]∧Same H H7∧H7 ol=some (.lst (outs.map V.int))∧H7 ag=some (.lst (ages.map V.int))∧ybf H7 lf ((ages.take k).foldl (ycx rs tm dd (j:Int)) (cc,left,told)).2.1∧Rows H7 tl ((ages.take k).foldl (ycx rs tm dd (j:Int)) (cc,left,told)).2.2) ⟨_,_,rfl,sm,e5,a5,I5,R5⟩ ?_ ?_ ?_
  ·rintro k σ H7 hk ⟨o10,o11,rfl,s7,_,a7,_⟩
   exact SqL.of a7
  ·rintro k x σ H7 exk ⟨o10,o11,rfl,s7,e7,a7,I7,R7⟩
   obtain ⟨v',rfl,ev⟩:=yc1 exk
   have hv:=uptoN_mem.mp (hages.1.mem_iff.mp (List.mem_of_getElem? ev))
   obtain ⟨v,rfl⟩ : ∃k:Nat,v'=(k:Int):=⟨v'.toNat,by omega⟩
   have fl:=yhh (rs:=rs) (tm:=tm) (e:=dd) (j:=(j:Int)) (ages.take k) (cc,left,told)
   have ft:=yh9 (rs:=rs) (tm:=tm) (e:=dd) (j:=(j:Int)) (ages.take k) (cc,left,told)
   have kl:k<ages.length:=(List.getElem?_eq_some_iff.mp ev).1
   have tk:(ages.take k).length=k:=by rw[List.length_take];omega
   have next:(ages.take (k+1)).foldl (ycx rs tm dd (j:Int)) (cc,left,told)=ycx rs tm dd (j:Int) ((ages.take k).foldl (ycx rs tm dd (j:Int)) (cc,left,told)) (v:Int):=by
    rw[ybb ev,List.foldl_append];rfl
   rw[next]
   generalize (ages.take k).foldl (ycx rs tm dd (j:Int)) (cc,left,told)=st at *
   obtain ⟨wt,lft,tld⟩:=st
   dsimp only at fl ft I7 R7 ⊢
   have hvx:v<xs.length:=by omega
   obtain ⟨pl,rl,epl,erl,hpl⟩:=hx.at (List.getElem?_eq_getElem hvx)
   obtain ⟨ld,lc,lu,rfl⟩:=yl2 (h3 rl (List.mem_of_getElem? erl))
   have l0:yav rs 0 (v:Int)=ld:=by unfold yav;rw[yfd erl];rfl
   have eil:atI xs (v:Int)=some (.ref pl):=ycz (by rw[List.getElem?_eq_getElem hvx,epl])
   have hvl:v<lft.length:=by omega
   have eiv:atI (lft.map V.int) (v:Int)=some (.int lft[v]):=yqo rfl hvl
   have gv:lft.getD (v:Int).toNat 0=lft[v]:=by rw[Int.toNat_natCast,List.getD_eq_getElem?_getD,List.getElem?_eq_getElem hvl];rfl
   refine⟨_,rfl,_,rfl,_,rfl,lf,_,_,.int lft[v],rfl,rfl,SqL.of I7,eiv,_,_,rfl,?_⟩
   have em:(if lft[v]<wt then lft[v] else wt)=min wt lft[v]:=by
    split <;> omega
   rw[em]
   have hstep:ycx rs tm dd (j:Int) (wt,lft,tld) (v:Int)=if 0<min wt lft[v]∧dd-tm≤ld∧ld≤dd then (wt-min wt lft[v],lft.set v (lft[v]-min wt lft[v]),tld++[[(v:Int),(j:Int),min wt lft[v]]]) else (wt,lft,tld):=by
    unfold ycx
    dsimp only
    rw[gv,l0,Int.toNat_natCast]
   rw[hstep]
   generalize hm:min wt lft[v]=m
   refine⟨_,rfl,_,_,rfl,rfl,_,rfl,?_⟩
   by_cases c:0<m
   ·rw[decide_eq_true c]
    refine ycl ⟨_,rfl,_,rfl,_,_,rfl,rfl,_,rfl,_,rfl,a,xs,_,.ref pl,rfl,rfl,SqL.of (s7 _ _ ex),eil,pl,_,_,.int ld,rfl,rfl,SqT.of (s7 _ _ hpl),rfl,_,_,rfl,rfl,_,rfl,?_⟩
    by_cases d1:dd-tm≤ld
    ·rw[decide_eq_true d1]
     refine ycl ⟨_,rfl,_,rfl,a,xs,_,.ref pl,rfl,rfl,SqL.of (s7 _ _ ex),eil,pl,_,_,.int ld,rfl,rfl,SqT.of (s7 _ _ hpl),rfl,_,rfl,_,_,rfl,rfl,_,rfl,?_⟩
     by_cases d2:ld≤dd
     ·rw[decide_eq_true d2,if_pos ⟨c,d1,d2⟩]
      refine ycl ?_
      obtain ⟨zs,ez,ezl,_⟩:=R7.get
      refine⟨_,rfl,.inl ⟨rfl,_,SqL.of ez⟩,?_⟩
      refine⟨_,rfl,_,rfl,_,rfl,by show 3≤sizeLine;decide,fun tp htp=>?_⟩
      refine⟨tl,zs,.ref tp,rfl,rfl,by rw[yal (yak ez htp)];exact ez,yau (by omega),?_⟩
      have sT:=yad (H:=H7) htp (.tup [.int (v:Int),.int (j:Int),.int m])
      have R8:Rows (L2.upd (L2.upd H7 tp (.tup [.int (v:Int),.int (j:Int),.int m])) tl (.lst (zs++[.ref tp]))) tl (tld++[[(v:Int),(j:Int),m]]):=R7.push (r:=[(v:Int),(j:Int),m]) ez htp
      have s8:Same H (L2.upd (L2.upd H7 tp (.tup [.int (v:Int),.int (j:Int),.int m])) tl (.lst (zs++[.ref tp]))):=(s7.trans sT).young htl0
      have I8:ybf (L2.upd (L2.upd H7 tp (.tup [.int (v:Int),.int (j:Int),.int m])) tl (.lst (zs++[.ref tp]))) lf lft:=by unfold ybf;rw[yal nlt];exact sT _ _ I7
      have e8:L2.upd (L2.upd H7 tp (.tup [.int (v:Int),.int (j:Int),.int m])) tl (.lst (zs++[.ref tp])) ol=some (.lst (outs.map V.int)):=by rw[yal nto.symm];exact sT _ _ e7
      have a8:L2.upd (L2.upd H7 tp (.tup [.int (v:Int),.int (j:Int),.int m])) tl (.lst (zs++[.ref tp])) ag=some (.lst (ages.map V.int)):=by rw[yal nta.symm];exact sT _ _ a7
      generalize L2.upd (L2.upd H7 tp (.tup [.int (v:Int),.int (j:Int),.int m])) tl (.lst (zs++[.ref tp]))=H8 at *
      refine⟨_,rfl,_,rfl,lf,_,_,.int lft[v],rfl,rfl,SqL.of I8,eiv,_,rfl,_,_,rfl,rfl,?_⟩
      refine⟨_,rfl,_,rfl,lf,_,(v:Int),v,rfl,rfl,I8,by unfold ixN;rw[List.length_map,if_pos (by omega),Int.toNat_natCast,if_pos (by omega)],?_⟩
      refine⟨_,rfl,_,rfl,_,_,rfl,rfl,?_⟩
      obtain ⟨ws,ew,hw⟩:=R8.tups
      refine⟨_,_,rfl,s8.young hlf,?_,?_,?_,?_⟩
      ·rw[yal nlo.symm];exact e8
      ·rw[yal nla.symm];exact a8
      ·unfold ybf
       rw[yaa,List.map_set]
      ·refine Tups.rows (xs:=ws) (hw.but I8 fun b o hb e=>by rw[yal hb];exact e) ?_
       rw[yal nlt.symm];exact ew
     ·rw[decide_eq_false d2,if_neg (fun z=>d2 z.2.2)]
      exact yct ⟨_,_,rfl,s7,e7,a7,I7,R7⟩
    ·rw[decide_eq_false d1,if_neg (fun z=>d1 z.2.1)]
     exact yct (yct ⟨_,_,rfl,s7,e7,a7,I7,R7⟩)
   ·rw[decide_eq_false c,if_neg (fun z=>c z.1)]
    exact yct (yct ⟨_,_,rfl,s7,e7,a7,I7,R7⟩)
  ·rintro σ H7 ⟨o10,o11,rfl,s7,e7,a7,I7,R7⟩
   rw[List.length_map,List.take_length] at I7 R7
   exact⟨_,_,_,_,_,rfl,s7,e7,a7,I7,R7⟩
 ·rintro σ H5 ⟨o7,o8,o9,o10,o11,rfl,sm,e5,a5,I5,R5⟩
  rw[List.length_map,List.take_length] at I5 R5
  refine⟨_,rfl,_,rfl,lf,_,rfl,SqL.of I5,by show 2≤sizeLine;decide,fun qq hqq=>?_⟩
  exact q qq tl ages outs _ (sm.free hqq) htl0 hages houts (sm.trans (yad hqq _)) (R5.same (yad hqq _)) yaa
end
end K28
namespace L2
open PySem
abbrev Few:=List (Int×List (List Int))
def fAt (few:Few)(k:Nat):Int×List (List Int):=few.getD k (0,[])
def yw9 (d:Int)(r:List Int):Bool:=decide (V.int (r.getD 0 0)=V.int d)
def yrc (W:Int→Int→Int)(few:Few)(last:Int)(b:Int×List (List Int))(k:Nat)(first:Int):Int×List (List Int):=
 if (fAt few k).1+W first last<b.1 then ((fAt few k).1+W first last,(fAt few k).2++[[first,last]]) else b
def yva (W:Int→Int→Int)(few:Few)(last:Int)(ds:List Int)(b:Int×List (List Int)):Nat→Int×List (List Int)
 |0=>b
 |i+1=>yrc W few last (yva W few last ds b i) i (ds.getD i 0)
def yd2 (rs:List (List Int))(few:Few)(ds:List Int)(k:Nat):Int×List (List Int):=((fAt few k).1+yfr (rs.filter (yw9 (ds.getD k 0))),(fAt few k).2)
def yb0 (rs:List (List Int))(W:Int→Int→Int)(ds:List Int):Nat→Few
 |0=>[(0,[])]
 |k+1=>yb0 rs W ds k++[yva W (yb0 rs W ds k) (ds.getD k 0) ds (yd2 rs (yb0 rs W ds k) ds k) (k+1)]
def yp5 (rs:List (List Int))(W:Int→Int→Int)(ds:List Int):List (List Int):=(fAt (yb0 rs W ds ds.length) ds.length).2
theorem yhj (rs:List (List Int))(W:Int→Int→Int)(ds:List Int):∀k,(yb0 rs W ds k).length=k+1
 |0=>rfl
 |k+1=>by show (_++[_]).length=_;rw[List.length_append,yhj rs W ds k];rfl
theorem yxa {few:Few}{e:Int×List (List Int)}{j:Nat}(h:j<few.length):fAt (few++[e]) j=fAt few j:=by
 unfold fAt;rw[List.getD_eq_getElem?_getD,List.getElem?_append_left h,← List.getD_eq_getElem?_getD]
theorem yxb {few:Few}{e:Int×List (List Int)}{j:Nat}(h:few.length=j):fAt (few++[e]) j=e:=by
 subst h
 unfold fAt;rw[List.getD_eq_getElem?_getD,List.getElem?_append_right (Nat.le_refl _),Nat.sub_self];rfl
theorem you {W:Int→Int→Int}{few:Few}{last:Int}{ds:List Int}{b:Int×List (List Int)}{n:Nat}(p:Int×List (List Int)→Prop)(h0:p b)(hs:∀c j,j<n→p c→p (yrc W few last c j (ds.getD j 0))):∀i,i≤n→p (yva W few last ds b i)
 |0,_=>h0
 |i+1,h=>hs _ _ (by omega) (you p h0 hs i (by omega))
theorem yx0 (rs:List (List Int))(W:Int→Int→Int)(ds:List Int):∀k j,j≤k→(fAt (yb0 rs W ds k) j).2.length≤j
 |0,j,h=>by
  have:j=0:=by omega
  subst this;exact Nat.le_refl _
 |k+1,j,h=>by
  have ih:=yx0 rs W ds k
  have ll:=yhj rs W ds k
  show (fAt (yb0 rs W ds k++[_]) j).2.length≤j
  by_cases z:j≤k
  ·rw[yxa (by omega)];exact ih j z
  ·have:j=k+1:=by omega
   subst this
   rw[yxb ll]
   refine you (n:=k+1) (fun c=>c.2.length≤k+1) ?_ (fun c i hi hc=>?_) (k+1) (Nat.le_refl _)
   ·have:=ih k (Nat.le_refl _)
    show (fAt (yb0 rs W ds k) k).2.length≤k+1
    omega
   ·unfold yrc
    split
    ·show (_++[_]).length≤k+1
     rw[List.length_append]
     have:=ih i (by omega)
     have z1:[[ds.getD i 0,ds.getD k 0]].length=1:=rfl
     omega
    ·exact hc
def FewX (H0:Hp)(fw:Addr)(H:Hp)(xs:List V)(few:Few):Prop:=xs.length=few.length∧∀(i:Nat) x,xs[i]? = some x→∃p st,x = .ref p∧H p=some (.tup [.int (fAt few i).1,.ref st])∧Rows H st (fAt few i).2∧st≠fw∧H0 st=none
theorem FewX.same {H0:Hp}{fw:Addr}{H H':Hp}{xs:List V}{few:Few}(h:FewX H0 fw H xs few)(s:Same H H'):FewX H0 fw H' xs few:=⟨h.1,fun i x e=>by
 obtain ⟨p,st,h1,h2,h3,h4,h5⟩:=h.2 i x e
 exact⟨p,st,h1,s _ _ h2,h3.same s,h4,h5⟩⟩
theorem FewX.push {H0:Hp}{fw:Addr}{H:Hp}{xs:List V}{few:Few}{p st:Addr}{e:Int×List (List Int)}(h:FewX H0 fw H xs few)(hf:H fw=some (.lst xs))(hp:H p=some (.tup [.int e.1,.ref st]))(hs:Rows H st e.2)(ns:st≠fw)(h0:H0 st=none) :
 FewX H0 fw (L2.upd H fw (.lst (xs++[.ref p]))) (xs++[.ref p]) (few++[e]):=by
 have bt:∀b o,b≠fw→H b=some o→L2.upd H fw (.lst (xs++[.ref p])) b=some o:=fun b o hb e=>by rw[yal hb];exact e
 have nt:∀{q:Addr}{z:List V},H q=some (.tup z)→q≠fw:=fun hq z=>by rw[z,hf] at hq;cases hq
 refine⟨by rw[List.length_append,List.length_append,h.1];rfl,fun i x ei=>?_⟩
 by_cases hi:i<xs.length
 ·rw[List.getElem?_append_left hi] at ei
  obtain ⟨q,s',h1,h2,h3,h4,h5⟩:=h.2 i x ei
  have ef:fAt (few++[e]) i=fAt few i:=by unfold fAt;rw[List.getD_eq_getElem?_getD,List.getElem?_append_left (by rw[← h.1];exact hi),← List.getD_eq_getElem?_getD]
  rw[ef]
  exact⟨q,s',h1,bt _ _ (nt h2) h2,h3.but bt (.inr ⟨_,hf⟩) h4,h4,h5⟩
 ·have:i=xs.length:=by
   have:=(List.getElem?_eq_some_iff.mp ei).1
   rw[List.length_append] at this
   have z:[V.ref p].length=1:=rfl
   omega
  subst this
  rw[List.getElem?_append_right (Nat.le_refl _),Nat.sub_self] at ei
  cases ei
  have ef:fAt (few++[e]) xs.length=e:=by unfold fAt;rw[List.getD_eq_getElem?_getD,List.getElem?_append_right (by rw[h.1];exact Nat.le_refl _),h.1,Nat.sub_self];rfl
  rw[ef]
  exact⟨p,st,rfl,bt _ _ (nt hp) hp,hs.but bt (.inr ⟨_,hf⟩) ns,ns,h0⟩
theorem zba {ks:List (Int×Int)}{W:Int→Int→Int}{f l:Int}(h:(f,l)∈ks):ypj (slk ks W) (yhe f l)=some (.int (W f l)):=by
 induction ks with
 |nil=>cases h
 |cons p ks ih=>
  show ypj ((yhe p.1 p.2,V.int (W p.1 p.2))::slk ks W) _=_
  by_cases c:yhe p.1 p.2=yhe f l
  ·rw[yiu c]
   unfold yhe at c
   have c1:p.1=f:=by injection c with c1 _;injection c1
   have c2:p.2=l:=by injection c with _ c2;injection c2 with c2 _;injection c2
   rw[c1,c2]
  ·rw[yiv c]
   rcases List.mem_cons.mp h with z|z
   ·rw[← z] at c;exact absurd rfl c
   ·exact ih z
theorem SlAt.get {H:Hp}{d b:Addr}{ks:List (Int×Int)}{W:Int→Int→Int}{f l:Int}(h:SlAt H d ks W)(hb:H b=some (.tup [.int f,.int l]))(hm:(f,l)∈ks):zbj H d (.ref b) (some (.int (W f l))):=by
 obtain ⟨o,e⟩:=h
 exact .inr ⟨_,yhe f l,b,.inr ⟨o,e⟩,rfl,hb,(zba hm).symm⟩
def yp6:Sp:=fun vs H Q _=>∃(a d:Addr) (rs:List (List Int)) (ks:List (Int×Int)) (W:Int→Int→Int),vs=[.ref a,.ref d]∧Rows H a rs∧(∀r∈rs,r.length=3)∧rs.length≤31∧SlAt H d ks W∧(∀r∈rs,∀r'∈rs,r.getD 0 0≤r'.getD 0 0→(r.getD 0 0,r'.getD 0 0)∈ks)∧
 ∀l ds H',H l=none→ydo rs ds→Same H H'→Rows H' l (yp5 rs W ds)→Q (.ref l) H'
def yp7 (rs:List (List Int))(cs:List Int)(u:Int):Int:=(((List.range rs.length).filter fun i=>yek u (rs.getD i [])).map fun i=>cs.getD i 0).sum
theorem yvb {K:PySem.W.Frag}{a b D:Addr}{xs ys:List V}{g:TG}{ti:TT}{te:TE}{σ₀:St}{H1:Hp}{R:Hp→Prop}(P:Nat→List V→Prop)(hD:H1 D=none)(hx:H1 a=some (.lst xs))(hy:H1 b=some (.lst ys))(hl:xs.length=ys.length)(hn:xs.length≤1000)(h0:P 0 [])
 (step:∀i x y zs H p,xs[i]? = some x→ys[i]? = some y→Same H1 H→P i zs→H p=none→∀(K1:V→Hp→Prop) (K2:Hp→Prop),(∀z H4,Same (upd H p (.tup [x,y])) H4→P (i+1) (zs++[z])→K1 z H4)→(∀H3,Same (upd H p (.tup [x,y])) H3→P (i+1) zs→K2 H3)→
  g (.ref p) σ₀ (upd H p (.tup [x,y])) fun σ2 H2=>(∀(k:Nat) v,σ₀[k]? = some (some v)→σ2[k]? = some (some v))∧ti σ2 H2 fun b H3=>if b=true then te σ2 H3 K1 else K2 H3)
 (fin:∀zs H,Same H1 H→P xs.length zs→zs.length≤xs.length→H D=some (.lst zs)→R H) :
 ∃W:Nat→Nat→Hp→Prop,(∃m,W 0 m (upd H1 D (.lst [])))∧∀i m H,W i m H→((Itz K true true a b).stop i H∧R H)∨((Itz K true true a b).go i H∧∀x H',(Itz K true true a b).yld i H x H'→g x σ₀ H' fun σ2 H2=>(∀(k:Nat) v,σ₀[k]? = some (some v)→σ2[k]? = some (some v))∧ti σ2 H2 fun b H3=>
  if b=true then te σ2 H3 fun y H4=>∃zs,H4 D=some (.lst zs)∧zs.length<sizeLine∧∃m',m' < m∧W (i+1) m' (upd H4 D (.lst (zs++[y]))) else ∃m',m' < m∧W (i+1) m' H3):=by
 refine⟨fun i m H=>i+m=xs.length∧Same H1 H∧∃zs,H D=some (.lst zs)∧zs.length≤i∧P i zs,⟨xs.length,by omega,yad hD _,[],yaa,Nat.le_refl _,h0⟩,?_⟩
 rintro i m H ⟨him,s1,zs,hz,hzl,hp⟩
 have ex:=s1 _ _ hx
 have ey:=s1 _ _ hy
 by_cases hi:i<xs.length
 ·refine .inr ⟨⟨xs,ys,_,_,SqL.of ex,SqL.of ey,List.getElem?_eq_getElem hi,List.getElem?_eq_getElem (by omega)⟩,?_⟩
  rintro v H' ⟨p,x,y,rfl,hp',rfl,hxy⟩
  obtain ⟨e1,e2⟩:=hxy xs ys (SqL.of ex) (SqL.of ey)
  have sp:=yad hp' (.tup [x,y])
  refine step i x y zs H p e1 e2 s1 hp hp' _ _ (fun z H4 s4 p4=>⟨zs,s4 _ _ (sp _ _ hz),yau (by omega),m-1,by omega,by omega,((s1.trans sp).trans s4).young hD,zs++[z],yaa,by rw[List.length_append,List.length_singleton];omega,p4⟩) fun H3 s3 p3=>⟨m-1,by omega,by omega,(s1.trans sp).trans s3,zs,s3 _ _ (sp _ _ hz),by omega,p3⟩
 ·have e:i=xs.length:=by omega
  subst e
  exact .inl ⟨⟨xs,ys,SqL.of ex,SqL.of ey,.inl (Nat.le_refl _)⟩,fin zs H s1 hp hzl hz⟩
theorem yvc {rs:List (List Int)}{cs:List Int}{u v:Int}{i:Nat}{r:List Int}(er:rs[i]? = some r)(ev:cs[i]? = some v):(((List.range (i+1)).filter fun i=>yek u (rs.getD i [])).map fun i=>cs.getD i 0)=(((List.range i).filter fun i=>yek u (rs.getD i [])).map fun i=>cs.getD i 0)++if yek u r=true then [v] else []:=by
 rw[List.range_succ,List.filter_append,List.map_append]
 congr 1
 have e1:rs.getD i []=r:=by rw[List.getD_eq_getElem?_getD,er];rfl
 have e2:cs.getD i 0=v:=by rw[List.getD_eq_getElem?_getD,ev];rfl
 rw[List.filter_cons,e1]
 split
 ·show [cs.getD i 0]=[v];rw[e2]
 ·rfl
def yhk:Sp:=fun vs H Q _=>∃(a c d:Addr) (u:Int) (rs:List (List Int)) (cs:List Int) (ks:List (Int×Int)) (W:Int→Int→Int),vs=[.ref a,.ref c,.ref d,.int u]∧Rows H a rs∧(∀r∈rs,r.length=3)∧rs.length≤31∧ybf H c cs∧cs.length=rs.length∧SlAt H d ks W∧(∀r∈rs,∀r'∈rs,r.getD 0 0≤r'.getD 0 0→(r.getD 0 0,r'.getD 0 0)∈ks)∧
 ∀t l ds H',H l=none→ydo (rs.filter (yek u)) ds→Same H H'→Rows H' l (yp5 (rs.filter (yek u)) W ds)→H' t=some (.tup [.int u,.int (yp7 rs cs u),.ref l])→Q (.ref t) H'
def zcv (H0:Hp)(D:Addr)(H:Hp)(xs:List V)(us:List Int)(rs os:List (List Int))(tm:Int)(cs:List Int):Prop:=xs.length=us.length∧∀(i:Nat) x u,xs[i]? = some x→us[i]? = some u→∃t l ds,x = .ref t∧H t=some (.tup [.int u,.int (yp7 rs cs u),.ref l])∧ydo (rs.filter (yek u)) ds∧Rows H l (yp5 (rs.filter (yek u)) (ybc os tm) ds)∧H0 l=none∧l≠D
def yrd (rs:List (List Int))(us:List Int):Prop:=us.Pairwise (fun x y=>y<x)∧(∀u,u∈us↔∃r∈rs,r.getD 2 0=u)∧us.length≤rs.length
def ym3 (cl:Nat→Addr):Sp:=fun vs H Q E=>∃(a b:Addr) (tm:Int) (rs os:List (List Int)),vs=[.ref a,.ref b,.int tm]∧Rows H a rs∧(∀r∈rs,r.length=3)∧Rows H b os∧(∀r∈os,r.length=2)∧
 (∀n,ybj rs os tm=some n→∀H',Same H H'→E (.ref (cl n)) none H')∧(ybj rs os tm=none→∀l xs us cs H',H l=none→BestIs rs os tm cs→yrd rs us→Same H H'→H' l=some (.lst xs)→zcv H l H' xs us rs os tm cs→Q (.ref l) H')
end L2
namespace K28
open PySem L2
abbrev yd3:Stmt:=top 56
abbrev ylj:List Str:=["lots","widths","days","fewest","many","last","units","stretches","least","ahead","first"]
abbrev yfn:List Str:=["lots","widths"]
theorem sc_tightest:FnScope ylj yfn (yac yd3):=⟨rfl,rfl,rfl,by decide +kernel,rfl,by decide +kernel,by decide +kernel⟩
abbrev yd4:Stmt:=top 57
abbrev ylk:List Str:=["lots","counts","widths","duty","units"]
abbrev yfo:List Str:=["lots","counts","widths","duty"]
theorem sc_paper_of:FnScope ylk yfo (yac yd4):=⟨rfl,rfl,rfl,by decide +kernel,rfl,by decide +kernel,by decide +kernel⟩
abbrev ye6:Stmt:=top 58
abbrev ym4:List Str:=["lots","outs","term","goods","gone","counts","widths","duties"]
abbrev yhl:List Str:=["lots","outs","term"]
theorem sc_papers:FnScope ym4 yhl (yac ye6):=⟨rfl,rfl,rfl,by decide +kernel,rfl,by decide +kernel,by decide +kernel⟩
section
variable {P:Program}{w:World}{K:PySem.W.Frag}{mg:Str→Option Value}{base:Heap}{f:Addr}{fd:FuncData}{cl:Nat→Addr}(T:Txt K mg cl)(B:Bn mg)
include T B
theorem yp8 (G_days_of:Cal P w K mg base CX0 1 "days_of" yfe yiw) (G_units_of:Cal P w K mg base CX0 1 "units_of" yem ymg) (F:Fun K "tightest" "tightest" yd3 f fd):FnOk P w K mg base CX0 2 f fd yfn yp6:=by
 refine F.ok sc_tightest (fun vs H Q E h=>?_) (fun cdv A outer s H vs Q E hr h=>?_)
 ·obtain ⟨a,d,rs,ks,W,rfl,_⟩:=h;rfl
 obtain ⟨a,d,rs,ks,W,rfl,hR,h3,hn,hW,hks,q⟩:=h
 refine⟨_,(yae (yas (i:=2) sc_tightest.nd rfl (Or.inl rfl) (yam G_days_of hr rfl ya1 (yaj (pv 0) yab)))
  (yae (yas (i:=3) sc_tightest.nd rfl (Or.inl rfl) (yb5 (yaj (ybd (yaj yaf (yaj (yb5 yab) yab))) yab)))
  (yae (ycr PassesOwn.never rfl (yi6 rfl B.enumerate (yaj (pv 2) yab)) (ya8 rfl (yag (yai (i:=4) sc_tightest.nd rfl (Or.inl rfl)) (yag (yai (i:=5) sc_tightest.nd rfl (Or.inr rfl)) yax))) (yae (ych (yba ya2 (pv 3) (pv 4) (fun _ _=>rfl)) (ya8 rfl (yag (yai (i:=6) sc_tightest.nd rfl (Or.inl rfl)) (yag (yai (i:=7) sc_tightest.nd rfl (Or.inl rfl)) yax))))
   (yae (yas (i:=8) sc_tightest.nd rfl (Or.inl rfl) (ybd (yaj (ybh ycs (pv 6) (yam G_units_of hr rfl ya1 (yaj (yc0 (N':=["lot","last"]) (ix:=[none,some 5]) (g:=(ybg 0)) (ti:=(yna (tOp rEq (tOp (yvj K) (ycc 0) (tC (.int 0))) (ycc 1)))) (te:=(ycc 0)) rfl (yaw (N:=ylj) (D:=yac yd3) (by decide +kernel)) (ya9 (pv 0)) (fun C s H fp=>(yai (i:=0) (show (["lot","last"]:List Str).Nodup by decide +kernel) rfl (Or.inl rfl))) (fun C s H fp=>(ye2 (yay yg7 (yba ybt (pv 0) yaf (fun _ _=>rfl)) (pv 1) (ya7 _)))) (fun C s H fp=>(pv 0))) yab))) (yaj (pv 7) yab))))
   (yae (ycr PassesOwn.never rfl (yi6 rfl B.enumerate (yaj (yd6 ygx (pv 2) ye7 (ye8 (ybh ycs (pv 4) yaf))) yab)) (ya8 rfl (yag (yai (i:=9) sc_tightest.nd rfl (Or.inl rfl)) (yag (yai (i:=10) sc_tightest.nd rfl (Or.inl rfl)) yax))) (yae (ych (yba ya2 (pv 3) (pv 9) (fun _ _=>rfl)) (ya8 rfl (yag (yai (i:=6) sc_tightest.nd rfl (Or.inl rfl)) (yag (yai (i:=7) sc_tightest.nd rfl (Or.inl rfl)) yax))))
    (yae (yxg (i:=6) sc_tightest.nd rfl (Or.inl rfl) (yyy (yz7 hr) (pv 1) (ybd (yaj (pv 10) (yaj (pv 5) yab))) (fun _ _=>rfl)) yxh)
    (yah (yb7 (yay yil (pv 6) (yba ybt (pv 8) yaf (fun _ _=>rfl)) (ya7 _)) (yah (yas (i:=8) sc_tightest.nd rfl (Or.inl rfl) (ybd (yaj (pv 6) (yaj (ybh yg8 (pv 7) (yb5 (yaj (ybd (yaj (pv 10) (yaj (pv 5) yab))) yab))) yab))))) ya6)))))
   (yah (ybm (ylv PySem.F.plainAttrs_list PySem.F.slot_list_append PySem.F.type_list_append ydd (pv 3) (yaj (pv 8) yab))))))))
  (yah (yat (yba ybt (yba ya2 (pv 3) (ysu ym9 yaf) (fun _ _=>rfl)) yaf (fun _ _=>rfl))))))),?_⟩
 obtain ⟨xs,ex,hx⟩:=hR.tups
 have lx:=hx.1
 refine⟨_,rfl,a,rs,rfl,hR,h3,by omega,fun dl ds H1 hdl hds s1 I1=>?_⟩
 have dn:=hds.2.2
 have inks:∀(i j:Nat),i≤j→j<ds.length→(ds.getD i 0,ds.getD j 0)∈ks:=fun i j hij hj=>by
  have ei:ds.getD i 0=ds[i]:=by rw[List.getD_eq_getElem?_getD,List.getElem?_eq_getElem (by omega)];rfl
  have ej:ds.getD j 0=ds[j]:=by rw[List.getD_eq_getElem?_getD,List.getElem?_eq_getElem hj];rfl
  obtain ⟨r,hr,er⟩:=(hds.2.1 ds[i]).mp (List.getElem_mem _)
  obtain ⟨r',hr',er'⟩:=(hds.2.1 ds[j]).mp (List.getElem_mem _)
  have le:ds[i]≤ds[j]:=by
   by_cases z:i=j
   ·subst z;exact Int.le_refl _
   ·exact Int.le_of_lt (List.pairwise_iff_getElem.mp hds.1 i j (by omega) hj (by omega))
  rw[ei,ej,← er,← er']
  exact hks r hr r' hr' (by rw[er,er'];exact le)
 refine⟨by show 0≤sizeLine;decide,fun e0 he0=>⟨by show 2≤sizeLine;decide,fun t0 ht0=>⟨by show 1≤sizeLine;decide,fun fw hfw=>?_⟩⟩⟩
 have u1:=yad (H:=H1) he0 (.lst [])
 have u2:=u1.trans (yad ht0 (.tup [.int 0,.ref e0]))
 have u3:=u2.trans (yad hfw (.lst [.ref t0]))
 have E3:=yad hfw (.lst [.ref t0]) _ _ (yad ht0 (.tup [.int 0,.ref e0]) _ _ (yaa (H:=H1) (a:=e0) (o:=.lst [])))
 have T3:=yad hfw (.lst [.ref t0]) _ _ (yaa (H:=L2.upd H1 e0 (.lst [])) (a:=t0) (o:=.tup [.int 0,.ref e0]))
 have F3:=yaa (H:=L2.upd (L2.upd H1 e0 (.lst [])) t0 (.tup [.int 0,.ref e0])) (a:=fw) (o:=.lst [.ref t0])
 have ne0:e0≠fw:=yak (yad ht0 (.tup [.int 0,.ref e0]) _ _ (yaa (H:=H1) (a:=e0) (o:=.lst []))) hfw
 have hfw0:H fw=none:=(s1.trans u2).free hfw
 have he00:H e0=none:=s1.free he0
 have I3:=u3 _ _ I1
 have S3:=s1.trans u3
 have ndl:dl≠fw:=yak (u2 _ _ I1) hfw
 generalize L2.upd (L2.upd (L2.upd H1 e0 (.lst [])) t0 (.tup [.int 0,.ref e0])) fw (.lst [.ref t0])=H3 at *
 have X3:FewX H fw H3 [.ref t0] (yb0 rs W ds 0):=⟨rfl,fun i x e=>by
  match i,e with
  |0,e=>cases e;exact⟨t0,e0,rfl,T3,Rows.nil E3,ne0,he00⟩
  |i+1,e=>cases e⟩
 clear u1 u2 u3 he0 ht0 hfw E3 T3 I1 s1
 refine⟨_,rfl,dl,_,rfl,SqL.of I3,?_⟩
 refine yly (xs:=ds.map V.int) (fun k σ H5=>∃o4 o5 o6 o7 o8 o9 o10 zs,σ=[some (.ref a),some (.ref d),some (.ref dl),some (.ref fw),o4,o5,o6,o7,o8,o9,o10]∧Same H H5∧H5 dl=some (.lst (ds.map V.int))∧H5 fw=some (.lst zs)∧FewX H fw H5 zs (yb0 rs W ds k)) ⟨_,_,_,_,_,_,_,_,rfl,S3,I3,F3,X3⟩ ?_ ?_ ?_
 ·rintro k σ H5 hk ⟨o4,o5,o6,o7,o8,o9,o10,zs,rfl,sm,I5,F5,X5⟩
  exact SqL.of I5
 ·rintro k x σ H5 p2 ek ⟨o4,o5,o6,o7,o8,o9,o10,zs,rfl,sm,I5,F5,X5⟩ hp2
  obtain ⟨last,rfl,el⟩:=yc1 ek
  have hk:k<ds.length:=(List.getElem?_eq_some_iff.mp el).1
  have eld:ds.getD k 0=last:=by rw[List.getD_eq_getElem?_getD,el];rfl
  have s6:=yad (H:=H5) hp2 (.tup [.int k,.int last])
  refine⟨p2,_,rfl,SqT.of yaa,rfl,_,_,rfl,_,_,rfl,rfl,?_⟩
  have zl:zs.length=k+1:=by rw[X5.1,yhj]
  obtain ⟨te,st,ete,hte,hst,nst,hst0⟩:=(X5.same s6).2 k _ (List.getElem?_eq_getElem (by omega))
  have eat:atI zs (k:Int)=some (.ref te):=ycz (by rw[List.getElem?_eq_getElem (by omega),ete])
  refine⟨_,rfl,_,rfl,fw,_,_,_,rfl,rfl,SqL.of (s6 _ _ F5),eat,te,_,rfl,SqT.of hte,rfl,_,_,rfl,_,_,rfl,rfl,?_⟩
  refine⟨_,rfl,_,rfl,a,rfl,⟨_,SqL.of (s6 _ _ (sm _ _ ex))⟩,fun D hD=>?_⟩
  refine yf4 (fun i zs _=>Tups H zs ((rs.take i).filter (yw9 last))) hD (s6 _ _ (sm _ _ ex)) (by omega) (fun i zs _ _ h _=>h) Tups.nil (fun i x zs H7 e1 s7 hp K1 K2 k1 k2=>?_) fun zs' H7 s7 hp lz hD7=>?_
  ·obtain ⟨pr,r,rfl,er,hpr⟩:=hx.at e1
   obtain ⟨dd,cc,uu,rfl⟩:=yl2 (h3 r (List.mem_of_getElem? er))
   refine⟨ya5 ybi rfl,?_⟩
   have ft:=yci (rs:=rs) (yw9 last) er
   have gb:yw9 last [dd,cc,uu]=decide (V.int dd=V.int last):=rfl
   refine⟨_,rfl,pr,_,_,.int dd,rfl,rfl,SqT.of (((sm.trans s6).trans s7) _ _ hpr),rfl,_,rfl,rfl,_,rfl,?_⟩
   by_cases z:dd=last
   ·rw[decide_eq_true (congrArg V.int z)]
    refine ycl ⟨_,rfl,k1 _ _ (fun _ _ h=>h) ?_⟩
    rw[ft,gb,if_pos (decide_eq_true (congrArg V.int z))]
    exact hp.cat (Tups.one hpr)
   ·rw[decide_eq_false (fun y=>z (V.int.inj y))]
    refine yct (k2 _ (fun _ _ h=>h) ?_)
    rw[ft,gb,if_neg (fun y=>z (V.int.inj (of_decide_eq_true y))),List.append_nil]
    exact hp
  rw[lx,List.take_length] at hp
  have S7:=(sm.trans s6).trans s7
  refine⟨D,_,rfl,(hp.same S7).rows hD7,fun r hr=>h3 r ((List.mem_filter.mp hr).1),?_,fun H8 s8=>⟨_,_,rfl,rfl,_,rfl,by show 2≤sizeLine;decide,fun lt hlt=>?_⟩⟩
  ·have:=List.length_filter_le (yw9 last) rs;omega
  have S8:=S7.trans s8
  have s9:=yad (H:=H8) hlt (.tup [.int ((fAt (yb0 rs W ds k) k).1+yfr (rs.filter (yw9 last))),.ref st])
  have S9:=S8.trans s9
  have v9:=(s6.trans s7).trans (s8.trans s9)
  have F9:=v9 _ _ F5
  have X9:=X5.same v9
  have I9:=v9 _ _ I5
  have st9:=hst.same ((s7.trans s8).trans s9)
  have lt9:=yaa (H:=H8) (a:=lt) (o:=.tup [.int ((fAt (yb0 rs W ds k) k).1+yfr (rs.filter (yw9 last))),.ref st])
  have eb:yd2 rs (yb0 rs W ds k) ds k=((fAt (yb0 rs W ds k) k).1+yfr (rs.filter (yw9 last)),(fAt (yb0 rs W ds k) k).2):=by unfold yd2;rw[eld]
  generalize L2.upd H8 lt (.tup [.int ((fAt (yb0 rs W ds k) k).1+yfr (rs.filter (yw9 last))),.ref st])=H9 at *
  clear s6 s7 s8 s9 S7 S8 v9 F5 X5 I5 sm hp hD7 hD hlt hte eat hp2
  refine⟨_,rfl,_,rfl,_,_,rfl,rfl,_,rfl,dl,_,rfl,SqL.of I9,fun sl hsl=>?_⟩
  have ecut:yi2 (ds.map V.int) none (some ((k:Int)+1))=(ds.take (k+1)).map V.int:=by rw[yzj _ (by omega),show ((k:Int)+1).toNat=k+1 by omega,List.map_take]
  rw[ecut]
  have s10:=yad (H:=H9) hsl (.lst ((ds.take (k+1)).map V.int))
  refine⟨sl,_,rfl,SqL.of yaa,?_⟩
  show ∃W,_
  have dsl:(ds.take (k+1)).length=k+1:=by rw[List.length_take];omega
  refine yly (xs:=(ds.take (k+1)).map V.int) (fun j σ H11=>∃o6 o7 o9 o10 lt st,σ=[some (.ref a),some (.ref d),some (.ref dl),some (.ref fw),some (.int (k:Int)),some (.int last),o6,o7,some (.ref lt),o9,o10]∧Same H H11∧H11 dl=some (.lst (ds.map V.int))∧H11 fw=some (.lst zs)∧FewX H fw H11 zs (yb0 rs W ds k)∧H11 sl=some (.lst ((ds.take (k+1)).map V.int))∧
   H11 lt=some (.tup [.int (yva W (yb0 rs W ds k) last ds (yd2 rs (yb0 rs W ds k) ds k) j).1,.ref st])∧Rows H11 st (yva W (yb0 rs W ds k) last ds (yd2 rs (yb0 rs W ds k) ds k) j).2∧st≠fw∧H st=none) ⟨_,_,_,_,lt,st,rfl,S9.trans s10,s10 _ _ I9,s10 _ _ F9,X9.same s10,yaa,by rw[show yva W (yb0 rs W ds k) last ds (yd2 rs (yb0 rs W ds k) ds k) 0=yd2 rs (yb0 rs W ds k) ds k from rfl,eb];exact s10 _ _ lt9,by rw[show yva W (yb0 rs W ds k) last ds (yd2 rs (yb0 rs W ds k) ds k) 0=yd2 rs (yb0 rs W ds k) ds k from rfl,eb];exact st9.same s10,nst,hst0⟩ ?_ ?_ ?_
  ·rintro j σ H11 hj ⟨o6,o7,o9,o10,lt,st,rfl,sm,I11,F11,X11,L11,l11,t11,n11,h11⟩
   exact SqL.of L11
  ·clear s10 hsl I9 F9 X9 st9 lt9 hst0 nst S9
   rintro j x σ H11 p3 ej ⟨o6,o7,o9,o10,lt,st,rfl,sm,I11,F11,X11,L11,l11,t11,n11,h11⟩ hp3
   obtain ⟨first,rfl,ef⟩:=yc1 ej
   have hj:j<k+1:=by have:=(List.getElem?_eq_some_iff.mp ef).1;omega
   have efd:ds.getD j 0=first:=by
    rw[List.getElem?_take_of_lt hj] at ef
    rw[List.getD_eq_getElem?_getD,ef];rfl
   have s12:=yad (H:=H11) hp3 (.tup [.int j,.int first])
   refine⟨p3,_,rfl,SqT.of yaa,rfl,_,_,rfl,_,_,rfl,rfl,?_⟩
   obtain ⟨tj,sj,etj,htj,hsj,nsj,hsj0⟩:=(X11.same s12).2 j _ (List.getElem?_eq_getElem (by omega))
   have eatj:atI zs (j:Int)=some (.ref tj):=ycz (by rw[List.getElem?_eq_getElem (by omega),etj])
   refine⟨_,rfl,_,rfl,fw,_,_,_,rfl,rfl,SqL.of (s12 _ _ F11),eatj,tj,_,rfl,SqT.of htj,rfl,_,_,rfl,_,_,rfl,rfl,?_⟩
   have hin:(first,last)∈ks:=by rw[← efd,← eld];exact inks j k (by omega) hk
   refine⟨_,rfl,_,rfl,_,rfl,_,rfl,by show 2≤sizeLine;decide,fun kt hkt=>?_⟩
   have s13:=s12.trans (yad hkt (.tup [.int first,.int last]))
   refine⟨d,_,rfl,(hW.same (sm.trans s13)).get yaa hin,_,_,rfl,rfl,?_⟩
   have l13:=s13 _ _ l11
   refine⟨_,rfl,_,rfl,lt,_,_,_,rfl,rfl,SqT.of l13,rfl,_,_,rfl,rfl,_,rfl,?_⟩
   have en:yva W (yb0 rs W ds k) last ds (yd2 rs (yb0 rs W ds k) ds k) (j+1)=if (fAt (yb0 rs W ds k) j).1+W first last<(yva W (yb0 rs W ds k) last ds (yd2 rs (yb0 rs W ds k) ds k) j).1 then ((fAt (yb0 rs W ds k) j).1+W first last,(fAt (yb0 rs W ds k) j).2++[[first,last]]) else yva W (yb0 rs W ds k) last ds (yd2 rs (yb0 rs W ds k) ds k) j:=by
    show yrc W (yb0 rs W ds k) last _ j (ds.getD j 0)=_
    rw[efd];rfl
   by_cases c1:(fAt (yb0 rs W ds k) j).1+W first last<(yva W (yb0 rs W ds k) last ds (yd2 rs (yb0 rs W ds k) ds k) j).1
   ·rw[decide_eq_true c1]
    rw[if_pos c1] at en
    obtain ⟨ws,ews,hws⟩:=(hsj.same (yad hkt (.tup [.int first,.int last]))).tups
    have lws:=hws.1
    refine ycl ⟨_,rfl,_,rfl,_,rfl,_,rfl,by show 2≤sizeLine;decide,fun tq htq=>⟨by show 1≤sizeLine;decide,fun ql hql=>?_⟩⟩
    have v1:=yad htq (.tup [.int first,.int last])
    have v2:=v1.trans (yad hql (.lst [.ref tq]))
    refine⟨sj,ql,_,_,rfl,rfl,v2 _ _ ews,yaa,?_,fun q2 hq2=>⟨by show 2≤sizeLine;decide,fun lt2 hlt2=>?_⟩⟩
    ·have:=yx0 rs W ds k j (by omega)
     exact Nat.le_of_lt (yau (by show ws.length+1≤1000;omega))
    have v3:=v2.trans (yad hq2 (.lst (ws++[.ref tq])))
    have v4:=v3.trans (yad hlt2 (.tup [.int ((fAt (yb0 rs W ds k) j).1+W first last),.ref q2]))
    have s14:=s13.trans v4
    have tq4:=yad hlt2 (.tup [.int ((fAt (yb0 rs W ds k) j).1+W first last),.ref q2]) _ _ (yad hq2 (.lst (ws++[.ref tq])) _ _ (yad hql (.lst [.ref tq]) _ _ (yaa (H:=L2.upd (L2.upd H11 p3 (.tup [.int j,.int first])) kt (.tup [.int first,.int last])) (a:=tq) (o:=.tup [.int first,.int last]))))
    have q24:=yad hlt2 (.tup [.int ((fAt (yb0 rs W ds k) j).1+W first last),.ref q2]) _ _ (yaa (H:=L2.upd (L2.upd (L2.upd (L2.upd H11 p3 (.tup [.int j,.int first])) kt (.tup [.int first,.int last])) tq (.tup [.int first,.int last])) ql (.lst [.ref tq])) (a:=q2) (o:=.lst (ws++[.ref tq])))
    refine⟨_,_,_,_,lt2,q2,rfl,sm.trans s14,s14 _ _ I11,s14 _ _ F11,X11.same s14,s14 _ _ L11,by rw[en];exact yaa,?_,fun z=>?_,?_⟩
    ·rw[en]
     exact((hws.same v4).cat (Tups.one (r:=[first,last]) tq4)).rows q24
    ·exact yak ((s13.trans v2) _ _ F11) hq2 z.symm
    ·exact(sm.trans (s13.trans v2)).free hq2
   ·rw[decide_eq_false c1]
    rw[if_neg c1] at en
    exact yct ⟨_,_,_,_,lt,st,rfl,sm.trans s13,s13 _ _ I11,s13 _ _ F11,X11.same s13,s13 _ _ L11,by rw[en];exact l13,by rw[en];exact t11.same s13,n11,h11⟩
  clear s10 hsl I9 F9 X9 st9 lt9 hst0 nst S9
  rintro σ H11 ⟨o6,o7,o9,o10,lt,st,rfl,sm,I11,F11,X11,L11,l11,t11,n11,h11⟩
  rw[List.length_map,dsl] at l11 t11
  refine⟨_,rfl,.inl ⟨rfl,_,SqL.of F11⟩,_,rfl,fw,zs,.ref lt,rfl,rfl,F11,yau (by omega),?_⟩
  have X12:=X11.push F11 l11 t11 n11 h11
  rw[← eld] at X12
  refine⟨_,_,_,_,_,_,_,zs++[.ref lt],rfl,sm.young hfw0,by rw[yal ndl];exact I11,yaa,X12⟩
 ·rintro σ H5 ⟨o4,o5,o6,o7,o8,o9,o10,zs,rfl,sm,I5,F5,X5⟩
  rw[List.length_map] at X5
  have zl:zs.length=ds.length+1:=by rw[X5.1,yhj]
  obtain ⟨te,st,ete,hte,hst,nst,hst0⟩:=X5.2 ds.length _ (List.getElem?_eq_getElem (by omega))
  have eat:atI zs (-1)=some (.ref te):=by
   unfold atI ixN
   rw[if_neg (by decide),if_pos (by omega),show (-1+(zs.length:Int)).toNat=ds.length by omega]
   show zs[ds.length]? = _
   rw[List.getElem?_eq_getElem (by omega),ete]
  exact⟨_,rfl,_,rfl,fw,_,_,_,rfl,rfl,SqL.of F5,eat,te,_,_,.ref st,rfl,rfl,SqT.of hte,rfl,q st ds H5 hst0 hds sm hst⟩
theorem yp9 (G_dear_ones:Cal P w K mg base CX0 1 "dear_ones" ydv yqr) (G_tightest:Cal P w K mg base CX0 2 "tightest" yfn yp6) (F:Fun K "paper_of" "paper_of" yd4 f fd):FnOk P w K mg base CX0 3 f fd yfo yhk:=by
 refine F.ok sc_paper_of (fun vs H Q E h=>?_) (fun cdv A outer s H vs Q E hr h=>?_)
 ·obtain ⟨a,c,d,u,rs,cs,ks,W,rfl,_⟩:=h;rfl
 obtain ⟨a,c,d,u,rs,cs,ks,W,rfl,hR,h3,hn,hC,lc,hW,hks,q⟩:=h
 refine⟨_,(yae (yas (i:=4) sc_paper_of.nd rfl (Or.inl rfl) (yaq (yf3 rfl) rfl B.sum PyProof.Rows.boot_sum (yaj (yc0 (N':=["lot","count","duty"]) (ix:=[none,none,some 3]) (g:=(ym6 K 2 (ybw (ybg 0) (ybw (ybg 1) ym5)))) (ti:=(yna (tOp (rI0 fun i j=>.bl (decide (j≤i))) (tOp (yvj K) (ycc 0) (tC (.int 2))) (ycc 2)))) (te:=(ycc 1)) rfl (yaw (N:=ylk) (D:=yac yd4) (by decide +kernel)) (yqe rfl B.zip (yaj (pv 0) (yaj (pv 1) yab))) (fun C s H fp=>(ya8 rfl (yag (yai (i:=0) (show (["lot","count","duty"]:List Str).Nodup by decide +kernel) rfl (Or.inl rfl)) (yag (yai (i:=1) (show (["lot","count","duty"]:List Str).Nodup by decide +kernel) rfl (Or.inl rfl)) yax)))) (fun C s H fp=>(ye2 (yay ysy (yba ybt (pv 0) yaf (fun _ _=>rfl)) (pv 2) (ya7 _)))) (fun C s H fp=>(pv 1))) yab)))
  (yah (yat (ybd (yaj (pv 3) (yaj (pv 4) (yaj (yam G_tightest hr rfl ya1 (yaj (yam G_dear_ones hr rfl ya1 (yaj (pv 0) (yaj (pv 3) yab))) (yaj (pv 2) yab))) yab))))))),?_⟩
 obtain ⟨xs,ex,hx⟩:=hR.tups
 have lx:=hx.1
 refine⟨_,rfl,_,rfl,true,true,a,c,xs,_,rfl,SqL.of ex,SqL.of hC,fun D hD=>?_⟩
 refine yvb (fun i zs=>zs=(((List.range i).filter fun i=>yek u (rs.getD i [])).map fun i=>cs.getD i 0).map V.int) hD ex hC (by rw[List.length_map];omega) (by omega) rfl (fun i x y zs H3 p e1 e2 s3 hp hpn K1 K2 k1 k2=>?_) fun zs H3 s3 hp lz hD3=>?_
 ·obtain ⟨pr,r,rfl,er,hpr⟩:=hx.at e1
  obtain ⟨v,rfl,ev⟩:=yc1 e2
  obtain ⟨dd,cc,uu,rfl⟩:=yl2 (h3 r (List.mem_of_getElem? er))
  have sp:=yad (H:=H3) hpn (.tup [.ref pr,.int v])
  refine⟨p,_,rfl,SqT.of yaa,rfl,_,_,rfl,_,_,rfl,rfl,ya5 (ya5 ybi rfl) rfl,?_⟩
  have dn:=yvc (u:=u) er ev
  have gb:yek u [dd,cc,uu]=decide (u≤uu):=rfl
  refine⟨_,rfl,pr,_,_,.int uu,rfl,rfl,SqT.of (sp _ _ (s3 _ _ hpr)),rfl,_,rfl,_,_,rfl,rfl,_,rfl,?_⟩
  by_cases z:u≤uu
  ·rw[decide_eq_true z]
   refine ycl ⟨_,rfl,k1 _ _ (fun _ _ h=>h) ?_⟩
   rw[dn,gb,if_pos (decide_eq_true z),List.map_append,hp];rfl
  ·rw[decide_eq_false z]
   refine yct (k2 _ (fun _ _ h=>h) ?_)
   rw[dn,gb,if_neg (fun y=>z (of_decide_eq_true y)),List.append_nil,hp]
 subst hp
 rw[lx] at hD3
 refine⟨D,_,rfl,SqL.of hD3,?_⟩
 refine⟨_,rfl,_,rfl,_,rfl,_,rfl,a,u,rs,rfl,hR.same s3,h3,by omega,fun dl H4 hdl s4 R4=>?_⟩
 have S4:=s3.trans s4
 refine⟨_,rfl,dl,d,_,ks,W,rfl,R4,fun r hr=>h3 r (List.mem_filter.mp hr).1,?_,hW.same S4,fun r hr r' hr' hle=>hks r (List.mem_filter.mp hr).1 r' (List.mem_filter.mp hr').1 hle,fun l ds H5 hl hds s5 R5=>⟨by show 3≤sizeLine;decide,fun t ht=>?_⟩⟩
 ·have:=List.length_filter_le (yek u) rs;omega
 have s6:=yad (H:=H5) ht (.tup [.int u,.int (yp7 rs cs u),.ref l])
 exact q t l ds _ (S4.free hl) hds ((S4.trans s5).trans s6) (R5.same s6) yaa
theorem yvd (G_checked_both:Cal P w K mg base (CXE P w) 4 "checked_both" ybo (yla cl)) (G_best_of:Cal P w K mg base CX0 4 "best_of" yf9 ymu) (G_against_each:Cal P w K mg base CX0 3 "against_each" ybz ydh) (G_paper_of:Cal P w K mg base CX0 3 "paper_of" yfo yhk) (F:Fun K "papers" "papers" ye6 f fd):FnOk P w K mg base (CXE P w) 5 f fd yhl (ym3 cl):=by
 refine F.okE sc_papers (fun vs H Q E h=>?_) (fun cdv A outer s H vs Q E hr h=>?_)
 ·obtain ⟨a,b,tm,rs,os,rfl,_⟩:=h;rfl
 obtain ⟨a,b,tm,rs,os,rfl,hR,h3,hO,h2,q1,q2⟩:=h
 refine⟨_,(yae (ych (yam (E:=E) G_checked_both hr rfl (yeg fun _ _ z=>z) (yaj (pv 0) (yaj (pv 1) (yaj (pv 2) yab)))) (ya8 rfl (yag (yai (i:=3) sc_papers.nd rfl (Or.inr rfl)) (yag (yai (i:=4) sc_papers.nd rfl (Or.inl rfl)) yax))))
  (yae (yas (i:=5) sc_papers.nd rfl (Or.inr rfl) (yam G_best_of hr rfl ya1 (yaj (pv 3) (yaj (pv 4) (yaj (pv 2) yab)))))
  (yae (yas (i:=6) sc_papers.nd rfl (Or.inr rfl) (yam G_against_each hr rfl ya1 (yaj (pv 3) (yaj (pv 4) (yaj (pv 2) yab)))))
  (yae (yas (i:=7) sc_papers.nd rfl (Or.inl rfl) (yaq (ylc rfl) rfl B.sorted PyProof.Rows.boot_sorted (yaj (ymp (N':=["day","count","duty"]) (ix:=[none,none,none]) (g:=(ym6 K 3 (ybw (ybg 0) (ybw (ybg 1) (ybw (ybg 2) ym5))))) (ti:=ykh) (te:=(ycc 2)) rfl (yaw (N:=ym4) (D:=yac ye6) (by decide +kernel)) (ya9 (pv 3)) (fun C s H fp=>(ya8 rfl (yag (yai (i:=0) (show (["day","count","duty"]:List Str).Nodup by decide +kernel) rfl (Or.inl rfl)) (yag (yai (i:=1) (show (["day","count","duty"]:List Str).Nodup by decide +kernel) rfl (Or.inl rfl)) (yag (yai (i:=2) (show (["day","count","duty"]:List Str).Nodup by decide +kernel) rfl (Or.inl rfl)) yax))))) (fun C s H fp=>ybs) (fun C s H fp=>(pv 2))) yab)))
  (yah (yat (yc0 (N':=["duty","goods","counts","widths"]) (ix:=[none,some 3,some 5,some 6]) (g:=(ybg 0)) (ti:=ykh) (te:=(ykf yhk [] E0 (ybn (ycc 1) (ybn (ycc 2) (ybn (ycc 3) (ybn (ycc 0) yky)))))) rfl (yaw (N:=ym4) (D:=yac ye6) (by decide +kernel)) (ya9 (zap (pv 7) zb8)) (fun C s H fp=>(yai (i:=0) (show (["duty","goods","counts","widths"]:List Str).Nodup by decide +kernel) rfl (Or.inl rfl))) (fun C s H fp=>ybs) (fun C s H fp=>(yam G_paper_of hr rfl ya1 (yaj (pv 1) (yaj (pv 2) (yaj (pv 3) (yaj (pv 0) yab))))))))))))),?_⟩
 refine⟨_,rfl,_,rfl,_,rfl,a,b,tm,rs,os,rfl,hR,h3,hO,h2,q1,fun bn t g o H1 ht hg ho s1 R1 O1 e1=>?_⟩
 obtain ⟨rn,on,rb,ob⟩:=ypu bn
 refine⟨t,_,rfl,SqT.of e1,rfl,_,_,rfl,_,_,rfl,rfl,?_⟩
 refine⟨_,rfl,_,rfl,_,rfl,g,o,tm,rs,os,rfl,R1,h3,by omega,O1,h2,by omega,fun lc cs H2 hlc hb s2 I2=>?_⟩
 have lcs:=hb.len
 refine⟨_,rfl,_,rfl,_,rfl,g,o,tm,rs,os,rfl,R1.same s2,h3,by omega,O1.same s2,h2,by omega,fun d ds H3 hd hds s3 SL=>?_⟩
 have S3:=s1.trans (s2.trans s3)
 have R3:=R1.same (s2.trans s3)
 have I3:=s3 _ _ I2
 obtain ⟨xs,ex,hx⟩:=R3.tups
 have lx:=hx.1
 have hks:∀r∈rs,∀r'∈rs,r.getD 0 0≤r'.getD 0 0→(r.getD 0 0,r'.getD 0 0)∈ybr ds:=fun r hr r' hr' hle=>mem_str.mpr ⟨(hds.2.1 _).mpr ⟨r,hr,rfl⟩,(hds.2.1 _).mpr ⟨r',hr',rfl⟩,hle⟩
 refine⟨_,rfl,g,rfl,⟨xs,SqL.of ex⟩,fun D hD=>?_⟩
 refine yq0 (fun i ns=>ns.Nodup∧(∀d,d∈ns↔∃r∈rs.take i,r.getD 2 0=d)∧ns.length≤i) hD ex (by omega) ⟨List.nodup_nil,fun d=>⟨fun z=>(by cases z),fun ⟨r,hr,_⟩=>(by cases hr)⟩,Nat.le_refl _⟩ ?_ ?_
 ·rintro i x ns H4 ei s4 ⟨nd,hm,hl⟩ K1 K2 k1 k2
  obtain ⟨p,r,rfl,er,hp⟩:=hx.at ei
  obtain ⟨dd,cc,u,rfl⟩:=yl2 (h3 r (List.mem_of_getElem? er))
  refine⟨p,_,rfl,SqT.of (s4 _ _ hp),rfl,_,_,rfl,_,_,rfl,_,_,rfl,rfl,ya5 (ya5 (ya5 ybi rfl) rfl) rfl,?_⟩
  refine⟨_,rfl,k1 _ u _ rfl (Same.refl _) ⟨?_,fun e=>?_,?_⟩⟩
  ·split
   ·exact nd
   ·rename_i z
    exact List.nodup_append.mpr ⟨nd,by simp,fun a ha b hb e=>z (by rw[← List.mem_singleton.mp hb,← e];exact ha)⟩
  ·rw[ybb er]
   have key:(∃r∈rs.take i++[[dd,cc,u]],r.getD 2 0=e)↔(e∈ns∨e=u):=by
    rw[hm e]
    constructor
    ·rintro ⟨r,hr,e'⟩
     rcases List.mem_append.mp hr with z|z
     ·exact .inl ⟨r,z,e'⟩
     ·rw[List.mem_singleton.mp z] at e';exact .inr e'.symm
    ·rintro (⟨r,hr,e'⟩ | rfl)
     ·exact⟨r,List.mem_append_left _ hr,e'⟩
     ·exact⟨_,List.mem_append_right _ (List.mem_singleton.mpr rfl),rfl⟩
   rw[key]
   split
   ·rename_i z
    exact⟨.inl,fun y=>y.elim id fun y'=>by rw[y'];exact z⟩
   ·rw[List.mem_append,List.mem_singleton]
  ·split
   ·omega
   ·rw[List.length_append,List.length_singleton];omega
 ·rintro ns H4 s4 ⟨nd,hm,hl⟩ hl' hz
  rw[lx,List.take_length] at hm
  refine⟨D,ns,rfl,hz,by omega,fun dl ms hdl hp hs=>?_⟩
  have s5:=s4.trans (yad hdl (.lst (ms.map V.int)))
  have hdu:yrd rs ms.reverse:=by
   refine⟨?_,fun u=>by rw[List.mem_reverse,hp.mem_iff];exact hm u,by rw[List.length_reverse,hp.length_eq];omega⟩
   rw[List.pairwise_reverse]
   exact(hs.and (hp.nodup_iff.mpr nd)).imp fun ⟨z1,z2⟩=>by omega
  have ml:ms.reverse.length≤30:=by have:=hdu.2.2;omega
  refine⟨_,rfl,dl,_,rfl,SqL.of yaa,fun rl hrl=>?_⟩
  rw[← List.map_reverse]
  have s6:=s5.trans (yad hrl (.lst (ms.reverse.map V.int)))
  have L6:=yaa (H:=L2.upd H4 dl (.lst (ms.map V.int))) (a:=rl) (o:=.lst (ms.reverse.map V.int))
  generalize L2.upd (L2.upd H4 dl (.lst (ms.map V.int))) rl (.lst (ms.reverse.map V.int))=H6 at *
  generalize ms.reverse=us at *
  refine⟨rl,rfl,⟨_,SqL.of L6⟩,fun D2 hD2=>?_⟩
  have S6:=S3.trans s6
  refine yw3 (fun i zs H'=>zcv H D2 H' zs (us.take i) rs os tm cs) hD2 L6 (by rw[List.length_map];omega) (fun i zs H' H'' h nl hk=>⟨h.1,fun j x u e1 e2=>?_⟩) ⟨rfl,fun j x u e1=>(by cases e1)⟩ (fun i x zs H7 e1 hz7 s7 hp7 K1 k1=>?_) fun zs H7 s7 hp7 lz hD7=>?_
  ·obtain ⟨t,l,ds',a1,a2,a3,a4,a5,a6⟩:=h.2 j x u e1 e2
   have nt:t≠D2:=fun y=>by subst y;rcases nl with n|⟨_,n⟩ <;> rw[n] at a2 <;> cases a2
   exact⟨t,l,ds',a1,hk _ _ nt a2,a3,a4.but hk nl a6,a5,a6⟩
  ·obtain ⟨u,rfl,eu⟩:=yc1 e1
   refine⟨ya5 ybi rfl,?_⟩
   have S7:=s6.trans s7
   refine⟨_,rfl,_,rfl,_,rfl,_,rfl,g,lc,d,u,rs,cs,ybr ds,ybc os tm,rfl,R3.same S7,h3,by omega,S7 _ _ I3,lcs,SL.same S7,hks,fun t l ds' H8 hl hds' s8 R8 ht=>?_⟩
   have hi:i<us.length:=(List.getElem?_eq_some_iff.mp eu).1
   have zl:zs.length=i:=by rw[hp7.1,List.length_take];omega
   refine k1 _ H8 s8 ⟨by rw[List.length_append,zl,List.length_take];show i+1=_;omega,fun j x u' e3 e4=>?_⟩
   by_cases hj:j<i
   ·rw[List.getElem?_append_left (by omega)] at e3
    have e4':(us.take i)[j]? = some u':=by rw[List.getElem?_take_of_lt (by omega)] at e4;rw[List.getElem?_take_of_lt hj];exact e4
    obtain ⟨t',l',ds'',a1,a2,a3,a4,a5,a6⟩:=hp7.2 j x u' e3 e4'
    exact⟨t',l',ds'',a1,s8 _ _ a2,a3,a4.same s8,a5,a6⟩
   ·have:j=i:=by
     have:=(List.getElem?_eq_some_iff.mp e3).1
     rw[List.length_append,zl] at this
     have z1:[V.ref t].length=1:=rfl
     omega
    subst this
    rw[List.getElem?_append_right (by omega),zl,Nat.sub_self] at e3
    cases e3
    rw[List.getElem?_take_of_lt (by omega),eu] at e4
    cases e4
    exact⟨t,l,ds',rfl,ht,hds',R8,(S6.trans s7).free hl,fun z=>by rw[z,hz7] at hl;cases hl⟩
  ·rw[List.length_map,List.take_length] at hp7
   exact q2 bn D2 zs us cs H7 (S6.free hD2) hb hdu (S6.trans s7) hD7 hp7
end
end K28
namespace L2
open PySem PySem.Spec PyProof.Rows
section
variable {X:Cx}{a b:Expr}{rest:List Expr}{pos:PySem.Pos}{ta tb:TE}
def zdj (K:PySem.W.Frag)(ta tb:TE):TE:=fun σ H Q=>ta σ H fun x H1=>∃k,yz0 K x H1 k∧if k=true then Q x H1 else tb σ H1 Q
theorem zbb (ha:PE X a ta)(hb:PE X (.BoolOp .Or (b::rest) pos) tb):PE X (.BoolOp .Or (a::b::rest) pos) (zdj X.K ta tb):=by
 intro pins s σ H Q I h
 refine BoolOp_or (thn (ha pins s σ H _ I h) fun v s1 ⟨x,H1,I1,r1,k,tv,q1⟩=>?_)
 refine thn (yxk pins s1 σ H1 x v (fun c H2=>if c=true then Q x H2 else tb σ H2 Q) I1 r1 ⟨k,tv,q1⟩) fun c s2 ⟨H2,I2,q2⟩=>?_
 cases c with
 |true=>exact⟨x,H2,I2,r1,q2⟩
 |false=>exact hb pins s2 σ H2 Q I2 q2
end
end L2
namespace K28
open PySem L2
abbrev yib:Stmt:=top 77
abbrev yzn:List Str:=["_law_way","_law_lots","_law_outs","_law_term","_law_some"]
abbrev ykc:List Str:=["_law_way","_law_lots","_law_outs","_law_term","_law_some"]
theorem yxc:FnScope yzn ykc (yac yib):=⟨rfl,rfl,rfl,by decide +kernel,rfl,by decide +kernel,by decide +kernel⟩
abbrev yll:Stmt:=top 78
abbrev zbc:List Str:=["_law_way","_law_lots","_law_outs","_law_term","_law_some","_law_said_here","e","_law_kinds","_law_names"]
abbrev yov:List Str:=["_law_way","_law_lots","_law_outs","_law_term","_law_some"]
theorem sc_said:FnScope zbc yov (yac yll):=⟨rfl,rfl,rfl,by decide +kernel,rfl,by decide +kernel,by decide +kernel⟩
abbrev ysj:Stmt:=top 79
abbrev zci:List Str:=["_law_way","_law_lots","_law_outs","_law_term","_law_some","_law_fault_here","_law_lot","_law_one"]
abbrev yve:List Str:=["_law_way","_law_lots","_law_outs","_law_term","_law_some"]
theorem sc_due:FnScope zci yve (yac ysj):=⟨rfl,rfl,rfl,by decide +kernel,rfl,by decide +kernel,by decide +kernel⟩
abbrev yku:Stmt:=top 80
abbrev zbd:List Str:=["_law_script","_law_draw","_law_k","_law_lots","_law_outs","_law_term","_law_some","_law_way"]
abbrev zbe:List Str:=["_law_script"]
theorem sc_law:FnScope zbd zbe (yac yku):=⟨rfl,rfl,rfl,by decide +kernel,rfl,by decide +kernel,by decide +kernel⟩
abbrev ks:List Nat:=[5,1,3,4,2,7,8,9]
open Classical in
noncomputable def ans (ls os:List (List Int)) (tm k:Int) (ts:List Int):Option Nat:=if k=2 then (match ya3 ls with|some n=>some n|none=>some 9) else match ybj ls os tm with
 |some n=>some n
 |none=>if k=0 then (if ye9 ls ts then (if NoLack ls os tm ts then none else some 8) else some 7) else none
theorem ykd {ls os:List (List Int)}{tm:Int}{ts:List Int}:ans ls os tm 2 ts=match ya3 ls with|some n=>some n|none=>some 9:=by unfold ans;rw[if_pos rfl]
theorem yhm {ls os:List (List Int)}{tm k:Int}{ts:List Int}{n:Nat}(c:k≠2)(h:ybj ls os tm=some n):ans ls os tm k ts=some n:=by unfold ans;rw[if_neg c,h]
open Classical in
theorem ygr {ls os:List (List Int)}{tm k:Int}{ts:List Int}(c:k≠2)(h:ybj ls os tm=none):ans ls os tm k ts=if k=0 then (if ye9 ls ts then (if NoLack ls os tm ts then none else some 8) else some 7) else none:=by unfold ans;rw[if_neg c,h]
theorem yvf {ls os:List (List Int)}{tm:Int}{n:Nat}(h:ybj ls os tm=some n):n∈ks:=by
 cases e:ya3 ls with
 |some j=>
  rw[yq9 e] at h;cases h
  rcases yge e with rfl|rfl|rfl|rfl <;> decide
 |none=>
  cases e2:ya3 os with
  |some j=>
   rw[yra e e2] at h;cases h
   rcases yge e2 with rfl|rfl|rfl|rfl <;> decide
  |none=>
   rw[yrb e e2] at h
   split at h
   ·cases h
   ·cases h;decide
theorem zbf {ls os:List (List Int)}{tm k:Int}{ts:List Int}{n:Nat}(h:ans ls os tm k ts=some n):n∈ks:=by
 by_cases c:k=2
 ·subst c
  rw[ykd] at h
  split at h
  ·cases h
   rename_i e
   rcases yge e with rfl|rfl|rfl|rfl <;> decide
  ·cases h;decide
 ·cases e1:ybj ls os tm with
  |some j=>rw[yhm c e1] at h;cases h;exact yvf e1
  |none=>
   rw[ygr c e1] at h
   repeat' split at h
   all_goals first|(cases h;done)|(cases h;decide)
def Args (H:Hp)(vs:List V)(l o:Addr)(tm k:Int)(ts:List Int)(ls os:List (List Int)):Prop:=∃t:Addr,vs=[.int k,.ref l,.ref o,.int tm,.ref t]∧0≤k∧k<5∧Rows H l ls∧(∀r∈ls,r.length=3)∧ls.length≤31∧Rows H o os∧(∀r∈os,r.length=2)∧os.length≤31∧ybf H t ts∧ts.length≤100
def yqa (cl:Nat→Addr):Sp:=fun vs H Q E=>∃(l o:Addr) (tm k:Int) (ts:List Int) (ls os:List (List Int)),Args H vs l o tm k ts ls os∧
 (∀n,ans ls os tm k ts=some n→∀H',Same H H'→E (.ref (cl n)) none H')∧(ans ls os tm k ts=none→∀H',Same H H'→Q .non H')
def yvg:Sp:=fun vs H Q _=>∃(l o:Addr) (tm k:Int) (ts:List Int) (ls os:List (List Int)),Args H vs l o tm k ts ls os∧∀H',Same H H'→Q (.str (nmF (ans ls os tm k ts))) H'
def yzo (tb:Tbs):Sp:=fun vs H Q _=>∃(l o:Addr) (tm k:Int) (ts:List Int) (ls os:List (List Int)),Args H vs l o tm k ts ls os∧Tb tb H∧∀H',Same H H'→Q (.str (nmF (ans ls os tm k ts))) H'
def yxd (K:PySem.W.Frag)(tb:Tbs):Sp:=fun vs H Q _=>∃(a:Addr) (ns:List Int),vs=[.ref a]∧Tb tb H∧SqL K H a (ns.map V.int)∧ns.length≤63∧∀H',Tb tb H'→Q (.bl true) H'
section
variable {P:Program}{w:World}{K:PySem.W.Frag}{mg:Str→Option Value}{base:Heap}{f:Addr}{fd:FuncData}{cl:Nat→Addr}{tb:Tbs}(B:Bn mg)
include B
theorem yxe (G_dealt:Cal P w K mg base (CXE P w) 6 "dealt" yj4 (ypy cl)) (G_is_dealing:Cal P w K mg base (CXE P w) 6 "is_dealing" yee (yj5 cl)) (G_counts_of:Cal P w K mg base (CXE P w) 4 "counts_of" yev (yhx cl)) (G_papers:Cal P w K mg base (CXE P w) 5 "papers" yhl (ym3 cl)) (G_good_paper:Cal P w K mg base (CXE P w) 5 "good_paper" yea (yub cl))
 (F:Fun K "_law_asked" "_law_asked" yib f fd):FnOk P w K mg base (CXE P w) 7 f fd ykc (yqa cl):=by
 refine F.okE yxc (fun vs H Q E h=>?_) (fun cdv A outer s H vs Q E hr h=>?_)
 ·obtain ⟨l,o,tm,k,ts,ls,os,⟨t,rfl,_⟩,_⟩:=h;rfl
 obtain ⟨l,o,tm,k,ts,ls,os,⟨t,rfl,k0,k5,hR,h3,ln,hO,h2,on,hT,tn⟩,qe,qn⟩:=h
 refine⟨_,(yah (yb7 (yay yg7 (pv 0) yaf (ya7 _)) (yah (ybm (yam (E:=E) G_dealt hr rfl (yeg fun _ _ z=>z) (yaj (pv 1) (yaj (pv 2) (yaj (pv 3) (yaj (pv 4) yab))))))) (yah (yb7 (yay yg7 (pv 0) yaf (ya7 _)) (yah (ybm (yam (E:=E) G_is_dealing hr rfl (yeg fun _ _ z=>z) (yaj (pv 1) (yaj (pv 2) (yaj (pv 3) (yaj (yb5 (yaj (ybd (yaj (ysu ym9 yaf) (yaj yaf (yaj yaf yab)))) yab)) yab))))))) (yah (yb7 (yay yg7 (pv 0) yaf (ya7 _)) (yah (ybm (yam (E:=E) G_counts_of hr rfl (yeg fun _ _ z=>z) (yaj (pv 1) (yaj (yb5 (yaj (ybd (yaj (yaq yar rfl B.len PySem.boot_len (yaj (pv 1) yab)) (yaj yaf (yaj yaf yab)))) yab)) yab))))) (yah (yb7 (yay yg7 (pv 0) yaf (ya7 _)) (yah (ybm (yam (E:=E) G_papers hr rfl (yeg fun _ _ z=>z) (yaj (pv 1) (yaj (pv 2) (yaj (pv 3) yab)))))) (yah (ybm (yam (E:=E) G_good_paper hr rfl (yeg fun _ _ z=>z) (yaj (pv 1) (yaj (pv 2) (yaj (pv 3) (yaj (ybd (yaj yaf (yaj yaf (yaj (yb5 (yaj (ybd (yaj yaf (yaj yaf yab))) yab)) yab)))) yab))))))))))))))),?_⟩
 refine⟨_,rfl,rfl,_,rfl,?_⟩
 by_cases c0:k=0
 ·subst c0
  refine ycl ⟨_,rfl,_,rfl,_,rfl,_,rfl,l,o,t,tm,ls,os,ts,rfl,hR,h3,hO,h2,hT,tn,fun n e=>qe n (yhm (by decide) e),fun bn=>?_⟩
  have u:=ygr (k:=0) (ts:=ts) (by decide) bn
  rw[if_pos rfl] at u
  refine⟨fun z H' sm=>qe 7 (by rw[u,if_neg z]) H' sm,fun z ds hds=>⟨fun lk H' sm=>qe 8 (by rw[u,if_pos z,if_neg (fun y=>lk (y ds hds))]) H' sm,fun nl l' us H' _ _ sm _=>?_⟩⟩
  have no:NoLack ls os tm ts:=.of hds (Classical.not_not.mp nl)
  exact qn (by rw[u,if_pos z,if_pos no]) H' sm
 rw[decide_eq_false (fun z=>c0 (V.int.inj z))]
 refine yct ⟨_,rfl,rfl,_,rfl,?_⟩
 by_cases c1:k=1
 ·subst c1
  refine ycl ⟨_,rfl,_,rfl,_,rfl,_,rfl,by show 3≤sizeLine;decide,fun tp htp=>⟨by show 1≤sizeLine;decide,fun p hp=>?_⟩⟩
  have u1:=yad (H:=H) htp (.tup [.int (-1),.int 0,.int 1])
  have u2:=u1.trans (yad hp (.lst [.ref tp]))
  exact⟨l,o,p,tp,tm,ls,os,rfl,hR.same u2,h3,hO.same u2,h2,yaa,yad hp _ _ _ yaa,fun n e H' sm=>qe n (yhm (by decide) e) H' (u2.trans sm),fun bn H' sm=>qn (by rw[ygr (by decide) bn,if_neg (by decide)]) H' (u2.trans sm)⟩
 rw[decide_eq_false (fun z=>c1 (V.int.inj z))]
 refine yct ⟨_,rfl,rfl,_,rfl,?_⟩
 by_cases c2:k=2
 ·subst c2
  obtain ⟨xs,ex,hx⟩:=hR.tups
  have lx:=hx.1
  refine ycl ⟨_,rfl,_,rfl,l,_,rfl,.inl (SqL.of ex),by show 3≤sizeLine;decide,fun tp htp=>⟨by show 1≤sizeLine;decide,fun p hp=>?_⟩⟩
  have u1:=yad (H:=H) htp (.tup [.int (xs.length:Int),.int 0,.int 1])
  have u2:=u1.trans (yad hp (.lst [.ref tp]))
  have tp2:L2.upd (L2.upd H tp (.tup [.int (xs.length:Int),.int 0,.int 1])) p (.lst [.ref tp]) tp=some (.tup ([(xs.length:Int),0,1].map V.int)):=yad hp _ _ _ yaa
  refine⟨l,p,ls,[[(xs.length:Int),0,1]],rfl,hR.same u2,h3,(Tups.one tp2).rows yaa,fun r hr=>(by rw[List.mem_singleton.mp hr];rfl),by show 1≤100;decide,fun z=>?_,fun z j e H' sm=>?_,fun z zb=>⟨fun _ H' sm=>?_,fun li=>?_⟩⟩
  ·exact qe 5 (by rw[ykd,ya3,if_pos z]) _ u2
  ·rw[ymf]
   exact qe _ (by rw[ykd,ya3,if_neg (by omega),e];rfl) H' (u2.trans sm)
  ·exact qe 9 (by rw[ykd,ya3,if_neg (by omega),zb];rfl) H' (u2.trans sm)
  ·exact absurd (li _ (List.mem_singleton.mpr rfl)).2 (by show ¬ (xs.length:Int)<(ls.length:Int);omega)
 rw[decide_eq_false (fun z=>c2 (V.int.inj z))]
 have q1:∀n,ybj ls os tm=some n→∀H',Same H H'→E (.ref (cl n)) none H':=fun n e=>qe n (yhm c2 e)
 have qn':ybj ls os tm=none→∀H',Same H H'→Q .non H':=fun e=>qn (by rw[ygr c2 e,if_neg c0])
 refine yct ⟨_,rfl,rfl,_,rfl,?_⟩
 by_cases c3:k=3
 ·subst c3
  exact ycl ⟨_,rfl,_,rfl,_,rfl,l,o,tm,ls,os,rfl,hR,h3,hO,h2,q1,fun bn lb xs us cs H' _ _ _ sm _ _=>qn' bn H' sm⟩
 rw[decide_eq_false (fun z=>c3 (V.int.inj z))]
 refine yct ⟨_,rfl,_,rfl,_,rfl,by show 2≤sizeLine;decide,fun tp htp=>⟨by show 1≤sizeLine;decide,fun p hp=>⟨by show 3≤sizeLine;decide,fun pp hpp=>?_⟩⟩⟩
 have u1:=yad (H:=H) htp (.tup [.int 5,.int 2])
 have u2:=u1.trans (yad hp (.lst [.ref tp]))
 have u3:=u2.trans (yad hpp (.tup [.int 1,.int 0,.ref p]))
 have tp3:=yad hpp (.tup [.int 1,.int 0,.ref p]) _ _ (yad hp (.lst [.ref tp]) _ _ (yaa (H:=H) (a:=tp) (o:=.tup [.int 5,.int 2])))
 have p3:=yad hpp (.tup [.int 1,.int 0,.ref p]) _ _ (yaa (H:=L2.upd H tp (.tup [.int 5,.int 2])) (a:=p) (o:=.lst [.ref tp]))
 exact⟨l,o,pp,p,tm,1,0,ls,os,[[5,2]],rfl,hR.same u3,h3,hO.same u3,h2,yaa,(Tups.one (r:=[5,2]) tp3).rows p3,fun r hr=>(by rw[List.mem_singleton.mp hr];rfl),by decide,fun n e H' sm=>q1 n e H' (u3.trans sm),fun bn H' sm=>qn' bn H' (u3.trans sm)⟩
theorem yzp (T:Txt K mg cl) (Y:XcL K cl ks) (G_asked:Cal P w K mg base (CXE P w) 7 "_law_asked" ykc (yqa cl)) (F:Fun K "_law_said" "_law_said" yll f fd):FnOk P w K mg base CX0 8 f fd yov yvg:=by
 refine F.ok sc_said (fun vs H Q E h=>?_) (fun cdv A outer s H vs Q E hr h=>?_)
 ·obtain ⟨l,o,tm,k,ts,ls,os,⟨t,rfl,_⟩,_⟩:=h;rfl
 obtain ⟨l,o,tm,k,ts,ls,os,⟨t,rfl,as⟩,q⟩:=h
 refine⟨_,(yae (yas (i:=5) sc_said.nd rfl (Or.inl rfl) ybl)
  (yae (yyh (i:=6) (E:=za8 ks H cl (ans ls os tm k ts)) sc_said.nd rfl rfl rfl rfl rfl T.gCustomsError rfl rfl (zch Y)
  (fun pn xe hps=>(yah (ybm (yam G_asked hr rfl hps (yaj (pv 0) (yaj (pv 1) (yaj (pv 2) (yaj (pv 3) (yaj (pv 4) yab)))))))))
  (fun e=>(yae (yas (i:=7) sc_said.nd rfl (Or.inl rfl) (yb5 (yaj (yaq yej rfl B.isi PyProof.Rows.boot_isinstance (yaj (pv 6) (yaj (yfp rfl T.gBadRows (v:=.ref (cl 5)) rfl) yab))) (yaj (yaq yej rfl B.isi PyProof.Rows.boot_isinstance (yaj (pv 6) (yaj (yfp rfl T.gBadDay (v:=.ref (cl 1)) rfl) yab))) (yaj (yaq yej rfl B.isi PyProof.Rows.boot_isinstance (yaj (pv 6) (yaj (yfp rfl T.gBadCount (v:=.ref (cl 3)) rfl) yab))) (yaj (yaq yej rfl B.isi PyProof.Rows.boot_isinstance (yaj (pv 6) (yaj (yfp rfl T.gBadDuty (v:=.ref (cl 4)) rfl) yab))) yab))))))
   (yae (yas (i:=7) sc_said.nd rfl (Or.inl rfl) (ybh yg8 (pv 7) (yb5 (yaj (yaq yej rfl B.isi PyProof.Rows.boot_isinstance (yaj (pv 6) (yaj (yfp rfl T.gBadTerm (v:=.ref (cl 2)) rfl) yab))) (yaj (yaq yej rfl B.isi PyProof.Rows.boot_isinstance (yaj (pv 6) (yaj (yfp rfl T.gBadTaken (v:=.ref (cl 7)) rfl) yab))) yab)))))
   (yae (yas (i:=7) sc_said.nd rfl (Or.inl rfl) (ybh yg8 (pv 7) (yb5 (yaj (yaq yej rfl B.isi PyProof.Rows.boot_isinstance (yaj (pv 6) (yaj (yfp rfl T.gNotDealable (v:=.ref (cl 8)) rfl) yab))) (yaj (yaq yej rfl B.isi PyProof.Rows.boot_isinstance (yaj (pv 6) (yaj (yfp rfl T.gNoPlace (v:=.ref (cl 9)) rfl) yab))) yab)))))
   (yae (yas (i:=8) sc_said.nd rfl (Or.inl rfl) (yb5 (yaj ybl (yaj ybl (yaj ybl (yaj ybl (yaj ybl (yaj ybl (yaj ybl (yaj ybl yab))))))))))
   (yae (yas (i:=5) sc_said.nd rfl (Or.inl rfl) ybl)
   (yah (yb7 (PW.pt (ym8 (yay yg7 (ylv PySem.F.plainAttrs_list PySem.F.slot_list_count PySem.F.type_list_count yvv (pv 7) (yaj yke yab)) yaf (ya7 _)) (ylp (yfq (yaq yej rfl B.isi PyProof.Rows.boot_isinstance (yaj (pv 6) (yaj (yx3 rfl B.verr yyi (v:=.ty "ValueError") rfl) yab))) (fun _=>rfl))))) (yah (yas (i:=5) sc_said.nd rfl (Or.inl rfl) (yba ya2 (pv 8) (ylv PySem.F.plainAttrs_list PySem.F.slot_list_index PySem.F.type_list_index yvw (pv 7) (yaj yke yab)) (fun _ _=>rfl)))) ya6)))))))))
  (yah (yat (pv 5))))),?_⟩
 refine⟨?_,?_⟩
 ·refine⟨_,rfl,_,rfl,_,rfl,_,rfl,_,rfl,l,o,tm,k,ts,ls,os,⟨t,rfl,as⟩,fun n e H' sm=>⟨sm,n,zbf e,rfl,e⟩,fun e H' sm=>⟨_,rfl,?_⟩⟩
  rw[e] at q
  exact q _ sm
 ·rintro C e H1 ⟨sm,n,hn,hC,ha⟩ he
  cases hC
  have s1:Same H (L2.upd H1 e (.ext (IsX e (.ref (cl n))))):=sm.trans (yad he _)
  have e1':=yaa (H:=H1) (a:=e) (o:=.ext (IsX e (.ref (cl n))))
  refine⟨_,rfl,e,_,_,_,_,rfl,rfl,e1',Y.x _ hn,Y.d _ hn 5 (by decide),_,rfl,e,_,_,_,_,rfl,rfl,e1',Y.x _ hn,Y.d _ hn 1 (by decide),_,rfl,e,_,_,_,_,rfl,rfl,e1',Y.x _ hn,Y.d _ hn 3 (by decide),_,rfl,e,_,_,_,_,rfl,rfl,e1',Y.x _ hn,Y.d _ hn 4 (by decide),by show 4≤sizeLine;decide,fun l1 hl1=>?_⟩
  have u1:=yad (H:=L2.upd H1 e (.ext (IsX e (.ref (cl n))))) hl1 (.lst (ydi [5,1,3,4] n))
  have e2':=u1 _ _ e1'
  refine⟨_,rfl,_,rfl,e,_,_,_,_,rfl,rfl,e2',Y.x _ hn,Y.d _ hn 2 (by decide),_,rfl,e,_,_,_,_,rfl,rfl,e2',Y.x _ hn,Y.d _ hn 7 (by decide),by show 2≤sizeLine;decide,fun l2 hl2=>?_⟩
  have u2:=u1.trans (yad hl2 (.lst (ydi [2,7] n)))
  refine⟨l1,l2,ydi [5,1,3,4] n,ydi [2,7] n,rfl,rfl,yad hl2 _ _ _ yaa,yaa,by show 4+2≤sizeLine;decide,fun l3 hl3=>?_⟩
  have u3:=u2.trans (yad hl3 (.lst (ydi [5,1,3,4,2,7] n)))
  have e3':=u3 _ _ e1'
  refine⟨_,rfl,_,rfl,e,_,_,_,_,rfl,rfl,e3',Y.x _ hn,Y.d _ hn 8 (by decide),_,rfl,e,_,_,_,_,rfl,rfl,e3',Y.x _ hn,Y.d _ hn 9 (by decide),by show 2≤sizeLine;decide,fun l4 hl4=>?_⟩
  have u4:=u3.trans (yad hl4 (.lst (ydi [8,9] n)))
  refine⟨l3,l4,ydi [5,1,3,4,2,7] n,ydi [8,9] n,rfl,rfl,yad hl4 _ _ _ yaa,yaa,by show 6+2≤sizeLine;decide,fun l5 hl5=>?_⟩
  have u5:=u4.trans (yad hl5 (.lst (ydi ks n)))
  have N5:=yaa (H:=L2.upd (L2.upd (L2.upd (L2.upd (L2.upd H1 e (.ext (IsX e (.ref (cl n))))) l1 (.lst (ydi [5,1,3,4] n))) l2 (.lst (ydi [2,7] n))) l3 (.lst (ydi [5,1,3,4,2,7] n))) l4 (.lst (ydi [8,9] n))) (a:=l5) (o:=.lst (ydi ks n))
  refine⟨by show 8≤sizeLine;decide,fun l6 hl6=>?_⟩
  have u6:=u5.trans (yad hl6 (.lst ([5,1,3,4,2,7,8,9].map fun n=>V.str (nmF (some n)))))
  have f5:=yad hl6 (.lst ([5,1,3,4,2,7,8,9].map fun n=>V.str (nmF (some n)))) _ _ N5
  have N6:=yaa (H:=L2.upd (L2.upd (L2.upd (L2.upd (L2.upd (L2.upd H1 e (.ext (IsX e (.ref (cl n))))) l1 (.lst (ydi [5,1,3,4] n))) l2 (.lst (ydi [2,7] n))) l3 (.lst (ydi [5,1,3,4,2,7] n))) l4 (.lst (ydi [8,9] n))) l5 (.lst (ydi ks n))) (a:=l6) (o:=.lst ([5,1,3,4,2,7,8,9].map fun n=>V.str (nmF (some n))))
  have e6:=u6 _ _ e1'
  have s6:=s1.trans u6
  refine⟨_,rfl,.inl ⟨rfl,_,SqL.of f5⟩,l5,ydi ks n,_,rfl,rfl,f5,rfl,rfl,rfl,_,rfl,?_⟩
  show if (decide (V.int (((ydi ks n).countP fun z=>eqV z (.bl true):Nat):Int)=V.int 1))=true then _ else _
  rw[yka hn (by decide)]
  refine ycl ⟨_,rfl,e,_,_,_,true,rfl,rfl,e6,Y.x _ hn,Y.v _ hn,_,rfl,?_⟩
  refine ycl ?_
  refine⟨_,rfl,_,rfl,.inl ⟨rfl,_,SqL.of f5⟩,l5,ydi ks n,_,ks.idxOf n,rfl,rfl,f5,rfl,rfl,yw4 hn,yu8,l6,ks.map fun n=>V.str (nmF (some n)),_,.str (nmF (some n)),rfl,rfl,SqL.of N6,yw5 hn,?_⟩
  rw[ha] at q
  exact⟨_,rfl,q _ s6⟩
theorem zbg (G_row_fault:Cal P w K mg base CX0 1 "_law_row_fault" yd1 ygp) (G_fault:Cal P w K mg base CX0 2 "_law_fault" ykb yp3) (G_deal:Cal P w K mg base CX0 2 "_law_deal" yot (yp1 tb)) (F:Fun K "_law_due" "_law_due" ysj f fd):FnOk P w K mg base CX0 3 f fd yve (yzo tb):=by
 refine F.ok sc_due (fun vs H Q E h=>?_) (fun cdv A outer s H vs Q E hr h=>?_)
 ·obtain ⟨l,o,tm,k,ts,ls,os,⟨t,rfl,_⟩,_⟩:=h;rfl
 obtain ⟨l,o,tm,k,ts,ls,os,⟨t,rfl,k0,k5,hR,h3,ln,hO,h2,on,hT,tn⟩,hTb,q⟩:=h
 refine⟨_,(yae (yb7 (yay yg7 (pv 0) yaf (ya7 _)) (yah (yat (zbb (yam G_row_fault hr rfl ya1 (yaj (pv 1) yab)) (yxf ybl)))) ya6)
  (yae (yas (i:=5) sc_due.nd rfl (Or.inl rfl) (yam G_fault hr rfl ya1 (yaj (pv 1) (yaj (pv 2) (yaj (pv 3) yab)))))
  (yae (yb7 (PW.pt (yo1 (yay yrg (pv 5) ybl (ya7 _)) (ykv (yay ylr (pv 0) yaf (ya7 _))))) (yah (yat (pv 5))) ya6)
  (yae (yb7 (yay yrg (yaq yar rfl B.len PySem.boot_len (yaj (pv 4) yab)) (yaq yar rfl B.len PySem.boot_len (yaj (pv 1) yab)) (ya7 _)) (yah (yat ybl)) ya6)
  (yae (ycr PassesOwn.never rfl (yqe rfl B.zip (yaj (pv 1) (yaj (pv 4) yab))) (ya8 rfl (yag (yai (i:=6) sc_due.nd rfl (Or.inl rfl)) (yag (yai (i:=7) sc_due.nd rfl (Or.inl rfl)) yax))) (yah (yb7 (PW.pt (yo1 (yay yil (pv 7) yaf (ya7 _)) (ykv (yay ylr (pv 7) (yba ybt (pv 6) yaf (fun _ _=>rfl)) (ya7 _))))) (yah (yat ybl)) ya6)))
  (yah (yat (ylq (yay ylr (yba ybt (yam G_deal hr rfl ya1 (yaj (pv 1) (yaj (pv 2) (yaj (pv 3) (yaj (pv 4) yab))))) yaf (fun _ _=>rfl)) yaf (ya7 _)) ybl ybl)))))))),?_⟩
 obtain ⟨xs,ex,hx⟩:=hR.tups
 have lx:=hx.1
 refine yeh (fun σ H'=>σ=[some (.int k),some (.ref l),some (.ref o),some (.int tm),some (.ref t),none,none,none]∧H=H'∧k≠2) (fun D' nx rt=>?_) ?_
 ·refine⟨_,rfl,rfl,_,rfl,?_⟩
  by_cases c2:k=2
  ·subst c2
   refine ycl ?_
   unfold ysq
   rw[rt]
   refine⟨_,rfl,l,ls,rfl,hR,fun r hr=>.inr (h3 r hr),fun H1 s1=>?_⟩
   rw[ykd] at q
   cases e:ya3 ls with
   |none=>
    rw[e] at q
    refine⟨false,⟨by decide,rfl⟩,?_⟩
    exact q _ s1
   |some n=>
    rw[e] at q
    refine⟨true,⟨?_,?_⟩,?_⟩
    ·rcases yge e with rfl|rfl|rfl|rfl <;> decide
    ·rcases yge e with rfl|rfl|rfl|rfl <;> rfl
    ·exact q _ s1
  ·rw[decide_eq_false (fun z=>c2 (V.int.inj z))]
   exact yct (nx _ _ ⟨rfl,rfl,c2⟩)
 rintro σ H' ⟨rfl,e,c2⟩
 subst e
 refine⟨_,rfl,_,rfl,_,rfl,.ref l,o,tm,ls,os,rfl,.inl ⟨l,rfl,hR⟩,fun r hr=>.inr (h3 r hr),hO,fun r hr=>.inl (h2 r hr),fun H1 s1=>?_⟩
 have hT1:=s1 _ _ hT
 have ex1:=s1 _ _ ex
 have hx1:=hx.same s1
 dsimp only
 refine yeh (fun σ H'=>σ=[some (.int k),some (.ref l),some (.ref o),some (.int tm),some (.ref t),some (.str (nmF none)),none,none]∧H1=H'∧ybj ls os tm=none∧k=0) (fun D' nx rt=>?_) ?_
 ·refine⟨_,rfl,rfl,_,rfl,?_⟩
  rw[yu7]
  cases e:ybj ls os tm with
  |some n=>
   refine ycl (ycl ?_)
   unfold ysq
   rw[rt]
   rw[yhm c2 e] at q
   exact⟨_,rfl,q _ s1⟩
  |none=>
   refine yct ⟨_,rfl,_,_,rfl,rfl,_,rfl,?_⟩
   by_cases c:(0:Int)<k
   ·rw[decide_eq_true c]
    refine ycl ?_
    unfold ysq
    rw[rt]
    rw[ygr c2 e,if_neg (by omega)] at q
    exact⟨_,rfl,q _ s1⟩
   ·rw[decide_eq_false c]
    exact yct (nx _ _ ⟨rfl,rfl,e,by omega⟩)
 rintro σ H' ⟨rfl,e,bn,kz⟩
 subst e
 rw[ygr c2 bn,if_pos kz] at q
 have bad:¬ ye9 ls ts→∀H',Same H H'→Q (.str "BadTaken") H':=fun z H' sm=>by rw[if_neg z] at q;exact q _ sm
 refine yeh (fun σ H'=>σ=[some (.int k),some (.ref l),some (.ref o),some (.int tm),some (.ref t),some (.str (nmF none)),none,none]∧H1=H'∧ts.length=ls.length) (fun D' nx rt=>?_) ?_
 ·refine⟨_,rfl,t,_,rfl,.inl (SqL.of hT1),_,rfl,l,_,rfl,.inl (SqL.of ex1),rfl,_,rfl,?_⟩
  rw[List.length_map]
  by_cases c:ts.length=ls.length
  ·rw[decide_eq_true (by rw[lx,c]:V.int (ts.length:Int)=V.int (xs.length:Int))]
   exact yct (nx _ _ ⟨rfl,rfl,c⟩)
  ·rw[decide_eq_false (by intro z;have:=V.int.inj z;omega:¬ V.int (ts.length:Int)=V.int (xs.length:Int))]
   refine ycl ?_
   unfold ysq
   rw[rt]
   exact bad (fun z=>c z.1) _ s1
 rintro σ H' ⟨rfl,e,tl⟩
 subst e
 refine yeh (fun σ H'=>∃o6 o7,σ=[some (.int k),some (.ref l),some (.ref o),some (.int tm),some (.ref t),some (.str (nmF none)),o6,o7]∧Same H1 H'∧ye9 ls ts) (fun D' nx rt=>?_) ?_
 ·refine⟨_,rfl,_,rfl,true,true,l,t,xs,_,rfl,SqL.of ex1,SqL.of hT1,?_⟩
  refine yo4 (xs:=xs) (ys:=ts.map V.int) (b1:=true) (b2:=true) (fun j σ H3=>∃o6 o7,σ=[some (.int k),some (.ref l),some (.ref o),some (.int tm),some (.ref t),some (.str (nmF none)),o6,o7]∧Same H1 H3∧yk7 ls ts j) ⟨_,_,rfl,Same.refl _,yjc⟩ ?_ ?_ ?_
  ·rintro j σ H3 hj ⟨o6,o7,rfl,sm,_⟩
   exact⟨SqL.of (sm _ _ ex1),SqL.of (sm _ _ hT1)⟩
  ·rintro j x y σ H3 p e1' e2' ⟨o6,o7,rfl,sm,hg⟩ hp
   obtain ⟨pr,r,rfl,er,hpr⟩:=hx1.at e1'
   obtain ⟨v,rfl,ev⟩:=yc1 e2'
   obtain ⟨d,cc,u,rfl⟩:=yl2 (h3 r (List.mem_of_getElem? er))
   have sp:=sm.trans (yad hp (.tup [.ref pr,.int v]))
   refine⟨p,_,rfl,SqT.of yaa,rfl,_,_,rfl,_,_,rfl,rfl,?_⟩
   have bad':¬ (0≤v∧v≤cc)→¬ ye9 ls ts:=fun z ok=>z (ok.2 j _ _ (List.getElem?_eq_some_iff.mp er).1 er ev)
   refine⟨_,rfl,_,_,rfl,rfl,_,rfl,?_⟩
   by_cases c1:v<0
   ·rw[decide_eq_true c1]
    refine ycl (ycl ?_)
    unfold ysq
    show tC _ _ _ D'.rt
    rw[rt]
    exact bad (bad' fun z=>by omega) _ (s1.trans sp)
   ·rw[decide_eq_false c1]
    refine yct ⟨_,rfl,_,rfl,pr,_,_,.int cc,rfl,rfl,SqT.of (sp _ _ hpr),rfl,_,_,rfl,rfl,_,rfl,?_⟩
    by_cases c2:cc<v
    ·rw[decide_eq_true c2]
     refine ycl ?_
     unfold ysq
     show tC _ _ _ D'.rt
     rw[rt]
     exact bad (bad' fun z=>by omega) _ (s1.trans sp)
    ·rw[decide_eq_false c2]
     exact yct ⟨_,_,rfl,sp,(yjd er ev).mpr ⟨hg,by omega,by show v≤cc;omega⟩⟩
  ·rintro σ H3 ⟨o6,o7,rfl,sm,hg⟩
   rw[List.length_map,show min xs.length ts.length=ls.length by omega] at hg
   exact nx _ _ ⟨_,_,rfl,sm,tl,hg⟩
 rintro σ H2 ⟨o6,o7,rfl,s2,tk⟩
 have S2:=s1.trans s2
 rw[if_pos tk] at q
 refine⟨_,rfl,_,rfl,_,rfl,_,rfl,l,o,t,tm,ls,os,ts,rfl,hTb.same S2,hR.same S2,h3,ln,hO.same S2,h2,on,S2 _ _ hT,tl,fun q' l' ages outs H3 hq' hl' oa ob s3 R3 e3=>?_⟩
 obtain ⟨rn,onn,rb,ob'⟩:=ypu bn
 obtain ⟨l0,l1⟩:=yw2 (yoi bn).1 oa ob (yza ob' h2) tl (fun u hu=>by
  obtain ⟨j,hj,rfl⟩:=List.getElem_of_mem hu
  have hj':j<ls.length:=by omega
  exact(tk.2 j _ _ hj' (List.getElem?_eq_getElem hj') (List.getElem?_eq_getElem hj)).1)
 refine⟨q',_,_,.int (yj7 ls os tm ages outs ts).1.sum,rfl,rfl,SqT.of e3,rfl,_,_,rfl,rfl,_,rfl,?_⟩
 generalize (yj7 ls os tm ages outs ts).1.sum=sm0 at *
 by_cases c3:0<sm0
 ·rw[decide_eq_true c3]
  rw[if_neg (fun z=>by rw[← l1] at z;omega)] at q
  exact ycl (q _ (S2.trans s3))
 ·rw[decide_eq_false c3]
  rw[if_pos (l1.mp (by omega))] at q
  exact yct (q _ (S2.trans s3))
variable (G_begin:Cal P w K mg base CX0 1 "_law_begin" yi7 (yo5 K)) (G_pick:Cal P w K mg base CX0 1 "_law_pick" yih yig) (G_odd:Cal P w K mg base CX0 2 "_law_odd" ysc yvy) (G_spoilt_case:Cal P w K mg base CX0 4 "_law_spoilt_case" ydj ygf)
 (G_said:Cal P w K mg base CX0 8 "_law_said" yov yvg) (G_due:Cal P w K mg base CX0 3 "_law_due" yve (yzo tb))
include G_begin G_pick G_odd G_spoilt_case G_said G_due
theorem zbh (F:Fun K "law" "law" yku f fd):FnOk P w K mg base CX0 9 f fd zbe (yxd K tb):=by
 refine F.ok sc_law (fun vs H Q E h=>?_) (fun cdv A outer s H vs Q E hr h=>?_)
 ·obtain ⟨a,ns,rfl,_⟩:=h;rfl
 obtain ⟨a0,ns,rfl,hTb,hS,hlen,q⟩:=h
 refine⟨_,(yae (yas (i:=1) sc_law.nd rfl (Or.inr rfl) (yam G_begin hr rfl ya1 (yaj (pv 0) yab)))
  (yae (ycr PassesOwn.never rfl (yg4 rfl B.range (yaj yaf yab)) (yai (i:=2) sc_law.nd rfl (Or.inl rfl)) (yae (ych (yam G_spoilt_case hr rfl ya1 (yaj (pv 1) (yaj yaf yab))) (ya8 rfl (yag (yai (i:=3) sc_law.nd rfl (Or.inl rfl)) (yag (yai (i:=4) sc_law.nd rfl (Or.inl rfl)) (yag (yai (i:=5) sc_law.nd rfl (Or.inl rfl)) yax)))))
   (yae (yel (i:=6) sc_law.nd rfl (Or.inl rfl) (N':=["_law_lot","_law_draw"]) (ix:=[none,some 1]) (g:=(ybg 0)) (ti:=ykh) (te:=(ykf yig [] E0 (ybn (ycc 1) (ybn (tOp (yvj K) (ys1 (ybn (tC (.int 1)) (ybn (tC (.int 3)) (ybn (tC (.int 9)) yky)))) (ykf yig [] E0 (ybn (ycc 1) (ybn (tC (.int 3)) yky)))) yky)))) rfl (yaw (N:=zbd) (D:=yac yku) (by decide +kernel)) (ya9 (pv 3)) (fun C s H fp=>(yai (i:=0) (show (["_law_lot","_law_draw"]:List Str).Nodup by decide +kernel) rfl (Or.inl rfl))) (fun C s H fp=>ybs) (fun C s H fp=>(yam G_pick hr rfl ya1 (yaj (pv 1) (yaj (yba ybt (ybd (yaj yaf (yaj yaf (yaj yaf yab)))) (yam G_pick hr rfl ya1 (yaj (pv 1) (yaj yaf yab))) (fun _ _=>rfl)) yab)))))
   (yae (yb7 (yay yg7 (yam G_pick hr rfl ya1 (yaj (pv 1) (yaj yaf yab))) yaf (ya7 _)) (yah (yas (i:=6) sc_law.nd rfl (Or.inl rfl) (yd6 ygx (ybh yg8 (yb5 (yaj (yam G_odd hr rfl ya1 (yaj (pv 1) yab)) yab)) (pv 6)) ye7 (ye8 (ybh ycs (yaq yar rfl B.len PySem.boot_len (yaj (pv 3) yab)) (yam G_pick hr rfl ya1 (yaj (pv 1) (yaj yaf yab)))))))) ya6)
   (yah (ycr PassesOwn.never rfl (yg4 rfl B.range (yaj yaf yab)) (yai (i:=7) sc_law.nd rfl (Or.inl rfl)) (yah (yb7 (yay yrg (yam G_said hr rfl ya1 (yaj (pv 7) (yaj (pv 3) (yaj (pv 4) (yaj (pv 5) (yaj (pv 6) yab)))))) (yam G_due hr rfl ya1 (yaj (pv 7) (yaj (pv 3) (yaj (pv 4) (yaj (pv 5) (yaj (pv 6) yab)))))) (ya7 _)) (yah (yat yke)) ya6))))))))
  (yah (yat yke)))),?_⟩
 refine⟨_,rfl,a0,ns,rfl,hS,hlen,fun a c H1 ha hc s1 d1=>?_⟩
 refine⟨3,rfl,by decide,by decide,yg6 (n:=3) (fun _ σ H2=>∃o2 o3 o4 o5 o6 o7,σ=[some (.ref a0),some (.ref a),o2,o3,o4,o5,o6,o7]∧DrawAt H2 a c∧Tb tb H2) ⟨_,_,_,_,_,_,rfl,d1,hTb.same s1⟩ ?_ ?_⟩
 ·clear d1 s1 ha hc hS H1 hTb
  rintro ii σ H2 hii ⟨o2,o3,o4,o5,o6,o7,rfl,d2,T2⟩
  refine⟨_,rfl,a,c,6,rfl,d2,by decide,by decide,fun t l o tm ls os H3 nla noa h3 h2 ln on d3 kb3 R3l R3o ht=>?_⟩
  refine⟨t,_,rfl,SqT.of ht,rfl,_,_,rfl,_,_,rfl,_,_,rfl,rfl,?_⟩
  have T3:=T2.keep d2 kb3
  obtain ⟨xs,ex,hx⟩:=R3l.tups
  have lx:=hx.1
  refine⟨_,rfl,l,rfl,⟨xs,SqL.of ex⟩,fun D hD=>?_⟩
  refine yu4 (fun j zs H'=>∃ts:List Int,zs=ts.map V.int) hD ex nla d3 (by omega) (fun j zs H' H'' h _ _=>h) ⟨[],rfl⟩ (fun j v zs H6 ev hz kb6 d6 hp K1 k1=>?_) fun zs H6 kb6 d6 hp lz hD6=>?_
  ·obtain ⟨ts,rfl⟩:=hp
   refine⟨ya5 ybi rfl,?_⟩
   refine⟨_,rfl,by show 3≤sizeLine;decide,fun tp htp=>?_⟩
   have s7:=yad (H:=H6) htp (.tup [.int 1,.int 3,.int 9])
   refine⟨_,rfl,a,c,3,rfl,d6.same s7,by decide,by decide,fun y H7 y0 y1 d7 kb7=>?_⟩
   have tp7:H7 tp=some (.tup [.int 1,.int 3,.int 9]):=kb7 _ _ ((d6.same s7).neT yaa) yaa
   obtain ⟨m,hm,m0,m1⟩ : ∃m:Int,atI [V.int 1,V.int 3,V.int 9] y=some (.int m)∧0<m∧m<18446744073709551616:=by
    have:y=0∨y=1∨y=2:=by omega
    rcases this with rfl|rfl|rfl
    ·exact⟨1,rfl,by decide,by decide⟩
    ·exact⟨3,rfl,by decide,by decide⟩
    ·exact⟨9,rfl,by decide,by decide⟩
   refine⟨tp,_,_,.int m,rfl,rfl,SqT.of tp7,hm,a,c,m,rfl,d7,m0,m1,fun y' H8 _ _ d8 kb8=>k1 _ H8 (((KeepBut.of_same s7).trans kb7).trans kb8) d8 ⟨ts++[y'],by rw[List.map_append];rfl⟩⟩
  obtain ⟨ts,rfl⟩:=hp
  rw[List.length_map] at lz
  have nDa:D≠a:=d3.ne hD
  have T6:=T3.keep d3 kb6
  have L6:=R3l.keep nla d3 kb6
  have O6:=R3o.keep noa d3 kb6
  dsimp only
  refine yeh (fun σ H'=>∃p ts,σ=[some (.ref a0),some (.ref a),some (.int (0+(ii:Int))),some (.ref l),some (.ref o),some (.int tm),some (.ref p),o7]∧DrawAt H' a c∧Tb tb H'∧Rows H' l ls∧Rows H' o os∧ybf H' p ts∧ts.length≤100) (fun D' nx _=>?_) ?_
  ·refine⟨_,rfl,a,c,4,rfl,d6,by decide,by decide,fun y H5 _ _ d5 kb5=>⟨rfl,_,rfl,?_⟩⟩
   have T5:=T6.keep d6 kb5
   have L5:=L6.keep nla d6 kb5
   have O5:=O6.keep noa d6 kb5
   have I5:ybf H5 D ts:=kb5 _ _ nDa hD6
   refine ys9 (fun _=>?_) (fun _=>nx _ _ ⟨D,_,rfl,d5,T5,L5,O5,I5,by omega⟩)
   refine⟨_,rfl,a,c,rfl,d5,fun y1 H6 d6 kb6=>⟨by show 1≤sizeLine;decide,fun p1 hp1=>?_⟩⟩
   have I6:ybf H6 D ts:=kb6 _ _ nDa I5
   have u1:=yad (H:=H6) hp1 (.lst [.int y1])
   refine⟨_,rfl,p1,D,_,_,rfl,rfl,yaa,u1 _ _ I6,Nat.le_of_lt (yau (by rw[List.length_map];show 1+_≤1000;omega)),fun p2 hp2=>?_⟩
   have u2:=u1.trans (yad hp2 (.lst ([.int y1]++ts.map V.int)))
   have T6:=(T5.keep d5 kb6).same u2
   have L6:=(L5.keep nla d5 kb6).same u2
   have O6:=(O5.keep noa d5 kb6).same u2
   have d6':=d6.same u2
   have np2:p2≠a:=(d6.same u1).ne hp2
   have I6':=yaa (H:=L2.upd H6 p1 (.lst [.int y1])) (a:=p2) (o:=.lst ([.int y1]++ts.map V.int))
   generalize L2.upd (L2.upd H6 p1 (.lst [.int y1])) p2 (.lst ([.int y1]++ts.map V.int))=H7 at *
   obtain ⟨xs6,ex6,hx6⟩:=L6.tups
   refine⟨_,rfl,l,_,rfl,.inl (SqL.of ex6),_,rfl,a,c,2,rfl,d6',by decide,by decide,fun y2 H8 _ _ d8 kb8=>⟨_,_,rfl,rfl,_,rfl,p2,_,rfl,SqL.of (kb8 _ _ np2 I6'),fun p3 hp3=>?_⟩⟩
   obtain ⟨ms,em,ml⟩:=yqi (y1::ts) none (some ((xs6.length:Int)+y2))
   change yi2 ([.int y1]++ts.map V.int) _ _=_ at em
   rw[em]
   have u3:=yad (H:=H8) hp3 (.lst (ms.map V.int))
   rw[List.length_cons] at ml
   exact nx _ _ ⟨p3,ms,rfl,d8.same u3,(T6.keep d6' kb8).same u3,(L6.keep nla d6' kb8).same u3,(O6.keep noa d6' kb8).same u3,yaa,by omega⟩
  clear T6 L6 O6 hD6 d6 kb6 nDa lz ts
  rintro σ H4 ⟨p,ts,rfl,d4,T4,L4,O4,I4,tl⟩
  refine⟨5,rfl,by decide,by decide,yg6 (n:=5) (fun _ σ H9=>∃o7,σ=[some (.ref a0),some (.ref a),some (.int (0+(ii:Int))),some (.ref l),some (.ref o),some (.int tm),some (.ref p),o7]∧Same H4 H9) ⟨_,rfl,Same.refl _⟩ ?_ ?_⟩
  ·rintro jj σ H9 hjj ⟨o7,rfl,s9⟩
   refine⟨_,rfl,_,rfl,_,rfl,_,rfl,_,rfl,l,o,tm,(0+(jj:Int)),ts,ls,os,⟨p,rfl,by omega,by omega,L4.same s9,h3,ln,O4.same s9,h2,on,s9 _ _ I4,tl⟩,fun H10 s10=>?_⟩
   have S10:=s9.trans s10
   refine⟨_,rfl,_,rfl,_,rfl,_,rfl,_,rfl,l,o,tm,(0+(jj:Int)),ts,ls,os,⟨p,rfl,by omega,by omega,L4.same S10,h3,ln,O4.same S10,h2,on,S10 _ _ I4,tl⟩,T4.same S10,fun H11 s11=>⟨rfl,_,rfl,?_⟩⟩
   rw[decide_eq_true rfl]
   exact yct ⟨_,rfl,S10.trans s11⟩
  rintro σ H9 ⟨o7,rfl,s9⟩
  exact⟨_,_,_,_,_,_,rfl,d4.same s9,T4.same s9⟩
 ·rintro σ H2 ⟨o2,o3,o4,o5,o6,o7,rfl,d2,T2⟩
  exact q _ T2
end
end K28
namespace L2
open PySem PySem.Spec PySem.W PyProof.Rows
theorem yvh {P:Program}{w:World}{K:PySem.W.Frag}{mg mb:Str→Option Value}{CX:CXT}{k:Nat}{fa a:Addr}{fd:FuncData}{x:Str}{sp:Sp}{s₁:Shared}{vs:List Value}{ns:List Int}{tb:Tbs}
 (KX:K.In s₁.heap) (hns:s₁.heap.Ns mainGlobals mg) (hb:s₁.heap.Ns builtinsNs mb) (hbb:∀x:Str,x ≠ "__name__" → mb x=bootBuiltins x) (hlim:s₁.heap.NoLimit) (hbm:ymz mg s₁.heap) (hg:s₁.gens = #[])
 (ha:s₁.heap.get? a=some { cls:=.type "list",data:=.seq vs.toArray }) (hi:IntsAre vs ns) (hl:ns.length≤sizeLine) (hr:Room k callerA)
 (hnd:(tb.map (·.1)).Nodup) (htab:∀t∈tb,s₁.heap.get? t.1=some (tabObj #[])∧K.lookup t.1=none∧∃c,codeHdIn K c t.1=true)
 (F:∀base:Heap,K.In base→base.Ns mainGlobals mg→ymz mg base→FnOk P w K mg base CX k fa fd [x] sp) (hbind:∀(s:Shared) (u:Value),BindsTo s fd ⟨[u],[]⟩ [(x,u)])
 (hsp:∀H:Hp,Tb tb H→SqL K H a (ns.map V.int)→sp [.ref a] H (fun v H'=>v = .bl true∧Tb tb H') fun _ _ _=>False)
 (hCX:∀H e s',CX [] H s₁ (fun _ _ _=>False) e s'→False) :
 codeAny (model P w) callerA (.call (.ref fa) ⟨[.ref a],[]⟩) (fun r s'=>r = .ok (.ret (.bool true))∧OldK s₁.heap s'.heap∧s'.os=s₁.os∧AllBare s'.gens) s₁:=by
 have rv:=ynj hi
 have lenV:=hi.length
 have core:∀H:Hp,(∀b u,H b=some u→(b=a∧∃o xs,u = .frz o (.lst xs))∨∃t∈tb,b=t.1∧u = .cod t.2.1 t.2.2)→Tb tb H→SqL K H a (ns.map V.int)→HOk P w H s₁.heap→(H a≠none→K.lookup a=none)→
  codeAny (model P w) callerA (.call (.ref fa) ⟨[.ref a],[]⟩) (fun r s'=>r = .ok (.ret (.bool true))∧OldK s₁.heap s'.heap∧s'.os=s₁.os∧AllBare s'.gens) s₁:=by
  intro H hO hT hS hok hK
  have base_of:∀{b:Addr}{o:Obj},s₁.heap.get? b=some o→H b=none→(yvi s₁.heap H).get? b=some o:=fun e n=>yvk e n
  have noA:∀{b:Addr}{o:Obj},s₁.heap.get? b=some o→o≠{ cls:=.type "list",data:=.seq vs.toArray }→o≠tabObj #[]→H b=none:=fun {b o} e d1 d2=>by
   cases q:H b with
   |none=>rfl
   |some u=>
    rcases hO b u q with ⟨e',_⟩ | ⟨t,ht,e',_⟩
    ·rw[e',ha] at e;exact absurd (Option.some.inj e).symm d1
    ·rw[e',(htab t ht).1] at e;exact absurd (Option.some.inj e).symm d2
  have nsK:∀{b:Addr}{m:Str→Option Value},s₁.heap.Ns b m→(yvi s₁.heap H).Ns b m:=fun {b m} ⟨o,es,ep,e,d,r⟩=>⟨o,es,ep,base_of e (noA e (fun z=>by rw[z] at d;cases d) fun z=>by rw[z] at d;cases d),d,r⟩
  have hKb:K.In (yvi s₁.heap H):=fun b o e=>base_of (KX b o e) (by
   cases q:H b with
   |none=>rfl
   |some u=>
    rcases hO b u q with ⟨e',_⟩ | ⟨t,ht,e',_⟩
    ·subst e'
     rw[hK (by rw[q];simp)] at e;cases e
    ·rw[e',(htab t ht).2.1] at e;cases e)
  have hM:Mod K mg (yvi s₁.heap H):=⟨hKb,nsK hns,⟨mb,nsK hb,hbb⟩,let ⟨mc,h1,h2⟩:=hlim;⟨mc,nsK h1,h2⟩⟩
  have hBM:ymz mg (yvi s₁.heap H):=by
   obtain ⟨bm,ob,b1,b2,b3,b4,b5,b6⟩:=hbm
   exact⟨bm,ob,b1,b2,base_of b3 (noA b3 (fun z=>by rw[z] at b6;cases b6) fun z=>by rw[z] at b6;cases b6),b4,b5,b6⟩
  have e0:Env0 P w K mg (yvi s₁.heap H) callerA [] s₁ H:=⟨rfl,hM,fun b o e=>yx1 e,Nat.le_of_eq (ysp _ _),trivial,fun b hb=>absurd (show b∈([]:List Addr) from hb) (by simp),hok,.of_eq hg⟩
  refine codeAny_mono ((F _ hKb (nsK hns) hBM).run callerA [] s₁ H ⟨[.ref a],[]⟩ [.ref a] [.ref a] _ _ hr e0 (hbind s₁ (.ref a)) (.cons rfl .nil) (hsp H hT hS)) fun r s' h=>?_
  cases r with
  |error e=>exact(hCX H e s' h).elim
  |ok fl=>
   cases fl with
   |next=>exact False.elim h
   |brk=>exact False.elim h
   |cont=>exact False.elim h
   |ret u=>
    obtain ⟨v,H',os,bare,un,hok',r',q⟩:=h
    have q':v = .bl true∧Tb tb H':=q
    obtain ⟨rfl,hT'⟩:=q'
    obtain rfl:u=Value.bool true:=r'
    have old:∀b o,s₁.heap.get? b=some o→s'.heap.get? b=some o∨∃t∈tb,b=t.1:=fun b o e=>by
     cases q:H b with
     |none=>exact .inl (un.keep b o e q (by intro z;exact absurd (show b∈([]:List Addr) from z) (by simp)) (by simp))
     |some u=>
      rcases hO b u q with ⟨e',ob,xs,z⟩ | ⟨t,ht,e',_⟩
      ·subst z
       have z2:=un.frzs b ob _ q
       obtain ⟨e1,_⟩:=hok b _ q
       obtain ⟨e2,_⟩:=hok' b _ z2
       rw[e] at e1;cases e1
       exact .inl e2
      ·exact .inr ⟨t,ht,e'⟩
    refine⟨rfl,⟨fun b o e=>?_,fun b o e=>?_⟩,os,bare⟩
    ·rcases old b o e with z|⟨t,ht,rfl⟩
     ·exact .inl z
     ·obtain ⟨h1,_,c,hc⟩:=htab t ht
      rw[h1] at e;cases e
      have tt:s₁.heap.TableAt c t.1 #[]:=(codeHd_of_K KX hc).tab h1
      rcases (show ObjOk P w H' s'.heap t.1 (.cod t.2.1 t.2.2) from hok' _ _ (hT' t ht)) with z|⟨c',z,_⟩
      ·exact .inl z
      ·exact .inr (.inl ⟨tt.isCodeTable,rfl,#[],_,rfl,by rw[z];simp;rfl⟩)
    ·rcases old b o e with z|⟨t,ht,rfl⟩
     ·exact⟨o,z⟩
     ·rcases (show ObjOk P w H' s'.heap t.1 (.cod t.2.1 t.2.2) from hok' _ _ (hT' t ht)) with z|⟨c',z,_⟩
      ·exact⟨_,z⟩
      ·exact⟨_,z⟩
 have look:∀(l:Tbs) (b:Addr),(∃t∈l,t.1=b∧(l.find? fun t=>t.1 == b)=some t)∨((∀t∈l,t.1≠b)∧(l.find? fun t=>t.1 == b)=none):=fun l b=>by
  cases e:l.find? fun t=>t.1 == b with
  |none=>exact .inr ⟨fun t ht z=>by have:=List.find?_eq_none.mp e t ht;simp [z] at this,rfl⟩
  |some t=>exact .inl ⟨t,List.mem_of_find?_eq_some e,by simpa using List.find?_some e,rfl⟩
 have uniq:∀t∈tb,(tb.find? fun s=>s.1 == t.1)=some t:=fun t ht=>by
  rcases look tb t.1 with ⟨s,hs,e,f⟩ | ⟨n,_⟩
  ·rw[f]
   have:s=t:=by
    obtain ⟨i,hi,ei⟩:=List.getElem_of_mem hs
    obtain ⟨j,hj,ej⟩:=List.getElem_of_mem ht
    have h1:(tb.map (·.1))[i]'(by simpa using hi)=(tb.map (·.1))[j]'(by simpa using hj):=by simp [ei,ej,e]
    have:=(List.getElem_inj hnd).mp h1
    subst this
    rw[← ei,← ej]
   rw[this]
  ·exact absurd rfl (n t ht)
 have nat:∀t∈tb,t.1≠a:=fun t ht z=>by
  have:=(htab t ht).1
  rw[z,ha] at this;cases this
 cases hk:K.lookup a with
 |some o=>
  have e:=KX a o hk
  rw[ha] at e
  cases e
  refine core (fun b=>(tb.find? fun t=>t.1 == b).map fun t=>.cod t.2.1 t.2.2) (fun b u h=>?_) (fun t ht=>by show (tb.find? fun s=>s.1 == t.1).map _=_;rw[uniq t ht];rfl) (.inr ⟨_,vs.toArray,_,hk,rfl,rfl,rfl,by rw[List.size_toArray,lenV];exact hl,by simpa using rv⟩) (fun b u h=>?_) fun z=>?_
  ·rcases look tb b with ⟨t,ht,e,f⟩ | ⟨_,f⟩
   ·have h':(tb.find? fun t=>t.1 == b).map (fun t=>HO.cod t.2.1 t.2.2)=some u:=h
    rw[f] at h';cases h'
    exact .inr ⟨t,ht,e.symm,rfl⟩
   ·have h':(tb.find? fun t=>t.1 == b).map (fun t=>HO.cod t.2.1 t.2.2)=some u:=h
    rw[f] at h';cases h'
  ·rcases look tb b with ⟨t,ht,e,f⟩ | ⟨_,f⟩
   ·have h':(tb.find? fun t=>t.1 == b).map (fun t=>HO.cod t.2.1 t.2.2)=some u:=h
    rw[f] at h';cases h'
    exact .inl (by rw[← e];exact(htab t ht).1)
   ·have h':(tb.find? fun t=>t.1 == b).map (fun t=>HO.cod t.2.1 t.2.2)=some u:=h
    rw[f] at h';cases h'
  ·rcases look tb a with ⟨t,ht,e,_⟩ | ⟨_,f⟩
   ·exact absurd e (nat t ht)
   ·exact absurd (show (tb.find? fun t=>t.1 == a).map (fun t=>HO.cod t.2.1 t.2.2)=none by rw[f];rfl) z
 |none=>
  refine core (fun b=>if b=a then some (.frz { cls:=.type "list",data:=.seq vs.toArray } (.lst (ns.map V.int))) else (tb.find? fun t=>t.1 == b).map fun t=>.cod t.2.1 t.2.2) (fun b u h=>?_) (fun t ht=>?_) (.inl (.inr ⟨{ cls:=.type "list",data:=.seq vs.toArray },if_pos rfl⟩)) (fun b u h=>?_) fun _=>hk
  ·by_cases hb:b=a
   ·have h':=(if_pos hb).symm.trans h
    cases h'
    exact .inl ⟨hb,_,_,rfl⟩
   ·have h':(tb.find? fun t=>t.1 == b).map (fun t=>HO.cod t.2.1 t.2.2)=some u:=(if_neg hb).symm.trans h
    rcases look tb b with ⟨t,ht,e,f⟩ | ⟨_,f⟩
    ·rw[f] at h';cases h'
     exact .inr ⟨t,ht,e.symm,rfl⟩
    ·rw[f] at h';cases h'
  ·show (if t.1=a then _ else (tb.find? fun s=>s.1 == t.1).map _)=_
   rw[if_neg (nat t ht),uniq t ht];rfl
  ·by_cases hb:b=a
   ·have h':=(if_pos hb).symm.trans h
    cases h'
    subst hb
    exact⟨ha,by rw[List.length_map];exact hl,vs,_,rv,ha⟩
   ·have h':(tb.find? fun t=>t.1 == b).map (fun t=>HO.cod t.2.1 t.2.2)=some u:=(if_neg hb).symm.trans h
    rcases look tb b with ⟨t,ht,e,f⟩ | ⟨_,f⟩
    ·rw[f] at h';cases h'
     exact .inl (by rw[← e];exact(htab t ht).1)
    ·rw[f] at h';cases h'
theorem walk_tab {l:PySem.W.OpenLaw}{n k:Nat}{q:Program}{loose:List Str}{XP:(Str→Option Value)→Heap→Prop}{YP:World→Heap→Prop}{d:DefRec}{K:Params→PySem.W.Frag}{ts:List Addr}{x:Str}{sp:PySem.W.Frag→Tbs→Sp}
 (hn:l.most=some n) (hn2:n≤sizeLine) (hdf:d.params.defaults=[]) (hr:Room k callerA)
 (hY:∀(w:World) (h:Heap),YP w h→(K w.params).In h∧∀P∈ts,h.get? P=some (tabObj #[]))
 (F:∀(w:World) (mg:Str→Option Value) (fa:Addr) (h:Heap),(K w.params).In h→h.Ns mainGlobals mg→mg d.name=some (.ref fa)→
  ∃(fd:FuncData) (tb:Tbs),((tb.map (·.1)).Nodup∧∀t∈tb,t.1∈ts∧(K w.params).lookup t.1=none∧∃c,codeHdIn (K w.params) c t.1=true)∧(∀(s:Shared) (u:Value),BindsTo s fd ⟨[u],[]⟩ [(x,u)])∧
   ∀base:Heap,(K w.params).In base→base.Ns mainGlobals mg→ymz mg base→FnOk l.prog w (K w.params) mg base CX0 k fa fd [x] (sp (K w.params) tb))
 (hsp:∀(K:PySem.W.Frag) (tb:Tbs) (H:Hp) (a:Addr) (ns:List Int),ns.length≤n→Tb tb H→SqL K H a (ns.map V.int)→sp K tb [.ref a] H (fun v H'=>v = .bl true∧Tb tb H') fun _ _ _=>False) :
 PySem.W.WalkO q loose XP YP l.row.toRowW d [] (fun f vs=>PySem.call f vs):=by
 refine Att.attach_call hn hdf fun w s₀ s₁ mg mb fa o pm cd doc a vs ns G Y ho hd hcd hmg hobj hints hlen hg=>?_
 obtain ⟨KX,TX⟩:=hY w _ Y
 obtain ⟨fd,tb,⟨hnd,htb⟩,hb,hF⟩:=F w mg fa _ KX G.T.g hmg
 exact yvh KX G.T.g G.T.b G.T.builtins G.T.nolimit G.T.bmain hg hobj hints (Nat.le_trans hlen hn2) hr hnd (fun t ht=>⟨TX _ (htb t ht).1,(htb t ht).2⟩) hF hb (fun H hT hS=>hsp (K w.params) tb H a ns hlen hT hS) fun H e s' h=>h
end L2
namespace K28
open PySem L2
def clF (c_0 c_1 c_2 c_3 c_4 c_5 c_7 c_8 c_9:Addr):Nat→Addr
 |0=>c_0
 |1=>c_1
 |2=>c_2
 |3=>c_3
 |4=>c_4
 |5=>c_5
 |7=>c_7
 |8=>c_8
 |9=>c_9
 |_=>c_0
theorem all_mk {l:W.OpenLaw}{w:World}{K:W.Frag}{h:Heap}{mg:Str→Option Value}{fa f0 f1 f2 f3 f4 f5 f6 f7 f8 f9 f10 f11 f12 f13 f14 f15 f16 f17 f18 f19 f20 f21 f22 f23 f24 f25 f26 f27 f28 f29 f30 f31 f32 f33 f34 f35 f36 f37 f38 f39 f40 f41 f42 f43 f44 f45 f46 f47 f48 f49 f50 f51 f52 f53 f54 f55 f56 f57 c_0 c_1 c_2 c_3 c_4 c_5 c_7 c_8 c_9 cc42 PP42:Addr}{u_FIRST_DAY u_LAST_DAY u_MOST_TERM u_MOST_ROWS u_MOST_COUNT u_MOST_DUTY:Tok} (X:K.In h) (G:h.Ns mainGlobals mg) (hfa:mg "law" = some (.ref fa)) {ts:List Addr}
 {d0 e0 d1 e1 d2 e2 d3 e3 d4 e4 d5 e5 d6 e6 d7 e7 d8 e8 d9 e9 d10 e10 d11 e11 d12 e12 d13 e13 d14 e14 d15 e15 d16 e16 d17 e17 d18 e18 d19 e19 d20 e20 d21 e21 d22 e22 d23 e23 d24 e24 d25 e25 d26 e26 d27 e27 d28 e28 d29 e29 d30 e30 d31 e31 d32 e32 d33 e33 d34 e34 d35 e35 d36 e36 d37 e37 d38 e38 d39 e39 d40 e40 d41 e41 d42 e42 d43 e43 d44 e44 d45 e45 d46 e46 d47 e47 d48 e48 d49 e49 d50 e50 d51 e51 d52 e52 d53 e53 d54 e54 d55 e55 d56 e56 d57 e57 to42:Option Addr}{g0 g1 g2 g3 g4 g5 g6 g7 g8 g9 g10 g11 g12 g13 g14 g15 g16 g17 g18 g19 g20 g21 g22 g23 g24 g25 g26 g27 g28 g29 g30 g31 g32 g33 g34 g35 g36 g37 g38 g39 g40 g41 g42 g43 g44 g45 g46 g47 g48 g49 g50 g51 g52 g53 g54 g55 g56 g57 ts42:Array (Option Value)}{tv42:Array Value}{tc42:Value}{i0 j0 n0 p0 r0 s0 i1 j1 n1 p1 r1 s1 i2 j2 n2 p2 r2 s2 i3 j3 n3 p3 r3 s3 i4 j4 n4 p4 r4 s4 i5 j5 n5 p5 r5 s5 i6 j6 n6 p6 r6 s6 i7 j7 n7 p7 r7 s7 i8 j8 n8 p8 r8 s8 i9 j9 n9 p9 r9 s9 i10 j10 n10 p10 r10 s10 i11 j11 n11 p11 r11 s11 i12 j12 n12 p12 r12 s12 i13 j13 n13 p13 r13 s13 i14 j14 n14 p14 r14 s14 i15 j15 n15 p15 r15 s15 i16 j16 n16 p16 r16 s16 i17 j17 n17 p17 r17 s17 i18 j18 n18 p18 r18 s18 i19 j19 n19 p19 r19 s19 i20 j20 n20 p20 r20 s20 i21 j21 n21 p21 r21 s21 i22 j22 n22 p22 r22 s22 i23 j23 n23 p23 r23 s23 i24 j24 n24 p24 r24 s24 i25 j25 n25 p25 r25 s25 i26 j26 n26 p26 r26 s26 i27 j27 n27 p27 r27 s27 i28 j28 n28 p28 r28 s28 i29 j29 n29 p29 r29 s29 i30 j30 n30 p30 r30 s30 i31 j31 n31 p31 r31 s31 i32 j32 n32 p32 r32 s32 i33 j33 n33 p33 r33 s33 i34 j34 n34 p34 r34 s34 i35 j35 n35 p35 r35 s35 i36 j36 n36 p36 r36 s36 i37 j37 n37 p37 r37 s37 i38 j38 n38 p38 r38 s38 i39 j39 n39 p39 r39 s39 i40 j40 n40 p40 r40 s40 i41 j41 n41 p41 r41 s41 i42 j42 n42 p42 s42 i43 j43 n43 p43 r43 s43 i44 j44 n44 p44 r44 s44 i45 j45 n45 p45 r45 s45 i46 j46 n46 p46 r46 s46 i47 j47 n47 p47 r47 s47 i48 j48 n48 p48 r48 s48 i49 j49 n49 p49 r49 s49 i50 j50 n50 p50 r50 s50 i51 j51 n51 p51 r51 s51 i52 j52 n52 p52 r52 s52 i53 j53 n53 p53 r53 s53 i54 j54 n54 p54 r54 s54 i55 j55 n55 p55 r55 s55 i56 j56 n56 p56 r56 s56 i57 j57 n57 p57 r57 s57:Value}
 (a0:W.nsIn K mainGlobals "is_day" = some (some (.ref f0)))
 (l0:K.lookup f0=some ⟨i0,d0,.func (W.fnOf "is_day" "is_day" (yap ygk) (yao ygk) (yac ygk) .none j0 n0 p0 e0 r0 s0),g0⟩)
 (c0:W.codeIn K r0 "is_day" = true)
 (k0:W.keepIn K (.ref f0)=true)
 (a1:W.nsIn K mainGlobals "check_day" = some (some (.ref f1)))
 (l1:K.lookup f1=some ⟨i1,d1,.func (W.fnOf "check_day" "check_day" (yap ydu) (yao ydu) (yac ydu) .none j1 n1 p1 e1 r1 s1),g1⟩)
 (c1:W.codeIn K r1 "check_day" = true)
 (k1:W.keepIn K (.ref f1)=true)
 (a2:W.nsIn K mainGlobals "check_term" = some (some (.ref f2)))
 (l2:K.lookup f2=some ⟨i2,d2,.func (W.fnOf "check_term" "check_term" (yap yc5) (yao yc5) (yac yc5) .none j2 n2 p2 e2 r2 s2),g2⟩)
 (c2:W.codeIn K r2 "check_term" = true)
 (k2:W.keepIn K (.ref f2)=true)
 (a3:W.nsIn K mainGlobals "reach" = some (some (.ref f3)))
 (l3:K.lookup f3=some ⟨i3,d3,.func (W.fnOf "reach" "reach" (yap yh6) (yao yh6) (yac yh6) .none j3 n3 p3 e3 r3 s3),g3⟩)
 (c3:W.codeIn K r3 "reach" = true)
 (k3:W.keepIn K (.ref f3)=true)
 (a4:W.nsIn K mainGlobals "check_many" = some (some (.ref f4)))
 (l4:K.lookup f4=some ⟨i4,d4,.func (W.fnOf "check_many" "check_many" (yap yc7) (yao yc7) (yac yc7) .none j4 n4 p4 e4 r4 s4),g4⟩)
 (c4:W.codeIn K r4 "check_many" = true)
 (k4:W.keepIn K (.ref f4)=true)
 (a5:W.nsIn K mainGlobals "check_count" = some (some (.ref f5)))
 (l5:K.lookup f5=some ⟨i5,d5,.func (W.fnOf "check_count" "check_count" (yap ycm) (yao ycm) (yac ycm) .none j5 n5 p5 e5 r5 s5),g5⟩)
 (c5:W.codeIn K r5 "check_count" = true)
 (k5:W.keepIn K (.ref f5)=true)
 (a6:W.nsIn K mainGlobals "check_duty" = some (some (.ref f6)))
 (l6:K.lookup f6=some ⟨i6,d6,.func (W.fnOf "check_duty" "check_duty" (yap yc9) (yao yc9) (yac yc9) .none j6 n6 p6 e6 r6 s6),g6⟩)
 (c6:W.codeIn K r6 "check_duty" = true)
 (k6:W.keepIn K (.ref f6)=true)
 (a7:W.nsIn K mainGlobals "checked_lots" = some (some (.ref f7)))
 (l7:K.lookup f7=some ⟨i7,d7,.func (W.fnOf "checked_lots" "checked_lots" (yap ycd) (yao ycd) (yac ycd) .none j7 n7 p7 e7 r7 s7),g7⟩)
 (c7:W.codeIn K r7 "checked_lots" = true)
 (k7:W.keepIn K (.ref f7)=true)
 (a8:W.nsIn K mainGlobals "checked_outs" = some (some (.ref f8)))
 (l8:K.lookup f8=some ⟨i8,d8,.func (W.fnOf "checked_outs" "checked_outs" (yap ycf) (yao ycf) (yac ycf) .none j8 n8 p8 e8 r8 s8),g8⟩)
 (c8:W.codeIn K r8 "checked_outs" = true)
 (k8:W.keepIn K (.ref f8)=true)
 (a9:W.nsIn K mainGlobals "checked_both" = some (some (.ref f9)))
 (l9:K.lookup f9=some ⟨i9,d9,.func (W.fnOf "checked_both" "checked_both" (yap ycg) (yao ycg) (yac ycg) .none j9 n9 p9 e9 r9 s9),g9⟩)
 (c9:W.codeIn K r9 "checked_both" = true)
 (k9:W.keepIn K (.ref f9)=true)
 (a10:W.nsIn K mainGlobals "checked_taken" = some (some (.ref f10)))
 (l10:K.lookup f10=some ⟨i10,d10,.func (W.fnOf "checked_taken" "checked_taken" (yap yb6) (yao yb6) (yac yb6) .none j10 n10 p10 e10 r10 s10),g10⟩)
 (c10:W.codeIn K r10 "checked_taken" = true)
 (k10:W.keepIn K (.ref f10)=true)
 (a11:W.nsIn K mainGlobals "eldest" = some (some (.ref f11)))
 (l11:K.lookup f11=some ⟨i11,d11,.func (W.fnOf "eldest" "eldest" (yap ye4) (yao ye4) (yac ye4) .none j11 n11 p11 e11 r11 s11),g11⟩)
 (c11:W.codeIn K r11 "eldest" = true)
 (k11:W.keepIn K (.ref f11)=true)
 (a12:W.nsIn K mainGlobals "dearest" = some (some (.ref f12)))
 (l12:K.lookup f12=some ⟨i12,d12,.func (W.fnOf "dearest" "dearest" (yap yec) (yao yec) (yac yec) .none j12 n12 p12 e12 r12 s12),g12⟩)
 (c12:W.codeIn K r12 "dearest" = true)
 (k12:W.keepIn K (.ref f12)=true)
 (a13:W.nsIn K mainGlobals "going" = some (some (.ref f13)))
 (l13:K.lookup f13=some ⟨i13,d13,.func (W.fnOf "going" "going" (yap ygz) (yao ygz) (yac ygz) .none j13 n13 p13 e13 r13 s13),g13⟩)
 (c13:W.codeIn K r13 "going" = true)
 (k13:W.keepIn K (.ref f13)=true)
 (a14:W.nsIn K mainGlobals "days_of" = some (some (.ref f14)))
 (l14:K.lookup f14=some ⟨i14,d14,.func (W.fnOf "days_of" "days_of" (yap yex) (yao yex) (yac yex) .none j14 n14 p14 e14 r14 s14),g14⟩)
 (c14:W.codeIn K r14 "days_of" = true)
 (k14:W.keepIn K (.ref f14)=true)
 (a15:W.nsIn K mainGlobals "stretches_of" = some (some (.ref f15)))
 (l15:K.lookup f15=some ⟨i15,d15,.func (W.fnOf "stretches_of" "stretches_of" (yap ybx) (yao ybx) (yac ybx) .none j15 n15 p15 e15 r15 s15),g15⟩)
 (c15:W.codeIn K r15 "stretches_of" = true)
 (k15:W.keepIn K (.ref f15)=true)
 (a16:W.nsIn K mainGlobals "against_each" = some (some (.ref f16)))
 (l16:K.lookup f16=some ⟨i16,d16,.func (W.fnOf "against_each" "against_each" (yap yby) (yao yby) (yac yby) .none j16 n16 p16 e16 r16 s16),g16⟩)
 (c16:W.codeIn K r16 "against_each" = true)
 (k16:W.keepIn K (.ref f16)=true)
 (a17:W.nsIn K mainGlobals "lessened" = some (some (.ref f17)))
 (l17:K.lookup f17=some ⟨i17,d17,.func (W.fnOf "lessened" "lessened" (yap yen) (yao yen) (yac yen) .none j17 n17 p17 e17 r17 s17),g17⟩)
 (c17:W.codeIn K r17 "lessened" = true)
 (k17:W.keepIn K (.ref f17)=true)
 (a18:W.nsIn K mainGlobals "slacks_of" = some (some (.ref f18)))
 (l18:K.lookup f18=some ⟨i18,d18,.func (W.fnOf "slacks_of" "slacks_of" (yap ydx) (yao ydx) (yac ydx) .none j18 n18 p18 e18 r18 s18),g18⟩)
 (c18:W.codeIn K r18 "slacks_of" = true)
 (k18:W.keepIn K (.ref f18)=true)
 (a19:W.nsIn K mainGlobals "none_lacks" = some (some (.ref f19)))
 (l19:K.lookup f19=some ⟨i19,d19,.func (W.fnOf "none_lacks" "none_lacks" (yap ycj) (yao ycj) (yac ycj) .none j19 n19 p19 e19 r19 s19),g19⟩)
 (c19:W.codeIn K r19 "none_lacks" = true)
 (k19:W.keepIn K (.ref f19)=true)
 (a20:W.nsIn K mainGlobals "free_at" = some (some (.ref f20)))
 (l20:K.lookup f20=some ⟨i20,d20,.func (W.fnOf "free_at" "free_at" (yap yey) (yao yey) (yac yey) .none j20 n20 p20 e20 r20 s20),g20⟩)
 (c20:W.codeIn K r20 "free_at" = true)
 (k20:W.keepIn K (.ref f20)=true)
 (a21:W.nsIn K mainGlobals "check_dealable" = some (some (.ref f21)))
 (l21:K.lookup f21=some ⟨i21,d21,.func (W.fnOf "check_dealable" "check_dealable" (yap ybv) (yao ybv) (yac ybv) .none j21 n21 p21 e21 r21 s21),g21⟩)
 (c21:W.codeIn K r21 "check_dealable" = true)
 (k21:W.keepIn K (.ref f21)=true)
 (a22:W.nsIn K mainGlobals "check_place" = some (some (.ref f22)))
 (l22:K.lookup f22=some ⟨i22,d22,.func (W.fnOf "check_place" "check_place" (yap yco) (yao yco) (yac yco) .none j22 n22 p22 e22 r22 s22),g22⟩)
 (c22:W.codeIn K r22 "check_place" = true)
 (k22:W.keepIn K (.ref f22)=true)
 (a23:W.nsIn K mainGlobals "reaches" = some (some (.ref f23)))
 (l23:K.lookup f23=some ⟨i23,d23,.func (W.fnOf "reaches" "reaches" (yap yfg) (yao yfg) (yac yfg) .none j23 n23 p23 e23 r23 s23),g23⟩)
 (c23:W.codeIn K r23 "reaches" = true)
 (k23:W.keepIn K (.ref f23)=true)
 (a24:W.nsIn K mainGlobals "dealt_of" = some (some (.ref f24)))
 (l24:K.lookup f24=some ⟨i24,d24,.func (W.fnOf "dealt_of" "dealt_of" (yap ydy) (yao ydy) (yac ydy) .none j24 n24 p24 e24 r24 s24),g24⟩)
 (c24:W.codeIn K r24 "dealt_of" = true)
 (k24:W.keepIn K (.ref f24)=true)
 (a25:W.nsIn K mainGlobals "dealt" = some (some (.ref f25)))
 (l25:K.lookup f25=some ⟨i25,d25,.func (W.fnOf "dealt" "dealt" (yap yh7) (yao yh7) (yac yh7) .none j25 n25 p25 e25 r25 s25),g25⟩)
 (c25:W.codeIn K r25 "dealt" = true)
 (k25:W.keepIn K (.ref f25)=true)
 (a26:W.nsIn K mainGlobals "is_given" = some (some (.ref f26)))
 (l26:K.lookup f26=some ⟨i26,d26,.func (W.fnOf "is_given" "is_given" (yap yep) (yao yep) (yac yep) .none j26 n26 p26 e26 r26 s26),g26⟩)
 (c26:W.codeIn K r26 "is_given" = true)
 (k26:W.keepIn K (.ref f26)=true)
 (a27:W.nsIn K mainGlobals "summed" = some (some (.ref f27)))
 (l27:K.lookup f27=some ⟨i27,d27,.func (W.fnOf "summed" "summed" (yap ygl) (yao ygl) (yac ygl) .none j27 n27 p27 e27 r27 s27),g27⟩)
 (c27:W.codeIn K r27 "summed" = true)
 (k27:W.keepIn K (.ref f27)=true)
 (a28:W.nsIn K mainGlobals "none_above" = some (some (.ref f28)))
 (l28:K.lookup f28=some ⟨i28,d28,.func (W.fnOf "none_above" "none_above" (yap ye5) (yao ye5) (yac ye5) .none j28 n28 p28 e28 r28 s28),g28⟩)
 (c28:W.codeIn K r28 "none_above" = true)
 (k28:W.keepIn K (.ref f28)=true)
 (a29:W.nsIn K mainGlobals "is_dealing" = some (some (.ref f29)))
 (l29:K.lookup f29=some ⟨i29,d29,.func (W.fnOf "is_dealing" "is_dealing" (yap ybp) (yao ybp) (yac ybp) .none j29 n29 p29 e29 r29 s29),g29⟩)
 (c29:W.codeIn K r29 "is_dealing" = true)
 (k29:W.keepIn K (.ref f29)=true)
 (a30:W.nsIn K mainGlobals "counts_of" = some (some (.ref f30)))
 (l30:K.lookup f30=some ⟨i30,d30,.func (W.fnOf "counts_of" "counts_of" (yap yc3) (yao yc3) (yac yc3) .none j30 n30 p30 e30 r30 s30),g30⟩)
 (c30:W.codeIn K r30 "counts_of" = true)
 (k30:W.keepIn K (.ref f30)=true)
 (a31:W.nsIn K mainGlobals "best_of" = some (some (.ref f31)))
 (l31:K.lookup f31=some ⟨i31,d31,.func (W.fnOf "best_of" "best_of" (yap yff) (yao yff) (yac yff) .none j31 n31 p31 e31 r31 s31),g31⟩)
 (c31:W.codeIn K r31 "best_of" = true)
 (k31:W.keepIn K (.ref f31)=true)
 (a32:W.nsIn K mainGlobals "dear_ones" = some (some (.ref f32)))
 (l32:K.lookup f32=some ⟨i32,d32,.func (W.fnOf "dear_ones" "dear_ones" (yap yc4) (yao yc4) (yac yc4) .none j32 n32 p32 e32 r32 s32),g32⟩)
 (c32:W.codeIn K r32 "dear_ones" = true)
 (k32:W.keepIn K (.ref f32)=true)
 (a33:W.nsIn K mainGlobals "units_of" = some (some (.ref f33)))
 (l33:K.lookup f33=some ⟨i33,d33,.func (W.fnOf "units_of" "units_of" (yap ydw) (yao ydw) (yac ydw) .none j33 n33 p33 e33 r33 s33),g33⟩)
 (c33:W.codeIn K r33 "units_of" = true)
 (k33:W.keepIn K (.ref f33)=true)
 (a34:W.nsIn K mainGlobals "tightest" = some (some (.ref f34)))
 (l34:K.lookup f34=some ⟨i34,d34,.func (W.fnOf "tightest" "tightest" (yap yd3) (yao yd3) (yac yd3) .none j34 n34 p34 e34 r34 s34),g34⟩)
 (c34:W.codeIn K r34 "tightest" = true)
 (k34:W.keepIn K (.ref f34)=true)
 (a35:W.nsIn K mainGlobals "paper_of" = some (some (.ref f35)))
 (l35:K.lookup f35=some ⟨i35,d35,.func (W.fnOf "paper_of" "paper_of" (yap yd4) (yao yd4) (yac yd4) .none j35 n35 p35 e35 r35 s35),g35⟩)
 (c35:W.codeIn K r35 "paper_of" = true)
 (k35:W.keepIn K (.ref f35)=true)
 (a36:W.nsIn K mainGlobals "papers" = some (some (.ref f36)))
 (l36:K.lookup f36=some ⟨i36,d36,.func (W.fnOf "papers" "papers" (yap ye6) (yao ye6) (yac ye6) .none j36 n36 p36 e36 r36 s36),g36⟩)
 (c36:W.codeIn K r36 "papers" = true)
 (k36:W.keepIn K (.ref f36)=true)
 (a37:W.nsIn K mainGlobals "are_rising" = some (some (.ref f37)))
 (l37:K.lookup f37=some ⟨i37,d37,.func (W.fnOf "are_rising" "are_rising" (yap yda) (yao yda) (yac yda) .none j37 n37 p37 e37 r37 s37),g37⟩)
 (c37:W.codeIn K r37 "are_rising" = true)
 (k37:W.keepIn K (.ref f37)=true)
 (a38:W.nsIn K mainGlobals "lies_in" = some (some (.ref f38)))
 (l38:K.lookup f38=some ⟨i38,d38,.func (W.fnOf "lies_in" "lies_in" (yap yew) (yao yew) (yac yew) .none j38 n38 p38 e38 r38 s38),g38⟩)
 (c38:W.codeIn K r38 "lies_in" = true)
 (k38:W.keepIn K (.ref f38)=true)
 (a39:W.nsIn K mainGlobals "good_paper" = some (some (.ref f39)))
 (l39:K.lookup f39=some ⟨i39,d39,.func (W.fnOf "good_paper" "good_paper" (yap yb8) (yao yb8) (yac yb8) .none j39 n39 p39 e39 r39 s39),g39⟩)
 (c39:W.codeIn K r39 "good_paper" = true)
 (k39:W.keepIn K (.ref f39)=true)
 (a40:W.nsIn K mainGlobals "_law_row_fault" = some (some (.ref f40)))
 (l40:K.lookup f40=some ⟨i40,d40,.func (W.fnOf "_law_row_fault" "_law_row_fault" (yap yd0) (yao yd0) (yac yd0) .none j40 n40 p40 e40 r40 s40),g40⟩)
 (c40:W.codeIn K r40 "_law_row_fault" = true)
 (k40:W.keepIn K (.ref f40)=true)
 (a41:W.nsIn K mainGlobals "_law_fault" = some (some (.ref f41)))
 (l41:K.lookup f41=some ⟨i41,d41,.func (W.fnOf "_law_fault" "_law_fault" (yap yia) (yao yia) (yac yia) .none j41 n41 p41 e41 r41 s41),g41⟩)
 (c41:W.codeIn K r41 "_law_fault" = true)
 (k41:W.keepIn K (.ref f41)=true)
 (a42:W.nsIn K mainGlobals "_law_eldest" = some (some (.ref f42)))
 (l42:K.lookup f42=some ⟨i42,d42,.func (W.fnOf "_law_eldest" "_law_eldest" (yap yef) (yao yef) (yac yef) .none j42 n42 p42 e42 (.ref cc42) s42),g42⟩)
 (tl42:K.lookup cc42=some ⟨tc42,to42,.fields tv42,ts42⟩)
 (tp42:tv42[11]? = some (.ref PP42))
 (hd42:W.codeHdIn K cc42 PP42=true)
 (nk42:K.lookup PP42=none)
 (mt42:PP42∈ts)
 (c42:W.codeIn K (.ref cc42) "_law_eldest" = true)
 (k42:W.keepIn K (.ref f42)=true)
 (a43:W.nsIn K mainGlobals "_law_deal" = some (some (.ref f43)))
 (l43:K.lookup f43=some ⟨i43,d43,.func (W.fnOf "_law_deal" "_law_deal" (yap yli) (yao yli) (yac yli) .none j43 n43 p43 e43 r43 s43),g43⟩)
 (c43:W.codeIn K r43 "_law_deal" = true)
 (k43:W.keepIn K (.ref f43)=true)
 (a44:W.nsIn K mainGlobals "_law_begin" = some (some (.ref f44)))
 (l44:K.lookup f44=some ⟨i44,d44,.func (W.fnOf "_law_begin" "_law_begin" (yap yhs) (yao yhs) (yac yhs) .none j44 n44 p44 e44 r44 s44),g44⟩)
 (c44:W.codeIn K r44 "_law_begin" = true)
 (k44:W.keepIn K (.ref f44)=true)
 (a45:W.nsIn K mainGlobals "_law_pick" = some (some (.ref f45)))
 (l45:K.lookup f45=some ⟨i45,d45,.func (W.fnOf "_law_pick" "_law_pick" (yap yk2) (yao yk2) (yac yk2) .none j45 n45 p45 e45 r45 s45),g45⟩)
 (c45:W.codeIn K r45 "_law_pick" = true)
 (k45:W.keepIn K (.ref f45)=true)
 (a46:W.nsIn K mainGlobals "_law_span" = some (some (.ref f46)))
 (l46:K.lookup f46=some ⟨i46,d46,.func (W.fnOf "_law_span" "_law_span" (yap yk3) (yao yk3) (yac yk3) .none j46 n46 p46 e46 r46 s46),g46⟩)
 (c46:W.codeIn K r46 "_law_span" = true)
 (k46:W.keepIn K (.ref f46)=true)
 (a47:W.nsIn K mainGlobals "_law_some_term" = some (some (.ref f47)))
 (l47:K.lookup f47=some ⟨i47,d47,.func (W.fnOf "_law_some_term" "_law_some_term" (yap ydq) (yao ydq) (yac ydq) .none j47 n47 p47 e47 r47 s47),g47⟩)
 (c47:W.codeIn K r47 "_law_some_term" = true)
 (k47:W.keepIn K (.ref f47)=true)
 (a48:W.nsIn K mainGlobals "_law_some_lots" = some (some (.ref f48)))
 (l48:K.lookup f48=some ⟨i48,d48,.func (W.fnOf "_law_some_lots" "_law_some_lots" (yap ydr) (yao ydr) (yac ydr) .none j48 n48 p48 e48 r48 s48),g48⟩)
 (c48:W.codeIn K r48 "_law_some_lots" = true)
 (k48:W.keepIn K (.ref f48)=true)
 (a49:W.nsIn K mainGlobals "_law_some_outs" = some (some (.ref f49)))
 (l49:K.lookup f49=some ⟨i49,d49,.func (W.fnOf "_law_some_outs" "_law_some_outs" (yap yds) (yao yds) (yac yds) .none j49 n49 p49 e49 r49 s49),g49⟩)
 (c49:W.codeIn K r49 "_law_some_outs" = true)
 (k49:W.keepIn K (.ref f49)=true)
 (a50:W.nsIn K mainGlobals "_law_case" = some (some (.ref f50)))
 (l50:K.lookup f50=some ⟨i50,d50,.func (W.fnOf "_law_case" "_law_case" (yap yk4) (yao yk4) (yac yk4) .none j50 n50 p50 e50 r50 s50),g50⟩)
 (c50:W.codeIn K r50 "_law_case" = true)
 (k50:W.keepIn K (.ref f50)=true)
 (a51:W.nsIn K mainGlobals "_law_odd" = some (some (.ref f51)))
 (l51:K.lookup f51=some ⟨i51,d51,.func (W.fnOf "_law_odd" "_law_odd" (yap ysb) (yao ysb) (yac ysb) .none j51 n51 p51 e51 r51 s51),g51⟩)
 (c51:W.codeIn K r51 "_law_odd" = true)
 (k51:W.keepIn K (.ref f51)=true)
 (a52:W.nsIn K mainGlobals "_law_spoilt" = some (some (.ref f52)))
 (l52:K.lookup f52=some ⟨i52,d52,.func (W.fnOf "_law_spoilt" "_law_spoilt" (yap ygq) (yao ygq) (yac ygq) .none j52 n52 p52 e52 r52 s52),g52⟩)
 (c52:W.codeIn K r52 "_law_spoilt" = true)
 (k52:W.keepIn K (.ref f52)=true)
 (a53:W.nsIn K mainGlobals "_law_spoilt_case" = some (some (.ref f53)))
 (l53:K.lookup f53=some ⟨i53,d53,.func (W.fnOf "_law_spoilt_case" "_law_spoilt_case" (yap ycq) (yao ycq) (yac ycq) .none j53 n53 p53 e53 r53 s53),g53⟩)
 (c53:W.codeIn K r53 "_law_spoilt_case" = true)
 (k53:W.keepIn K (.ref f53)=true)
 (a54:W.nsIn K mainGlobals "_law_asked" = some (some (.ref f54)))
 (l54:K.lookup f54=some ⟨i54,d54,.func (W.fnOf "_law_asked" "_law_asked" (yap yib) (yao yib) (yac yib) .none j54 n54 p54 e54 r54 s54),g54⟩)
 (c54:W.codeIn K r54 "_law_asked" = true)
 (k54:W.keepIn K (.ref f54)=true)
 (a55:W.nsIn K mainGlobals "_law_said" = some (some (.ref f55)))
 (l55:K.lookup f55=some ⟨i55,d55,.func (W.fnOf "_law_said" "_law_said" (yap yll) (yao yll) (yac yll) .none j55 n55 p55 e55 r55 s55),g55⟩)
 (c55:W.codeIn K r55 "_law_said" = true)
 (k55:W.keepIn K (.ref f55)=true)
 (a56:W.nsIn K mainGlobals "_law_due" = some (some (.ref f56)))
 (l56:K.lookup f56=some ⟨i56,d56,.func (W.fnOf "_law_due" "_law_due" (yap ysj) (yao ysj) (yac ysj) .none j56 n56 p56 e56 r56 s56),g56⟩)
 (c56:W.codeIn K r56 "_law_due" = true)
 (k56:W.keepIn K (.ref f56)=true)
 (a57:W.nsIn K mainGlobals "law" = some (some (.ref f57)))
 (l57:K.lookup f57=some ⟨i57,d57,.func (W.fnOf "law" "law" (yap yku) (yao yku) (yac yku) .none j57 n57 p57 e57 r57 s57),g57⟩)
 (c57:W.codeIn K r57 "law" = true)
 (k57:W.keepIn K (.ref f57)=true)
 (z_len:W.nsIn K mainGlobals "len" = some none)
 (z_list:W.nsIn K mainGlobals "list" = some none)
 (z_isi:W.nsIn K mainGlobals "isinstance" = some none)
 (z_bool:W.nsIn K mainGlobals "bool" = some none)
 (z_int:W.nsIn K mainGlobals "int" = some none)
 (z_str:W.nsIn K mainGlobals "str" = some none)
 (z_tuple:W.nsIn K mainGlobals "tuple" = some none)
 (z_all:W.nsIn K mainGlobals "all" = some none)
 (z_any:W.nsIn K mainGlobals "any" = some none)
 (z_zip:W.nsIn K mainGlobals "zip" = some none)
 (z_range:W.nsIn K mainGlobals "range" = some none)
 (z_max:W.nsIn K mainGlobals "max" = some none)
 (z_min:W.nsIn K mainGlobals "min" = some none)
 (z_enumerate:W.nsIn K mainGlobals "enumerate" = some none)
 (z_sum:W.nsIn K mainGlobals "sum" = some none)
 (z_sorted:W.nsIn K mainGlobals "sorted" = some none)
 (z_verr:W.nsIn K mainGlobals "ValueError" = some none)
 (g_FIRST_DAY:W.nsIn K mainGlobals "FIRST_DAY" = some (some (.int 1 u_FIRST_DAY)))
 (g_LAST_DAY:W.nsIn K mainGlobals "LAST_DAY" = some (some (.int 999 u_LAST_DAY)))
 (g_MOST_TERM:W.nsIn K mainGlobals "MOST_TERM" = some (some (.int 400 u_MOST_TERM)))
 (g_MOST_ROWS:W.nsIn K mainGlobals "MOST_ROWS" = some (some (.int 30 u_MOST_ROWS)))
 (g_MOST_COUNT:W.nsIn K mainGlobals "MOST_COUNT" = some (some (.int 10000000000 u_MOST_COUNT)))
 (g_MOST_DUTY:W.nsIn K mainGlobals "MOST_DUTY" = some (some (.int 1000000 u_MOST_DUTY)))
 (g_0:W.nsIn K mainGlobals "CustomsError" = some (some (.ref c_0)))
 (g_1:W.nsIn K mainGlobals "BadDay" = some (some (.ref c_1)))
 (g_2:W.nsIn K mainGlobals "BadTerm" = some (some (.ref c_2)))
 (g_3:W.nsIn K mainGlobals "BadCount" = some (some (.ref c_3)))
 (g_4:W.nsIn K mainGlobals "BadDuty" = some (some (.ref c_4)))
 (g_5:W.nsIn K mainGlobals "BadRows" = some (some (.ref c_5)))
 (g_6:W.nsIn K mainGlobals "BadTaken" = some (some (.ref c_7)))
 (g_7:W.nsIn K mainGlobals "NotDealable" = some (some (.ref c_8)))
 (g_8:W.nsIn K mainGlobals "NoPlace" = some (some (.ref c_9)))
 (x_1:W.excIn K c_1 vbm "ValueError.__new__" = true)
 (x_2:W.excIn K c_2 vbm "ValueError.__new__" = true)
 (x_3:W.excIn K c_3 vbm "ValueError.__new__" = true)
 (x_4:W.excIn K c_4 vbm "ValueError.__new__" = true)
 (x_5:W.excIn K c_5 vbm "ValueError.__new__" = true)
 (x_6:W.excIn K c_7 vbm "ValueError.__new__" = true)
 (x_7:W.excIn K c_8 vbm "ValueError.__new__" = true)
 (x_8:W.excIn K c_9 vbm "ValueError.__new__" = true)
 (ga_5:W.findIn K (.ref c_5) "__getattribute__" = some (some (.builtin "BaseException.__getattribute__")))
 (gt_5:W.findIn K (.ref c_5) "__getattr__" = some none)
 (cl_5:W.findIn K (.ref c_5) "__class__" = some (some (.builtin "object.__class__")))
 (mo_5:W.mroIn K c_5 (.type "object")=some true)
 (sb_5:W.subIn K (.ref c_5) (.type "BaseException")=some true)
 (mC_5:W.mroIn K c_5 (.ref c_0)=some true)
 (q_5_5:W.mroIn K c_5 (.ref c_5)=some true)
 (q_5_1:W.mroIn K c_5 (.ref c_1)=some false)
 (q_5_3:W.mroIn K c_5 (.ref c_3)=some false)
 (q_5_4:W.mroIn K c_5 (.ref c_4)=some false)
 (q_5_2:W.mroIn K c_5 (.ref c_2)=some false)
 (q_5_6:W.mroIn K c_5 (.ref c_7)=some false)
 (q_5_7:W.mroIn K c_5 (.ref c_8)=some false)
 (q_5_8:W.mroIn K c_5 (.ref c_9)=some false)
 (v_5:W.mroIn K c_5 (.type "ValueError")=some true)
 (t_5:W.typeIn K (.ref c_5)=some (.type "type"))
 (ga_1:W.findIn K (.ref c_1) "__getattribute__" = some (some (.builtin "BaseException.__getattribute__")))
 (gt_1:W.findIn K (.ref c_1) "__getattr__" = some none)
 (cl_1:W.findIn K (.ref c_1) "__class__" = some (some (.builtin "object.__class__")))
 (mo_1:W.mroIn K c_1 (.type "object")=some true)
 (sb_1:W.subIn K (.ref c_1) (.type "BaseException")=some true)
 (mC_1:W.mroIn K c_1 (.ref c_0)=some true)
 (q_1_5:W.mroIn K c_1 (.ref c_5)=some false)
 (q_1_1:W.mroIn K c_1 (.ref c_1)=some true)
 (q_1_3:W.mroIn K c_1 (.ref c_3)=some false)
 (q_1_4:W.mroIn K c_1 (.ref c_4)=some false)
 (q_1_2:W.mroIn K c_1 (.ref c_2)=some false)
 (q_1_6:W.mroIn K c_1 (.ref c_7)=some false)
 (q_1_7:W.mroIn K c_1 (.ref c_8)=some false)
 (q_1_8:W.mroIn K c_1 (.ref c_9)=some false)
 (v_1:W.mroIn K c_1 (.type "ValueError")=some true)
 (t_1:W.typeIn K (.ref c_1)=some (.type "type"))
 (ga_3:W.findIn K (.ref c_3) "__getattribute__" = some (some (.builtin "BaseException.__getattribute__")))
 (gt_3:W.findIn K (.ref c_3) "__getattr__" = some none)
 (cl_3:W.findIn K (.ref c_3) "__class__" = some (some (.builtin "object.__class__")))
 (mo_3:W.mroIn K c_3 (.type "object")=some true)
 (sb_3:W.subIn K (.ref c_3) (.type "BaseException")=some true)
 (mC_3:W.mroIn K c_3 (.ref c_0)=some true)
 (q_3_5:W.mroIn K c_3 (.ref c_5)=some false)
 (q_3_1:W.mroIn K c_3 (.ref c_1)=some false)
 (q_3_3:W.mroIn K c_3 (.ref c_3)=some true)
 (q_3_4:W.mroIn K c_3 (.ref c_4)=some false)
 (q_3_2:W.mroIn K c_3 (.ref c_2)=some false)
 (q_3_6:W.mroIn K c_3 (.ref c_7)=some false)
 (q_3_7:W.mroIn K c_3 (.ref c_8)=some false)
 (q_3_8:W.mroIn K c_3 (.ref c_9)=some false)
 (v_3:W.mroIn K c_3 (.type "ValueError")=some true)
 (t_3:W.typeIn K (.ref c_3)=some (.type "type"))
 (ga_4:W.findIn K (.ref c_4) "__getattribute__" = some (some (.builtin "BaseException.__getattribute__")))
 (gt_4:W.findIn K (.ref c_4) "__getattr__" = some none)
 (cl_4:W.findIn K (.ref c_4) "__class__" = some (some (.builtin "object.__class__")))
 (mo_4:W.mroIn K c_4 (.type "object")=some true)
 (sb_4:W.subIn K (.ref c_4) (.type "BaseException")=some true)
 (mC_4:W.mroIn K c_4 (.ref c_0)=some true)
 (q_4_5:W.mroIn K c_4 (.ref c_5)=some false)
 (q_4_1:W.mroIn K c_4 (.ref c_1)=some false)
 (q_4_3:W.mroIn K c_4 (.ref c_3)=some false)
 (q_4_4:W.mroIn K c_4 (.ref c_4)=some true)
 (q_4_2:W.mroIn K c_4 (.ref c_2)=some false)
 (q_4_6:W.mroIn K c_4 (.ref c_7)=some false)
 (q_4_7:W.mroIn K c_4 (.ref c_8)=some false)
 (q_4_8:W.mroIn K c_4 (.ref c_9)=some false)
 (v_4:W.mroIn K c_4 (.type "ValueError")=some true)
 (t_4:W.typeIn K (.ref c_4)=some (.type "type"))
 (ga_2:W.findIn K (.ref c_2) "__getattribute__" = some (some (.builtin "BaseException.__getattribute__")))
 (gt_2:W.findIn K (.ref c_2) "__getattr__" = some none)
 (cl_2:W.findIn K (.ref c_2) "__class__" = some (some (.builtin "object.__class__")))
 (mo_2:W.mroIn K c_2 (.type "object")=some true)
 (sb_2:W.subIn K (.ref c_2) (.type "BaseException")=some true)
 (mC_2:W.mroIn K c_2 (.ref c_0)=some true)
 (q_2_5:W.mroIn K c_2 (.ref c_5)=some false)
 (q_2_1:W.mroIn K c_2 (.ref c_1)=some false)
 (q_2_3:W.mroIn K c_2 (.ref c_3)=some false)
 (q_2_4:W.mroIn K c_2 (.ref c_4)=some false)
 (q_2_2:W.mroIn K c_2 (.ref c_2)=some true)
 (q_2_6:W.mroIn K c_2 (.ref c_7)=some false)
 (q_2_7:W.mroIn K c_2 (.ref c_8)=some false)
 (q_2_8:W.mroIn K c_2 (.ref c_9)=some false)
 (v_2:W.mroIn K c_2 (.type "ValueError")=some true)
 (t_2:W.typeIn K (.ref c_2)=some (.type "type"))
 (ga_6:W.findIn K (.ref c_7) "__getattribute__" = some (some (.builtin "BaseException.__getattribute__")))
 (gt_6:W.findIn K (.ref c_7) "__getattr__" = some none)
 (cl_6:W.findIn K (.ref c_7) "__class__" = some (some (.builtin "object.__class__")))
 (mo_6:W.mroIn K c_7 (.type "object")=some true)
 (sb_6:W.subIn K (.ref c_7) (.type "BaseException")=some true)
 (mC_6:W.mroIn K c_7 (.ref c_0)=some true)
 (q_6_5:W.mroIn K c_7 (.ref c_5)=some false)
 (q_6_1:W.mroIn K c_7 (.ref c_1)=some false)
 (q_6_3:W.mroIn K c_7 (.ref c_3)=some false)
 (q_6_4:W.mroIn K c_7 (.ref c_4)=some false)
 (q_6_2:W.mroIn K c_7 (.ref c_2)=some false)
 (q_6_6:W.mroIn K c_7 (.ref c_7)=some true)
 (q_6_7:W.mroIn K c_7 (.ref c_8)=some false)
 (q_6_8:W.mroIn K c_7 (.ref c_9)=some false)
 (v_6:W.mroIn K c_7 (.type "ValueError")=some true)
 (t_6:W.typeIn K (.ref c_7)=some (.type "type"))
 (ga_7:W.findIn K (.ref c_8) "__getattribute__" = some (some (.builtin "BaseException.__getattribute__")))
 (gt_7:W.findIn K (.ref c_8) "__getattr__" = some none)
 (cl_7:W.findIn K (.ref c_8) "__class__" = some (some (.builtin "object.__class__")))
 (mo_7:W.mroIn K c_8 (.type "object")=some true)
 (sb_7:W.subIn K (.ref c_8) (.type "BaseException")=some true)
 (mC_7:W.mroIn K c_8 (.ref c_0)=some true)
 (q_7_5:W.mroIn K c_8 (.ref c_5)=some false)
 (q_7_1:W.mroIn K c_8 (.ref c_1)=some false)
 (q_7_3:W.mroIn K c_8 (.ref c_3)=some false)
 (q_7_4:W.mroIn K c_8 (.ref c_4)=some false)
 (q_7_2:W.mroIn K c_8 (.ref c_2)=some false)
 (q_7_6:W.mroIn K c_8 (.ref c_7)=some false)
 (q_7_7:W.mroIn K c_8 (.ref c_8)=some true)
 (q_7_8:W.mroIn K c_8 (.ref c_9)=some false)
 (v_7:W.mroIn K c_8 (.type "ValueError")=some true)
 (t_7:W.typeIn K (.ref c_8)=some (.type "type"))
 (ga_8:W.findIn K (.ref c_9) "__getattribute__" = some (some (.builtin "BaseException.__getattribute__")))
 (gt_8:W.findIn K (.ref c_9) "__getattr__" = some none)
 (cl_8:W.findIn K (.ref c_9) "__class__" = some (some (.builtin "object.__class__")))
 (mo_8:W.mroIn K c_9 (.type "object")=some true)
 (sb_8:W.subIn K (.ref c_9) (.type "BaseException")=some true)
 (mC_8:W.mroIn K c_9 (.ref c_0)=some true)
 (q_8_5:W.mroIn K c_9 (.ref c_5)=some false)
 (q_8_1:W.mroIn K c_9 (.ref c_1)=some false)
 (q_8_3:W.mroIn K c_9 (.ref c_3)=some false)
 (q_8_4:W.mroIn K c_9 (.ref c_4)=some false)
 (q_8_2:W.mroIn K c_9 (.ref c_2)=some false)
 (q_8_6:W.mroIn K c_9 (.ref c_7)=some false)
 (q_8_7:W.mroIn K c_9 (.ref c_8)=some false)
 (q_8_8:W.mroIn K c_9 (.ref c_9)=some true)
 (v_8:W.mroIn K c_9 (.type "ValueError")=some true)
 (t_8:W.typeIn K (.ref c_9)=some (.type "type"))
 (t_0:W.typeIn K (.ref c_0)=some (.type "type"))
 (sb_0:W.subIn K (.ref c_0) (.type "BaseException")=some true)
 (gg:W.specialIn K (.builtin "object.__class__") "__get__" = some (some (.builtin "getset_descriptor.__get__")))
 (tk:W.takesIn K (.builtin "object.__class__")=some true)
 : ∃(fd:FuncData) (tb:Tbs),((tb.map (·.1)).Nodup∧∀t∈tb,t.1∈ts∧K.lookup t.1=none∧∃c,W.codeHdIn K c t.1=true)∧(∀(s:Shared) (v:Value),BindsTo s fd ⟨[v],[]⟩ [("_law_script",v)])∧∀base:Heap,K.In base→base.Ns mainGlobals mg→ymz mg base→FnOk l.prog w K mg base CX0 9 fa fd ["_law_script"] (yxd K tb):=by
 have e:=hfa.symm.trans (W.mg_of X G a57)
 cases e
 have F0:=yaz (st:=ygk) l0 c0 k0
 have F1:=yaz (st:=ydu) l1 c1 k1
 have F2:=yaz (st:=yc5) l2 c2 k2
 have F3:=yaz (st:=yh6) l3 c3 k3
 have F4:=yaz (st:=yc7) l4 c4 k4
 have F5:=yaz (st:=ycm) l5 c5 k5
 have F6:=yaz (st:=yc9) l6 c6 k6
 have F7:=yaz (st:=ycd) l7 c7 k7
 have F8:=yaz (st:=ycf) l8 c8 k8
 have F9:=yaz (st:=ycg) l9 c9 k9
 have F10:=yaz (st:=yb6) l10 c10 k10
 have F11:=yaz (st:=ye4) l11 c11 k11
 have F12:=yaz (st:=yec) l12 c12 k12
 have F13:=yaz (st:=ygz) l13 c13 k13
 have F14:=yaz (st:=yex) l14 c14 k14
 have F15:=yaz (st:=ybx) l15 c15 k15
 have F16:=yaz (st:=yby) l16 c16 k16
 have F17:=yaz (st:=yen) l17 c17 k17
 have F18:=yaz (st:=ydx) l18 c18 k18
 have F19:=yaz (st:=ycj) l19 c19 k19
 have F20:=yaz (st:=yey) l20 c20 k20
 have F21:=yaz (st:=ybv) l21 c21 k21
 have F22:=yaz (st:=yco) l22 c22 k22
 have F23:=yaz (st:=yfg) l23 c23 k23
 have F24:=yaz (st:=ydy) l24 c24 k24
 have F25:=yaz (st:=yh7) l25 c25 k25
 have F26:=yaz (st:=yep) l26 c26 k26
 have F27:=yaz (st:=ygl) l27 c27 k27
 have F28:=yaz (st:=ye5) l28 c28 k28
 have F29:=yaz (st:=ybp) l29 c29 k29
 have F30:=yaz (st:=yc3) l30 c30 k30
 have F31:=yaz (st:=yff) l31 c31 k31
 have F32:=yaz (st:=yc4) l32 c32 k32
 have F33:=yaz (st:=ydw) l33 c33 k33
 have F34:=yaz (st:=yd3) l34 c34 k34
 have F35:=yaz (st:=yd4) l35 c35 k35
 have F36:=yaz (st:=ye6) l36 c36 k36
 have F37:=yaz (st:=yda) l37 c37 k37
 have F38:=yaz (st:=yew) l38 c38 k38
 have F39:=yaz (st:=yb8) l39 c39 k39
 have F40:=yaz (st:=yd0) l40 c40 k40
 have F41:=yaz (st:=yia) l41 c41 k41
 have F42:=yaz (st:=yef) l42 c42 k42
 have F43:=yaz (st:=yli) l43 c43 k43
 have F44:=yaz (st:=yhs) l44 c44 k44
 have F45:=yaz (st:=yk2) l45 c45 k45
 have F46:=yaz (st:=yk3) l46 c46 k46
 have F47:=yaz (st:=ydq) l47 c47 k47
 have F48:=yaz (st:=ydr) l48 c48 k48
 have F49:=yaz (st:=yds) l49 c49 k49
 have F50:=yaz (st:=yk4) l50 c50 k50
 have F51:=yaz (st:=ysb) l51 c51 k51
 have F52:=yaz (st:=ygq) l52 c52 k52
 have F53:=yaz (st:=ycq) l53 c53 k53
 have F54:=yaz (st:=yib) l54 c54 k54
 have F55:=yaz (st:=yll) l55 c55 k55
 have F56:=yaz (st:=ysj) l56 c56 k56
 have F57:=yaz (st:=yku) l57 c57 k57
 have b0:=F0.binds (ps:=yhd) fun _ _ _ _ _ _ us hl=>match us,hl with | [_],_=>rfl
 have m0:=W.mg_of X G a0
 have b1:=F1.binds (ps:=yc2) fun _ _ _ _ _ _ us hl=>match us,hl with | [_],_=>rfl
 have m1:=W.mg_of X G a1
 have b2:=F2.binds (ps:=yc6) fun _ _ _ _ _ _ us hl=>match us,hl with | [_],_=>rfl
 have m2:=W.mg_of X G a2
 have b3:=F3.binds (ps:=yj3) fun _ _ _ _ _ _ us hl=>match us,hl with | [_,_],_=>rfl
 have m3:=W.mg_of X G a3
 have b4:=F4.binds (ps:=yc8) fun _ _ _ _ _ _ us hl=>match us,hl with | [_],_=>rfl
 have m4:=W.mg_of X G a4
 have b5:=F5.binds (ps:=ycn) fun _ _ _ _ _ _ us hl=>match us,hl with | [_],_=>rfl
 have m5:=W.mg_of X G a5
 have b6:=F6.binds (ps:=yd8) fun _ _ _ _ _ _ us hl=>match us,hl with | [_],_=>rfl
 have m6:=W.mg_of X G a6
 have b7:=F7.binds (ps:=yce) fun _ _ _ _ _ _ us hl=>match us,hl with | [_],_=>rfl
 have m7:=W.mg_of X G a7
 have b8:=F8.binds (ps:=ycu) fun _ _ _ _ _ _ us hl=>match us,hl with | [_],_=>rfl
 have m8:=W.mg_of X G a8
 have b9:=F9.binds (ps:=ybo) fun _ _ _ _ _ _ us hl=>match us,hl with | [_,_,_],_=>rfl
 have m9:=W.mg_of X G a9
 have b10:=F10.binds (ps:=yck) fun _ _ _ _ _ _ us hl=>match us,hl with | [_,_],_=>rfl
 have m10:=W.mg_of X G a10
 have b11:=F11.binds (ps:=yhg) fun _ _ _ _ _ _ us hl=>match us,hl with | [_],_=>rfl
 have m11:=W.mg_of X G a11
 have b12:=F12.binds (ps:=yf8) fun _ _ _ _ _ _ us hl=>match us,hl with | [_],_=>rfl
 have m12:=W.mg_of X G a12
 have b13:=F13.binds (ps:=yhy) fun _ _ _ _ _ _ us hl=>match us,hl with | [_,_,_],_=>rfl
 have m13:=W.mg_of X G a13
 have b14:=F14.binds (ps:=yfe) fun _ _ _ _ _ _ us hl=>match us,hl with | [_],_=>rfl
 have m14:=W.mg_of X G a14
 have b15:=F15.binds (ps:=ycv) fun _ _ _ _ _ _ us hl=>match us,hl with | [_],_=>rfl
 have m15:=W.mg_of X G a15
 have b16:=F16.binds (ps:=ybz) fun _ _ _ _ _ _ us hl=>match us,hl with | [_,_,_],_=>rfl
 have m16:=W.mg_of X G a16
 have b17:=F17.binds (ps:=yeo) fun _ _ _ _ _ _ us hl=>match us,hl with | [_,_,_],_=>rfl
 have m17:=W.mg_of X G a17
 have b18:=F18.binds (ps:=yez) fun _ _ _ _ _ _ us hl=>match us,hl with | [_,_,_,_],_=>rfl
 have m18:=W.mg_of X G a18
 have b19:=F19.binds (ps:=yeb) fun _ _ _ _ _ _ us hl=>match us,hl with | [_],_=>rfl
 have m19:=W.mg_of X G a19
 have b20:=F20.binds (ps:=yf7) fun _ _ _ _ _ _ us hl=>match us,hl with | [_,_,_],_=>rfl
 have m20:=W.mg_of X G a20
 have b21:=F21.binds (ps:=ycb) fun _ _ _ _ _ _ us hl=>match us,hl with | [_],_=>rfl
 have m21:=W.mg_of X G a21
 have b22:=F22.binds (ps:=ydf) fun _ _ _ _ _ _ us hl=>match us,hl with | [_,_],_=>rfl
 have m22:=W.mg_of X G a22
 have b23:=F23.binds (ps:=yfh) fun _ _ _ _ _ _ us hl=>match us,hl with | [_,_,_],_=>rfl
 have m23:=W.mg_of X G a23
 have b24:=F24.binds (ps:=yfi) fun _ _ _ _ _ _ us hl=>match us,hl with | [_,_,_,_],_=>rfl
 have m24:=W.mg_of X G a24
 have b25:=F25.binds (ps:=yj4) fun _ _ _ _ _ _ us hl=>match us,hl with | [_,_,_,_],_=>rfl
 have m25:=W.mg_of X G a25
 have b26:=F26.binds (ps:=yfj) fun _ _ _ _ _ _ us hl=>match us,hl with | [_,_,_,_],_=>rfl
 have m26:=W.mg_of X G a26
 have b27:=F27.binds (ps:=ygm) fun _ _ _ _ _ _ us hl=>match us,hl with | [_,_],_=>rfl
 have m27:=W.mg_of X G a27
 have b28:=F28.binds (ps:=ygc) fun _ _ _ _ _ _ us hl=>match us,hl with | [_,_],_=>rfl
 have m28:=W.mg_of X G a28
 have b29:=F29.binds (ps:=yee) fun _ _ _ _ _ _ us hl=>match us,hl with | [_,_,_,_],_=>rfl
 have m29:=W.mg_of X G a29
 have b30:=F30.binds (ps:=yev) fun _ _ _ _ _ _ us hl=>match us,hl with | [_,_],_=>rfl
 have m30:=W.mg_of X G a30
 have b31:=F31.binds (ps:=yf9) fun _ _ _ _ _ _ us hl=>match us,hl with | [_,_,_],_=>rfl
 have m31:=W.mg_of X G a31
 have b32:=F32.binds (ps:=ydv) fun _ _ _ _ _ _ us hl=>match us,hl with | [_,_],_=>rfl
 have m32:=W.mg_of X G a32
 have b33:=F33.binds (ps:=yem) fun _ _ _ _ _ _ us hl=>match us,hl with | [_],_=>rfl
 have m33:=W.mg_of X G a33
 have b34:=F34.binds (ps:=yfn) fun _ _ _ _ _ _ us hl=>match us,hl with | [_,_],_=>rfl
 have m34:=W.mg_of X G a34
 have b35:=F35.binds (ps:=yfo) fun _ _ _ _ _ _ us hl=>match us,hl with | [_,_,_,_],_=>rfl
 have m35:=W.mg_of X G a35
 have b36:=F36.binds (ps:=yhl) fun _ _ _ _ _ _ us hl=>match us,hl with | [_,_,_],_=>rfl
 have m36:=W.mg_of X G a36
 have b37:=F37.binds (ps:=yd9) fun _ _ _ _ _ _ us hl=>match us,hl with | [_],_=>rfl
 have m37:=W.mg_of X G a37
 have b38:=F38.binds (ps:=yf5) fun _ _ _ _ _ _ us hl=>match us,hl with | [_,_],_=>rfl
 have m38:=W.mg_of X G a38
 have b39:=F39.binds (ps:=yea) fun _ _ _ _ _ _ us hl=>match us,hl with | [_,_,_,_],_=>rfl
 have m39:=W.mg_of X G a39
 have b40:=F40.binds (ps:=yd1) fun _ _ _ _ _ _ us hl=>match us,hl with | [_],_=>rfl
 have m40:=W.mg_of X G a40
 have b41:=F41.binds (ps:=ykb) fun _ _ _ _ _ _ us hl=>match us,hl with | [_,_,_],_=>rfl
 have m41:=W.mg_of X G a41
 have b42:=F42.binds (ps:=ygg) fun _ _ _ _ _ _ us hl=>match us,hl with | [_],_=>rfl
 have m42:=W.mg_of X G a42
 have b43:=F43.binds (ps:=yot) fun _ _ _ _ _ _ us hl=>match us,hl with | [_,_,_,_],_=>rfl
 have m43:=W.mg_of X G a43
 have b44:=F44.binds (ps:=yi7) fun _ _ _ _ _ _ us hl=>match us,hl with | [_],_=>rfl
 have m44:=W.mg_of X G a44
 have b45:=F45.binds (ps:=yih) fun _ _ _ _ _ _ us hl=>match us,hl with | [_,_],_=>rfl
 have m45:=W.mg_of X G a45
 have b46:=F46.binds (ps:=yno) fun _ _ _ _ _ _ us hl=>match us,hl with | [_],_=>rfl
 have m46:=W.mg_of X G a46
 have b47:=F47.binds (ps:=yeq) fun _ _ _ _ _ _ us hl=>match us,hl with | [_],_=>rfl
 have m47:=W.mg_of X G a47
 have b48:=F48.binds (ps:=yer) fun _ _ _ _ _ _ us hl=>match us,hl with | [_,_,_,_],_=>rfl
 have m48:=W.mg_of X G a48
 have b49:=F49.binds (ps:=yet) fun _ _ _ _ _ _ us hl=>match us,hl with | [_,_,_,_],_=>rfl
 have m49:=W.mg_of X G a49
 have b50:=F50.binds (ps:=ynq) fun _ _ _ _ _ _ us hl=>match us,hl with | [_,_],_=>rfl
 have m50:=W.mg_of X G a50
 have b51:=F51.binds (ps:=ysc) fun _ _ _ _ _ _ us hl=>match us,hl with | [_],_=>rfl
 have m51:=W.mg_of X G a51
 have b52:=F52.binds (ps:=yhi) fun _ _ _ _ _ _ us hl=>match us,hl with | [_,_,_],_=>rfl
 have m52:=W.mg_of X G a52
 have b53:=F53.binds (ps:=ydj) fun _ _ _ _ _ _ us hl=>match us,hl with | [_,_],_=>rfl
 have m53:=W.mg_of X G a53
 have b54:=F54.binds (ps:=ykc) fun _ _ _ _ _ _ us hl=>match us,hl with | [_,_,_,_,_],_=>rfl
 have m54:=W.mg_of X G a54
 have b55:=F55.binds (ps:=yov) fun _ _ _ _ _ _ us hl=>match us,hl with | [_,_,_,_,_],_=>rfl
 have m55:=W.mg_of X G a55
 have b56:=F56.binds (ps:=yve) fun _ _ _ _ _ _ us hl=>match us,hl with | [_,_,_,_,_],_=>rfl
 have m56:=W.mg_of X G a56
 have B:Bn mg:=⟨W.mg_none_of X G z_len,W.mg_none_of X G z_list,W.mg_none_of X G z_isi,W.mg_none_of X G z_bool,W.mg_none_of X G z_int,W.mg_none_of X G z_str,W.mg_none_of X G z_tuple,W.mg_none_of X G z_all,W.mg_none_of X G z_any,W.mg_none_of X G z_zip,W.mg_none_of X G z_range,W.mg_none_of X G z_max,W.mg_none_of X G z_min,W.mg_none_of X G z_enumerate,W.mg_none_of X G z_sum,W.mg_none_of X G z_sorted,W.mg_none_of X G z_verr⟩
 have TY:∃cl,Txt K mg cl∧XcL K cl [5,1,3,4,2,7,8,9]:=by
  refine⟨(clF c_0 c_1 c_2 c_3 c_4 c_5 c_7 c_8 c_9),⟨⟨⟨_,W.mg_of X G g_FIRST_DAY⟩,⟨_,W.mg_of X G g_LAST_DAY⟩,⟨_,W.mg_of X G g_MOST_TERM⟩,⟨_,W.mg_of X G g_MOST_ROWS⟩,⟨_,W.mg_of X G g_MOST_COUNT⟩,⟨_,W.mg_of X G g_MOST_DUTY⟩,W.mg_of X G g_0,W.mg_of X G g_1,W.mg_of X G g_2,W.mg_of X G g_3,W.mg_of X G g_4,W.mg_of X G g_5,W.mg_of X G g_6,W.mg_of X G g_7,W.mg_of X G g_8,x_1,x_2,x_3,x_4,x_5,x_6,x_7,x_8⟩,?_⟩⟩
  have X_5:XCls K c_5:=⟨ga_5,gt_5,cl_5,gg,tk,mo_5,sb_5,yan mo_5⟩
  have X_1:XCls K c_1:=⟨ga_1,gt_1,cl_1,gg,tk,mo_1,sb_1,yan mo_1⟩
  have X_3:XCls K c_3:=⟨ga_3,gt_3,cl_3,gg,tk,mo_3,sb_3,yan mo_3⟩
  have X_4:XCls K c_4:=⟨ga_4,gt_4,cl_4,gg,tk,mo_4,sb_4,yan mo_4⟩
  have X_2:XCls K c_2:=⟨ga_2,gt_2,cl_2,gg,tk,mo_2,sb_2,yan mo_2⟩
  have X_6:XCls K c_7:=⟨ga_6,gt_6,cl_6,gg,tk,mo_6,sb_6,yan mo_6⟩
  have X_7:XCls K c_8:=⟨ga_7,gt_7,cl_7,gg,tk,mo_7,sb_7,yan mo_7⟩
  have X_8:XCls K c_9:=⟨ga_8,gt_8,cl_8,gg,tk,mo_8,sb_8,yan mo_8⟩
  have iC:(W.clsIn K c_0).isSome=true:=yan (b:=true) (v:=.type "BaseException") sb_0
  exact⟨(zfm0 ⟨X_5,(zfm0 ⟨X_1,(zfm0 ⟨X_3,(zfm0 ⟨X_4,(zfm0 ⟨X_2,(zfm0 ⟨X_6,(zfm0 ⟨X_7,(zfm0 ⟨X_8,(fun _ h=>nomatch h)⟩)⟩)⟩)⟩)⟩)⟩)⟩)⟩),(zfm0 ⟨yif sb_0 iC t_0 mC_5,(zfm0 ⟨yif sb_0 iC t_0 mC_1,(zfm0 ⟨yif sb_0 iC t_0 mC_3,(zfm0 ⟨yif sb_0 iC t_0 mC_4,(zfm0 ⟨yif sb_0 iC t_0 mC_2,(zfm0 ⟨yif sb_0 iC t_0 mC_6,(zfm0 ⟨yif sb_0 iC t_0 mC_7,(zfm0 ⟨yif sb_0 iC t_0 mC_8,(fun _ h=>nomatch h)⟩)⟩)⟩)⟩)⟩)⟩)⟩)⟩),(zfm0 ⟨(zfm0 ⟨ye3,(zfm0 ⟨ya0 q_5_5 (yan mo_1) t_1 q_5_1,(zfm0 ⟨ya0 q_5_5 (yan mo_3) t_3 q_5_3,(zfm0 ⟨ya0 q_5_5 (yan mo_4) t_4 q_5_4,(zfm0 ⟨ya0 q_5_5 (yan mo_2) t_2 q_5_2,(zfm0 ⟨ya0 q_5_5 (yan mo_6) t_6 q_5_6,(zfm0 ⟨ya0 q_5_5 (yan mo_7) t_7 q_5_7,(zfm0 ⟨ya0 q_5_5 (yan mo_8) t_8 q_5_8,(fun _ h=>nomatch h)⟩)⟩)⟩)⟩)⟩)⟩)⟩)⟩),(zfm0 ⟨(zfm0 ⟨ya0 q_1_1 (yan mo_5) t_5 q_1_5,(zfm0 ⟨ye3,(zfm0 ⟨ya0 q_1_1 (yan mo_3) t_3 q_1_3,(zfm0 ⟨ya0 q_1_1 (yan mo_4) t_4 q_1_4,(zfm0 ⟨ya0 q_1_1 (yan mo_2) t_2 q_1_2,(zfm0 ⟨ya0 q_1_1 (yan mo_6) t_6 q_1_6,(zfm0 ⟨ya0 q_1_1 (yan mo_7) t_7 q_1_7,(zfm0 ⟨ya0 q_1_1 (yan mo_8) t_8 q_1_8,(fun _ h=>nomatch h)⟩)⟩)⟩)⟩)⟩)⟩)⟩)⟩),(zfm0 ⟨(zfm0 ⟨ya0 q_3_3 (yan mo_5) t_5 q_3_5,(zfm0 ⟨ya0 q_3_3 (yan mo_1) t_1 q_3_1,(zfm0 ⟨ye3,(zfm0 ⟨ya0 q_3_3 (yan mo_4) t_4 q_3_4,(zfm0 ⟨ya0 q_3_3 (yan mo_2) t_2 q_3_2,(zfm0 ⟨ya0 q_3_3 (yan mo_6) t_6 q_3_6,(zfm0 ⟨ya0 q_3_3 (yan mo_7) t_7 q_3_7,(zfm0 ⟨ya0 q_3_3 (yan mo_8) t_8 q_3_8,(fun _ h=>nomatch h)⟩)⟩)⟩)⟩)⟩)⟩)⟩)⟩),(zfm0 ⟨(zfm0 ⟨ya0 q_4_4 (yan mo_5) t_5 q_4_5,(zfm0 ⟨ya0 q_4_4 (yan mo_1) t_1 q_4_1,(zfm0 ⟨ya0 q_4_4 (yan mo_3) t_3 q_4_3,(zfm0 ⟨ye3,(zfm0 ⟨ya0 q_4_4 (yan mo_2) t_2 q_4_2,(zfm0 ⟨ya0 q_4_4 (yan mo_6) t_6 q_4_6,(zfm0 ⟨ya0 q_4_4 (yan mo_7) t_7 q_4_7,(zfm0 ⟨ya0 q_4_4 (yan mo_8) t_8 q_4_8,(fun _ h=>nomatch h)⟩)⟩)⟩)⟩)⟩)⟩)⟩)⟩),(zfm0 ⟨(zfm0 ⟨ya0 q_2_2 (yan mo_5) t_5 q_2_5,(zfm0 ⟨ya0 q_2_2 (yan mo_1) t_1 q_2_1,(zfm0 ⟨ya0 q_2_2 (yan mo_3) t_3 q_2_3,(zfm0 ⟨ya0 q_2_2 (yan mo_4) t_4 q_2_4,(zfm0 ⟨ye3,(zfm0 ⟨ya0 q_2_2 (yan mo_6) t_6 q_2_6,(zfm0 ⟨ya0 q_2_2 (yan mo_7) t_7 q_2_7,(zfm0 ⟨ya0 q_2_2 (yan mo_8) t_8 q_2_8,(fun _ h=>nomatch h)⟩)⟩)⟩)⟩)⟩)⟩)⟩)⟩),(zfm0 ⟨(zfm0 ⟨ya0 q_6_6 (yan mo_5) t_5 q_6_5,(zfm0 ⟨ya0 q_6_6 (yan mo_1) t_1 q_6_1,(zfm0 ⟨ya0 q_6_6 (yan mo_3) t_3 q_6_3,(zfm0 ⟨ya0 q_6_6 (yan mo_4) t_4 q_6_4,(zfm0 ⟨ya0 q_6_6 (yan mo_2) t_2 q_6_2,(zfm0 ⟨ye3,(zfm0 ⟨ya0 q_6_6 (yan mo_7) t_7 q_6_7,(zfm0 ⟨ya0 q_6_6 (yan mo_8) t_8 q_6_8,(fun _ h=>nomatch h)⟩)⟩)⟩)⟩)⟩)⟩)⟩)⟩),(zfm0 ⟨(zfm0 ⟨ya0 q_7_7 (yan mo_5) t_5 q_7_5,(zfm0 ⟨ya0 q_7_7 (yan mo_1) t_1 q_7_1,(zfm0 ⟨ya0 q_7_7 (yan mo_3) t_3 q_7_3,(zfm0 ⟨ya0 q_7_7 (yan mo_4) t_4 q_7_4,(zfm0 ⟨ya0 q_7_7 (yan mo_2) t_2 q_7_2,(zfm0 ⟨ya0 q_7_7 (yan mo_6) t_6 q_7_6,(zfm0 ⟨ye3,(zfm0 ⟨ya0 q_7_7 (yan mo_8) t_8 q_7_8,(fun _ h=>nomatch h)⟩)⟩)⟩)⟩)⟩)⟩)⟩)⟩),(zfm0 ⟨(zfm0 ⟨ya0 q_8_8 (yan mo_5) t_5 q_8_5,(zfm0 ⟨ya0 q_8_8 (yan mo_1) t_1 q_8_1,(zfm0 ⟨ya0 q_8_8 (yan mo_3) t_3 q_8_3,(zfm0 ⟨ya0 q_8_8 (yan mo_4) t_4 q_8_4,(zfm0 ⟨ya0 q_8_8 (yan mo_2) t_2 q_8_2,(zfm0 ⟨ya0 q_8_8 (yan mo_6) t_6 q_8_6,(zfm0 ⟨ya0 q_8_8 (yan mo_7) t_7 q_8_7,(zfm0 ⟨ye3,(fun _ h=>nomatch h)⟩)⟩)⟩)⟩)⟩)⟩)⟩)⟩),(fun _ h=>nomatch h)⟩)⟩)⟩)⟩)⟩)⟩)⟩)⟩),(zfm0 ⟨yie yfz v_5,(zfm0 ⟨yie yfz v_1,(zfm0 ⟨yie yfz v_3,(zfm0 ⟨yie yfz v_4,(zfm0 ⟨yie yfz v_2,(zfm0 ⟨yie yfz v_6,(zfm0 ⟨yie yfz v_7,(zfm0 ⟨yie yfz v_8,(fun _ h=>nomatch h)⟩)⟩)⟩)⟩)⟩)⟩)⟩)⟩)⟩
 obtain ⟨cl,T,Y⟩:=TY
 refine⟨W.fnOf "law" "law" (yap yku) (yao yku) (yac yku) .none j57 n57 p57 e57 r57 s57,[(PP42,yfl,yfm)],⟨by simp,(zfm0 ⟨⟨mt42,nk42,_,hd42⟩,(fun _ h=>nomatch h)⟩)⟩,fun s v=>.of_eq rfl,fun base _ _ BM=>?_⟩
 have G0:Cal l.prog w K mg base CX0 1 "is_day" yhd yo9:=⟨⟨_,_,yt6 T B F0,b0,k0,m0⟩⟩
 have G1:Cal l.prog w K mg base (CXE l.prog w) 2 "check_day" yc2 (ysl (cl 1) 999):=⟨⟨_,_,ynz T B G0 F1,b1,k1,m1⟩⟩
 have G2:Cal l.prog w K mg base (CXE l.prog w) 2 "check_term" yc6 (yqp (cl 2)):=⟨⟨_,_,ymc T B F2,b2,k2,m2⟩⟩
 have G3:Cal l.prog w K mg base (CXE l.prog w) 3 "reach" yj3 (ypx cl):=⟨⟨_,_,yws T B G1 G2 F3,b3,k3,m3⟩⟩
 have G4:Cal l.prog w K mg base (CXE l.prog w) 2 "check_many" yc8 (yql (cl 5)):=⟨⟨_,_,ymd T B F4,b4,k4,m4⟩⟩
 have G5:Cal l.prog w K mg base (CXE l.prog w) 2 "check_count" ycn (ysl (cl 3) 10000000000):=⟨⟨_,_,yko T B F5,b5,k5,m5⟩⟩
 have G6:Cal l.prog w K mg base (CXE l.prog w) 2 "check_duty" yd8 (ysl (cl 4) 1000000):=⟨⟨_,_,yme T B F6,b6,k6,m6⟩⟩
 have G7:Cal l.prog w K mg base (CXE l.prog w) 3 "checked_lots" yce (ypa (cl 5) (yje cl) 3):=⟨⟨_,_,yjh T B G4 G1 G5 G6 F7,b7,k7,m7⟩⟩
 have G8:Cal l.prog w K mg base (CXE l.prog w) 3 "checked_outs" ycu (ypa (cl 5) (yje cl) 2):=⟨⟨_,_,yji T B G4 G1 G5 F8,b8,k8,m8⟩⟩
 have G9:Cal l.prog w K mg base (CXE l.prog w) 4 "checked_both" ybo (yla cl):=⟨⟨_,_,yjq T B G7 G8 G2 F9,b9,k9,m9⟩⟩
 have G10:Cal l.prog w K mg base (CXE l.prog w) 2 "checked_taken" yck (yhv (cl 7)):=⟨⟨_,_,yio T B F10,b10,k10,m10⟩⟩
 have G11:Cal l.prog w K mg base CX0 1 "eldest" yhg (yro yki okE):=⟨⟨_,_,yuq T B F11,b11,k11,m11⟩⟩
 have G12:Cal l.prog w K mg base CX0 1 "dearest" yf8 (yro yyt okD):=⟨⟨_,_,yr7 T B F12,b12,k12,m12⟩⟩
 have G13:Cal l.prog w K mg base CX0 1 "going" yhy yhw:=⟨⟨_,_,yv9 T B F13,b13,k13,m13⟩⟩
 have G14:Cal l.prog w K mg base CX0 1 "days_of" yfe yiw:=⟨⟨_,_,yr4 T B F14,b14,k14,m14⟩⟩
 have G15:Cal l.prog w K mg base CX0 2 "stretches_of" ycv yfv:=⟨⟨_,_,yjw T B G14 F15,b15,k15,m15⟩⟩
 have G16:Cal l.prog w K mg base CX0 3 "against_each" ybz ydh:=⟨⟨_,_,yjx T B G15 G13 F16,b16,k16,m16⟩⟩
 have G17:Cal l.prog w K mg base CX0 1 "lessened" yeo ygo:=⟨⟨_,_,ypt T B F17,b17,k17,m17⟩⟩
 have G18:Cal l.prog w K mg base CX0 4 "slacks_of" yez yh3:=⟨⟨_,_,yoh T B G16 G17 F18,b18,k18,m18⟩⟩
 have G19:Cal l.prog w K mg base CX0 1 "none_lacks" yeb yg1:=⟨⟨_,_,ymt T B F19,b19,k19,m19⟩⟩
 have G20:Cal l.prog w K mg base CX0 1 "free_at" yf7 ymq:=⟨⟨_,_,yr5 T B F20,b20,k20,m20⟩⟩
 have G21:Cal l.prog w K mg base (CXE l.prog w) 2 "check_dealable" ycb (yj1 (cl 8)):=⟨⟨_,_,yh5 T B G19 F21,b21,k21,m21⟩⟩
 have G22:Cal l.prog w K mg base (CXE l.prog w) 2 "check_place" ydf (ypf (cl 9)):=⟨⟨_,_,ykp T B F22,b22,k22,m22⟩⟩
 have G23:Cal l.prog w K mg base CX0 4 "reaches" yfh ygb:=⟨⟨_,_,yr9 T B G3 F23,b23,k23,m23⟩⟩
 have G24:Cal l.prog w K mg base CX0 5 "dealt_of" yfi yj2:=⟨⟨_,_,ypz T B G11 G23 F24,b24,k24,m24⟩⟩
 have G25:Cal l.prog w K mg base (CXE l.prog w) 6 "dealt" yj4 (ypy cl):=⟨⟨_,_,ywt T B G9 G10 G18 G21 G24 F25,b25,k25,m25⟩⟩
 have G26:Cal l.prog w K mg base CX0 5 "is_given" yfj yix:=⟨⟨_,_,yp0 T B G23 F26,b26,k26,m26⟩⟩
 have G27:Cal l.prog w K mg base CX0 1 "summed" ygm yit:=⟨⟨_,_,yt7 T B F27,b27,k27,m27⟩⟩
 have G28:Cal l.prog w K mg base CX0 1 "none_above" ygc (fun _ _ _ _=>False):=⟨⟨_,_,ywu,b28,k28,m28⟩⟩
 have G29:Cal l.prog w K mg base (CXE l.prog w) 6 "is_dealing" yee (yj5 cl):=⟨⟨_,_,ymy T B G9 G26 G27 G28 F29,b29,k29,m29⟩⟩
 have G30:Cal l.prog w K mg base (CXE l.prog w) 4 "counts_of" yev (yhx cl):=⟨⟨_,_,yn0 T B G7 G22 G27 F30,b30,k30,m30⟩⟩
 have G31:Cal l.prog w K mg base CX0 4 "best_of" yf9 ymu:=⟨⟨_,_,yr8 T B G16 G12 G20 G17 F31,b31,k31,m31⟩⟩
 have G32:Cal l.prog w K mg base CX0 1 "dear_ones" ydv yqr:=⟨⟨_,_,yn5 T B F32,b32,k32,m32⟩⟩
 have G33:Cal l.prog w K mg base CX0 1 "units_of" yem ymg:=⟨⟨_,_,ypi T B F33,b33,k33,m33⟩⟩
 have G34:Cal l.prog w K mg base CX0 2 "tightest" yfn yp6:=⟨⟨_,_,yp8 T B G14 G33 F34,b34,k34,m34⟩⟩
 have G35:Cal l.prog w K mg base CX0 3 "paper_of" yfo yhk:=⟨⟨_,_,yp9 T B G32 G34 F35,b35,k35,m35⟩⟩
 have G36:Cal l.prog w K mg base (CXE l.prog w) 5 "papers" yhl (ym3 cl):=⟨⟨_,_,yvd T B G9 G31 G16 G35 F36,b36,k36,m36⟩⟩
 have G37:Cal l.prog w K mg base CX0 1 "are_rising" yd9 ymh:=⟨⟨_,_,ymi T B F37,b37,k37,m37⟩⟩
 have G38:Cal l.prog w K mg base CX0 1 "lies_in" yf5 yqs:=⟨⟨_,_,yrs T B F38,b38,k38,m38⟩⟩
 have G39:Cal l.prog w K mg base (CXE l.prog w) 5 "good_paper" yea (yub cl):=⟨⟨_,_,ymj T B G9 G37 G32 G38 G13 G33 F39,b39,k39,m39⟩⟩
 have G40:Cal l.prog w K mg base CX0 1 "_law_row_fault" yd1 ygp:=⟨⟨_,_,yor B F40,b40,k40,m40⟩⟩
 have G41:Cal l.prog w K mg base CX0 2 "_law_fault" ykb yp3:=⟨⟨_,_,yw8 B G40 F41,b41,k41,m41⟩⟩
 have G42:Cal l.prog w K mg base CX0 1 "_law_eldest" ygg (yuw [(PP42,yfl,yfm)] yki okE):=⟨⟨_,_,ysi B BM rfl hd42 (.head _) F42,b42,k42,m42⟩⟩
 have G43:Cal l.prog w K mg base CX0 2 "_law_deal" yot (yp1 [(PP42,yfl,yfm)]):=⟨⟨_,_,yzm B G42 F43,b43,k43,m43⟩⟩
 have G44:Cal l.prog w K mg base CX0 1 "_law_begin" yi7 (yo5 K):=⟨⟨_,_,yv1 F44 B,b44,k44,m44⟩⟩
 have G45:Cal l.prog w K mg base CX0 1 "_law_pick" yih yig:=⟨⟨_,_,yym F45 B,b45,k45,m45⟩⟩
 have G46:Cal l.prog w K mg base CX0 2 "_law_span" yno ytm:=⟨⟨_,_,yyn B G45 F46,b46,k46,m46⟩⟩
 have G47:Cal l.prog w K mg base CX0 2 "_law_some_term" yeq ytl:=⟨⟨_,_,ynr B G45 F47,b47,k47,m47⟩⟩
 have G48:Cal l.prog w K mg base CX0 2 "_law_some_lots" yer ytn:=⟨⟨_,_,yns B G45 F48,b48,k48,m48⟩⟩
 have G49:Cal l.prog w K mg base CX0 2 "_law_some_outs" yet yto:=⟨⟨_,_,ynt B G45 F49,b49,k49,m49⟩⟩
 have G50:Cal l.prog w K mg base CX0 3 "_law_case" ynq ytp:=⟨⟨_,_,yyo B G45 G46 G47 G48 G49 F50,b50,k50,m50⟩⟩
 have G51:Cal l.prog w K mg base CX0 2 "_law_odd" ysc yvy:=⟨⟨_,_,za2 B G45 F51,b51,k51,m51⟩⟩
 have G52:Cal l.prog w K mg base CX0 3 "_law_spoilt" yhi ym1:=⟨⟨_,_,yu9 B G45 G51 F52,b52,k52,m52⟩⟩
 have G53:Cal l.prog w K mg base CX0 4 "_law_spoilt_case" ydj ygf:=⟨⟨_,_,ykt B G45 G51 G50 G52 F53,b53,k53,m53⟩⟩
 have G54:Cal l.prog w K mg base (CXE l.prog w) 7 "_law_asked" ykc (yqa cl):=⟨⟨_,_,yxe B G25 G29 G30 G36 G39 F54,b54,k54,m54⟩⟩
 have G55:Cal l.prog w K mg base CX0 8 "_law_said" yov yvg:=⟨⟨_,_,yzp B T Y G54 F55,b55,k55,m55⟩⟩
 have G56:Cal l.prog w K mg base CX0 3 "_law_due" yve (yzo [(PP42,yfl,yfm)]):=⟨⟨_,_,zbg B G40 G41 G43 F56,b56,k56,m56⟩⟩
 exact zbh B G44 G45 G51 G53 G55 G56 F57
theorem walk {l:W.OpenLaw}{q:Program}{loose:List Str}{XP:(Str→Option Value)→Heap→Prop}{YP:World→Heap→Prop}{d:DefRec}{K:Params→W.Frag}{ts:List Addr}(hn:l.most=some 63)(hdf:d.params.defaults=[])
 (hY:∀(w:World) (h:Heap),YP w h→(K w.params).In h∧∀P∈ts,h.get? P=some (W.tabObj #[]))
 (F:∀(w:World) (mg:Str→Option Value) (fa:Addr) (h:Heap),(K w.params).In h→h.Ns mainGlobals mg→mg d.name=some (.ref fa)→
  ∃(fd:FuncData) (tb:Tbs),((tb.map (·.1)).Nodup∧∀t∈tb,t.1∈ts∧(K w.params).lookup t.1=none∧∃c,W.codeHdIn (K w.params) c t.1=true)∧(∀(s:Shared) (u:Value),BindsTo s fd ⟨[u],[]⟩ [("_law_script",u)])∧∀base:Heap,(K w.params).In base→base.Ns mainGlobals mg→ymz mg base→FnOk l.prog w (K w.params) mg base CX0 9 fa fd ["_law_script"] (yxd (K w.params) tb)) :
 W.WalkO q loose XP YP l.row.toRowW d [] (fun f vs=>PySem.call f vs):=
 L2.walk_tab (n:=63) (k:=9) (x := "_law_script") (sp:=yxd) hn (by decide) hdf ⟨rfl,by decide,by decide⟩ hY F fun _ _ _ a ns hl hT hS=>⟨a,ns,rfl,hT,hS,hl,fun _ T'=>⟨rfl,T'⟩⟩
end K28
namespace PySem.W.Fast
def tw9862399676872627672:Nat:=0
def tw4054326941519066243:Nat:=0
def tw3929248548366102394:Nat:=0
def tw894381348164855323:Nat:=0
def tw6672481945805029053:Nat:=0
def tw7007159271481914187:Nat:=0
def tw5684418306711204075:Nat:=0
def tw10563795572542527665:Nat:=0
def tw8757485649147196842:Nat:=0
def tw8117519587333493881:Nat:=0
def tw11268205651703984482:Nat:=0
def tw16383695904058182036:Nat:=0
def tw8242128845299268582:Nat:=0
def tw16558308973853432259:Nat:=0
def tw12543495352225319541:Nat:=0
def tw360816425077891471:Nat:=0
def tw115806725320925925:Nat:=0
def tw3588257679133205396:Nat:=0
def tw8908898372774009656:Nat:=0
def tw4489793393953810099:Nat:=0
def tw10009759633636294670:Nat:=0
def tw1325542546362397692:Nat:=0
def tw8592924771061804600:Nat:=0
def tw13156925765707904870:Nat:=0
def tw4313203384102646983:Nat:=0
def tw7503657679204969177:Nat:=0
def tw10947186962275044879:Nat:=0
def tw7469675118470023983:Nat:=0
def tw7486904898251540785:Nat:=0
def tw13926987931051864504:Nat:=0
def tw17102181013732176570:Nat:=0
def tw7066205226691431144:Nat:=0
def tw1226773646806812201:Nat:=0
def tw6106556795802431804:Nat:=0
def tw12422000422801772459:Nat:=0
def tw12726056720378401598:Nat:=0
def tw11383237957220045880:Nat:=0
def tw9082142745217760938:Nat:=0
def tw2887056586392330882:Nat:=0
def tw4744620094587529186:Nat:=0
def tw17030613020549602444:Nat:=0
def tw16424227275487947755:Nat:=0
def tw5946765815424557510:Nat:=0
def tw9093988825075767670:Nat:=0
def tw13146059553328094012:Nat:=0
def tw8745508726152223267:Nat:=0
def tw3057384763846725432:Nat:=0
def tw1994623378592292454:Nat:=0
def tw5362283699656274312:Nat:=0
def tw12116765190557594615:Nat:=0
def tw16710272066512679685:Nat:=0
def tw5807477091046854909:Nat:=0
def tw1476043517652245398:Nat:=0
def tw18076643546292858085:Nat:=0
def tw2057805968528687973:Nat:=0
def tw13312938321416654856:Nat:=0
def tw18202759555190818429:Nat:=0
def tw3428042901553061218:Nat:=0
def tw10943144092630502390:Nat:=0
def tw5762353604995597037:Nat:=0
def tw1293979411753991652:Nat:=0
def tw18289175393453385310:Nat:=0
def tw5175995527969911772:Nat:=0
def tw4908300733353518080:Nat:=0
def tw5332678121151185696:Nat:=0
def tw3316785089936199054:Nat:=0
def tw4908143508867130964:Nat:=0
def tw6254585221313257544:Nat:=0
def tw9309167019682171236:Nat:=0
def tw4710460767469788249:Nat:=0
def tw12144485719926669434:Nat:=0
def tw8173780774574435032:Nat:=0
def tw681106224693301621:Nat:=0
def tw13295307349491863963:Nat:=0
def tw9190191416862195622:Nat:=0
def tw11264257828533984745:Nat:=0
def tw6987378204583663661:Nat:=0
def tw4993150985611776806:Nat:=0
def tw10706133183879626049:Nat:=0
def tw14282272673267636603:Nat:=0
def tw7551317460691095625:Nat:=0
def tw10269897564983412558:Nat:=0
def tw4461295008888298283:Nat:=0
def tw571342976185167757:Nat:=0
def tw4485228032537723438:Nat:=0
def tw4936059240000487035:Nat:=0
def tw2109834938212028658:Nat:=0
def tw11889126021597667208:Nat:=0
def tw10575387240783054324:Nat:=0
def tw8418415067225232395:Nat:=0
def tw7296398279444170371:Nat:=0
def tw10930407668178286002:Nat:=0
def tw13653802194259695234:Nat:=0
def tw2103376238704936121:Nat:=0
def tw12978090361704238472:Nat:=0
def tw5974911325400718856:Nat:=0
def tw9763538774479210429:Nat:=0
def tw16248203341547268986:Nat:=0
def tw8761488184046032215:Nat:=0
def tw11795834265693216007:Nat:=0
def tw5507437247614879894:Nat:=0
def tw13101295730343512931:Nat:=0
def tw9091670726146994306:Nat:=0
def tw18127739828783169478:Nat:=0
def tw577406924260488654:Nat:=0
def tw927398604665161679:Nat:=0
def tw1112009063770147520:Nat:=0
def tw15794590635217116749:Nat:=0
def tw5544614204863771571:Nat:=0
def tw2363956548458048192:Nat:=0
def tw10978532512122471132:Nat:=0
def tw6469043710519122160:Nat:=0
def tw9640966811366326078:Nat:=0
def tw10195905595773232169:Nat:=0
def tw8478326412445389864:Nat:=0
def tw9534041919057920153:Nat:=0
def tw13001864352781350732:Nat:=0
def tw9544434544261129105:Nat:=0
def tw6612319863108913729:Nat:=0
def tw10040526439032833357:Nat:=0
def tw5097021860087935887:Nat:=0
def tw9727975387748950562:Nat:=0
def tw15343412739788968492:Nat:=0
def tw5838667852910347736:Nat:=0
def tw1611591572837847940:Nat:=0
def tw11158098172827705729:Nat:=0
def tw4635279768432142367:Nat:=0
def tw5393595969078665586:Nat:=0
def tw15456871134726577965:Nat:=0
def tw9365652105470916120:Nat:=0
def tw16871796262537717994:Nat:=0
def tw6950471133758281208:Nat:=0
def tw15000134297511501382:Nat:=0
def tw992861729328713891:Nat:=0
def tw6023315732871999308:Nat:=0
def tw5694329460284393639:Nat:=0
def tw1280170595467844005:Nat:=0
def tw17780351660239056826:Nat:=0
def tw11452302267761733640:Nat:=0
def tw8281869065928283444:Nat:=0
def tw17332214945078763805:Nat:=0
def tw18339982131340627248:Nat:=0
def tw12160073189219074610:Nat:=0
def tw13187394716843410207:Nat:=0
def tw15045850964355968201:Nat:=0
def tw11561380832912860555:Nat:=0
def tw16339047464557554567:Nat:=0
def tw14909479498222614176:Nat:=0
def tw2175222894647167979:Nat:=0
def tw7229501708367502187:Nat:=0
def tw11980137990556150781:Nat:=0
def tw2083686541714795668:Nat:=0
def tw9999061358048264013:Nat:=0
def tw9524988857041681937:Nat:=0
def tw4127005136682700507:Nat:=0
def tw11630274050109899529:Nat:=0
def tw7224891808891129585:Nat:=0
def tw9671147425064614839:Nat:=0
def tw6933782851451698940:Nat:=0
def tw13984028012598607474:Nat:=0
def tw17875679658353388699:Nat:=0
def tw11783660813722818960:Nat:=0
def tw16752560542731965850:Nat:=0
def tw8707115280278526149:Nat:=0
def tw12190543928230236373:Nat:=0
def tw17774877777997258876:Nat:=0
def tw8090894672624569995:Nat:=0
def tw9591042721931723492:Nat:=0
def tw13084211648903775070:Nat:=0
def tw15023201689598088258:Nat:=0
def tw14338463708585980125:Nat:=0
def tw17315999606529557274:Nat:=0
def tw7552404115985579061:Nat:=0
def tw2417578485133930894:Nat:=0
def tw15542486520592986170:Nat:=0
def tw13471383052601955489:Nat:=0
def tw7399459971877900994:Nat:=0
def tw17965653761653947602:Nat:=0
def tw6472492232447633517:Nat:=0
def tw7211599316169511057:Nat:=0
def tw5850322405891741469:Nat:=0
def tw10934392499656333041:Nat:=0
def tw645387076426513164:Nat:=0
def tw17496986629766057220:Nat:=0
def tw16343268812854345578:Nat:=0
def tw4981279911815889229:Nat:=0
def tw2453501992821288611:Nat:=0
def tw14956597385640896833:Nat:=0
def tw8424341726743571034:Nat:=0
def tw6902923147073904261:Nat:=0
def tw16151803254370577750:Nat:=0
def tw10342412202146953493:Nat:=0
def tw15002488815941596979:Nat:=0
def tw9069068639815681502:Nat:=0
def tw2624077433570867823:Nat:=0
def tw11020204752875640814:Nat:=0
def tw10939241219936639117:Nat:=0
def tw7490316946332003116:Nat:=0
def tw4973286854377944657:Nat:=0
def tw15490544450583105304:Nat:=0
def tw7915480682591728760:Nat:=0
def tw9590579200740947355:Nat:=0
def tw11888129613090215290:Nat:=0
def tw3950544534584613967:Nat:=0
def tw1910767980364811173:Nat:=0
def tw17511049098680679647:Nat:=0
def tw12903496979310122204:Nat:=0
def tw13002423025694357045:Nat:=0
def tw3604537585769174265:Nat:=0
def tw7616301581286487926:Nat:=0
def tw3104075189304164687:Nat:=0
def tw15610349266212103705:Nat:=0
def tw3360120380896794568:Nat:=0
def tw3952395869023212876:Nat:=0
def tw1198173297485453982:Nat:=0
def tw315712292384490677:Nat:=0
def tw2041658670652200241:Nat:=0
def tw3039118854505894908:Nat:=0
def tw1754478196015221542:Nat:=0
def tw219911851237296835:Nat:=0
def tw2691560940294343724:Nat:=0
def tw8850651812114927467:Nat:=0
def tw1832110395109848270:Nat:=0
def tw2217525826268134952:Nat:=0
def tw16655544109767895702:Nat:=0
def tw18424930539693473241:Nat:=0
def tw14772348329682598248:Nat:=0
def tw4412260770442949290:Nat:=0
def tw89631105707023776:Nat:=0
def tw16887422270498468785:Nat:=0
def tw1083004745858666271:Nat:=0
def tw17967393246162347337:Nat:=0
def tw11618217204335714864:Nat:=0
def tw15140002561613900848:Nat:=0
def tw6384026187421323165:Nat:=0
def tw1920686857168084940:Nat:=0
def tw17431520517615174979:Nat:=0
def tw1499448513022873618:Nat:=0
def tw45580945118408957:Nat:=0
def tw6857717970287789979:Nat:=0
def tw10579311589353878024:Nat:=0
def tw15974233429844485960:Nat:=0
def tw1992614293977639857:Nat:=0
def tw1824874092466422719:Nat:=0
def tw5911125850460462774:Nat:=0
def tw1874111044933431586:Nat:=0
def tw14816165956397438827:Nat:=0
def tw14911532494576922644:Nat:=0
def tw10875906960163708233:Nat:=0
def tw251135256785929492:Nat:=0
def tw11087683591179758098:Nat:=0
def tw5118836592951706855:Nat:=0
def tw237137282369182778:Nat:=0
def tw12700460976221276830:Nat:=0
def tw907148147894110679:Nat:=0
def tw13777289014449421007:Nat:=0
def tw13086407303665166984:Nat:=0
def tw11644656135445712390:Nat:=0
def tw4494589500630059749:Nat:=0
def tw6273707753462561467:Nat:=0
def tw7224652721266546501:Nat:=0
def tw12011678778952395076:Nat:=0
def tw6759428003735662123:Nat:=0
def tw68800067441024833:Nat:=0
def tw9831585072348078195:Nat:=0
def tw12222954307976780911:Nat:=0
def tw8808181014269728293:Nat:=0
def tw12734900156873295448:Nat:=0
def tw15464893401877406348:Nat:=0
def tw6418771731178358325:Nat:=0
def tw13989960147867077115:Nat:=0
def tw7716651438900768980:Nat:=0
def tw2846344078993692889:Nat:=0
def tw13574635288327036910:Nat:=0
def tw13188815981913957459:Nat:=0
def tw16400273692565738155:Nat:=0
def tw3530369906136035079:Nat:=0
def tw16191293754389347316:Nat:=0
def tw14149618618768149227:Nat:=0
def tw282911636922784381:Nat:=0
def tw17792023164743694820:Nat:=0
def tw17258834395291116714:Nat:=0
def tw6700881872399089471:Nat:=0
def tw1839599959989563959:Nat:=0
def tw8145070690657569318:Nat:=0
def tw8321192704349590602:Nat:=0
def tw1434413988655840157:Nat:=0
def tw4551889900343157852:Nat:=0
def tw3769151382303895850:Nat:=0
def tw10827760930998991005:Nat:=0
def tw6015668329740800999:Nat:=0
def tw1003212829830153455:Nat:=0
def tw897125011812698931:Nat:=0
def tw5133094359585959409:Nat:=0
def tw12164504214210207532:Nat:=0
def tw3045990038424149374:Nat:=0
def tw7902772929757597564:Nat:=0
def tw6320792086312760317:Nat:=0
def tw2877962814292927547:Nat:=0
def tw18389764781332916523:Nat:=0
def tw2117169712620317955:Nat:=0
def tw10733348717587215793:Nat:=0
def tw7028803470670987969:Nat:=0
def tw10041536775102417861:Nat:=0
def tw12810139355973378490:Nat:=0
def tw771273521198758730:Nat:=0
def tw14592577347747810131:Nat:=0
def tw6055146440296570259:Nat:=0
def tw15319253624733962053:Nat:=0
def tw1922493241097559460:Nat:=0
def tw17095114377695697245:Nat:=0
def tw13139748558490830334:Nat:=0
def tw8562669555980053007:Nat:=0
def tw13641007660471541812:Nat:=0
def tw487358581036725079:Nat:=0
def tw15676421533006316483:Nat:=0
def tw7644205352410604912:Nat:=0
def tw4900268351801377652:Nat:=0
def tw9613984299062008441:Nat:=0
def tw11091640227758979333:Nat:=0
def tw341643624663801878:Nat:=0
def tw17688299128408917996:Nat:=0
def tw9688878927065290519:Nat:=0
def tw7363200809178545951:Nat:=0
def tw16696210988973832116:Nat:=0
def tw6475004752515717092:Nat:=0
def tw18350116541365311299:Nat:=0
def tw5034060875501586877:Nat:=0
def tw8084693349681594954:Nat:=0
def tw18296547706752287696:Nat:=0
def tw5072181939691619703:Nat:=0
def tw7872710945038574526:Nat:=0
def tw1049890150269691223:Nat:=0
def tw12144817303358300239:Nat:=0
def tw4187430356787868797:Nat:=0
def tw15603320546363393398:Nat:=0
def tw13187480262871846477:Nat:=0
def tw6940517048220058240:Nat:=0
end PySem.W.Fast
open PySem PySem.W PyProof.Rows
set_option maxRecDepth 100000 in
set_option maxHeartbeats 0 in
theorem PySem.Challenge.cw_drawback_k28_dealings_and_papers_refused_holds : PySem.Challenge.rw_drawback_k28_dealings_and_papers_refused.Holds := by
 w_on;o_law;k_head;(case hw=>w_witness2)
 k_fill
 refine K28.walk (l:=PySem.Challenge.rw_drawback_k28_dealings_and_papers_refused) rfl rfl (fun w h Y=>⟨PySem.W.km_in_of Y,PySem.W.km_tabs_of Y⟩) ?F
 case F=>
  intro w mg fa h KX G hmg
  refine' K28.all_mk KX G hmg ?a0 ?l0 ?c0 ?k0 ?a1 ?l1 ?c1 ?k1 ?a2 ?l2 ?c2 ?k2 ?a3 ?l3 ?c3 ?k3 ?a4 ?l4 ?c4 ?k4 ?a5 ?l5 ?c5 ?k5 ?a6 ?l6 ?c6 ?k6 ?a7 ?l7 ?c7 ?k7 ?a8 ?l8 ?c8 ?k8 ?a9 ?l9 ?c9 ?k9 ?a10 ?l10 ?c10 ?k10 ?a11 ?l11 ?c11 ?k11 ?a12 ?l12 ?c12 ?k12 ?a13 ?l13 ?c13 ?k13 ?a14 ?l14 ?c14 ?k14 ?a15 ?l15 ?c15 ?k15 ?a16 ?l16 ?c16 ?k16 ?a17 ?l17 ?c17 ?k17 ?a18 ?l18 ?c18 ?k18 ?a19 ?l19 ?c19 ?k19 ?a20 ?l20 ?c20 ?k20 ?a21 ?l21 ?c21 ?k21 ?a22 ?l22 ?c22 ?k22 ?a23 ?l23 ?c23 ?k23 ?a24 ?l24 ?c24 ?k24 ?a25 ?l25 ?c25 ?k25 ?a26 ?l26 ?c26 ?k26 ?a27 ?l27 ?c27 ?k27 ?a28 ?l28 ?c28 ?k28 ?a29 ?l29 ?c29 ?k29 ?a30 ?l30 ?c30 ?k30 ?a31 ?l31 ?c31 ?k31 ?a32 ?l32 ?c32 ?k32 ?a33 ?l33 ?c33 ?k33 ?a34 ?l34 ?c34 ?k34 ?a35 ?l35 ?c35 ?k35 ?a36 ?l36 ?c36 ?k36 ?a37 ?l37 ?c37 ?k37 ?a38 ?l38 ?c38 ?k38 ?a39 ?l39 ?c39 ?k39 ?a40 ?l40 ?c40 ?k40 ?a41 ?l41 ?c41 ?k41 ?a42 ?l42 ?tl42 ?tp42 ?hd42 ?nk42 ?mt42 ?c42 ?k42 ?a43 ?l43 ?c43 ?k43 ?a44 ?l44 ?c44 ?k44 ?a45 ?l45 ?c45 ?k45 ?a46 ?l46 ?c46 ?k46 ?a47 ?l47 ?c47 ?k47 ?a48 ?l48 ?c48 ?k48 ?a49 ?l49 ?c49 ?k49 ?a50 ?l50 ?c50 ?k50 ?a51 ?l51 ?c51 ?k51 ?a52 ?l52 ?c52 ?k52 ?a53 ?l53 ?c53 ?k53 ?a54 ?l54 ?c54 ?k54 ?a55 ?l55 ?c55 ?k55 ?a56 ?l56 ?c56 ?k56 ?a57 ?l57 ?c57 ?k57 ?z_len ?z_list ?z_isi ?z_bool ?z_int ?z_str ?z_tuple ?z_all ?z_any ?z_zip ?z_range ?z_max ?z_min ?z_enumerate ?z_sum ?z_sorted ?z_verr ?g_FIRST_DAY ?g_LAST_DAY ?g_MOST_TERM ?g_MOST_ROWS ?g_MOST_COUNT ?g_MOST_DUTY ?g_0 ?g_1 ?g_2 ?g_3 ?g_4 ?g_5 ?g_6 ?g_7 ?g_8 ?x_1 ?x_2 ?x_3 ?x_4 ?x_5 ?x_6 ?x_7 ?x_8 ?ga_5 ?gt_5 ?cl_5 ?mo_5 ?sb_5 ?mC_5 ?q_5_5 ?q_5_1 ?q_5_3 ?q_5_4 ?q_5_2 ?q_5_6 ?q_5_7 ?q_5_8 ?v_5 ?t_5 ?ga_1 ?gt_1 ?cl_1 ?mo_1 ?sb_1 ?mC_1 ?q_1_5 ?q_1_1 ?q_1_3 ?q_1_4 ?q_1_2 ?q_1_6 ?q_1_7 ?q_1_8 ?v_1 ?t_1 ?ga_3 ?gt_3 ?cl_3 ?mo_3 ?sb_3 ?mC_3 ?q_3_5 ?q_3_1 ?q_3_3 ?q_3_4 ?q_3_2 ?q_3_6 ?q_3_7 ?q_3_8 ?v_3 ?t_3 ?ga_4 ?gt_4 ?cl_4 ?mo_4 ?sb_4 ?mC_4 ?q_4_5 ?q_4_1 ?q_4_3 ?q_4_4 ?q_4_2 ?q_4_6 ?q_4_7 ?q_4_8 ?v_4 ?t_4 ?ga_2 ?gt_2 ?cl_2 ?mo_2 ?sb_2 ?mC_2 ?q_2_5 ?q_2_1 ?q_2_3 ?q_2_4 ?q_2_2 ?q_2_6 ?q_2_7 ?q_2_8 ?v_2 ?t_2 ?ga_6 ?gt_6 ?cl_6 ?mo_6 ?sb_6 ?mC_6 ?q_6_5 ?q_6_1 ?q_6_3 ?q_6_4 ?q_6_2 ?q_6_6 ?q_6_7 ?q_6_8 ?v_6 ?t_6 ?ga_7 ?gt_7 ?cl_7 ?mo_7 ?sb_7 ?mC_7 ?q_7_5 ?q_7_1 ?q_7_3 ?q_7_4 ?q_7_2 ?q_7_6 ?q_7_7 ?q_7_8 ?v_7 ?t_7 ?ga_8 ?gt_8 ?cl_8 ?mo_8 ?sb_8 ?mC_8 ?q_8_5 ?q_8_1 ?q_8_3 ?q_8_4 ?q_8_2 ?q_8_6 ?q_8_7 ?q_8_8 ?v_8 ?t_8 ?t_0 ?sb_0 ?gg ?tk
  (case a0=>k_is)
  (case l0=>k_is)
  (case c0=>k_is)
  (case k0=>k_is)
  (case a1=>k_is)
  (case l1=>k_is)
  (case c1=>k_is)
  (case k1=>k_is)
  (case a2=>k_is)
  (case l2=>k_is)
  (case c2=>k_is)
  (case k2=>k_is)
  (case a3=>k_is)
  (case l3=>k_is)
  (case c3=>k_is)
  (case k3=>k_is)
  (case a4=>k_is)
  (case l4=>k_is)
  (case c4=>k_is)
  (case k4=>k_is)
  (case a5=>k_is)
  (case l5=>k_is)
  (case c5=>k_is)
  (case k5=>k_is)
  (case a6=>k_is)
  (case l6=>k_is)
  (case c6=>k_is)
  (case k6=>k_is)
  (case a7=>k_is)
  (case l7=>k_is)
  (case c7=>k_is)
  (case k7=>k_is)
  (case a8=>k_is)
  (case l8=>k_is)
  (case c8=>k_is)
  (case k8=>k_is)
  (case a9=>k_is)
  (case l9=>k_is)
  (case c9=>k_is)
  (case k9=>k_is)
  (case a10=>k_is)
  (case l10=>k_is)
  (case c10=>k_is)
  (case k10=>k_is)
  (case a11=>k_is)
  (case l11=>k_is)
  (case c11=>k_is)
  (case k11=>k_is)
  (case a12=>k_is)
  (case l12=>k_is)
  (case c12=>k_is)
  (case k12=>k_is)
  (case a13=>k_is)
  (case l13=>k_is)
  (case c13=>k_is)
  (case k13=>k_is)
  (case a14=>k_is)
  (case l14=>k_is)
  (case c14=>k_is)
  (case k14=>k_is)
  (case a15=>k_is)
  (case l15=>k_is)
  (case c15=>k_is)
  (case k15=>k_is)
  (case a16=>k_is)
  (case l16=>k_is)
  (case c16=>k_is)
  (case k16=>k_is)
  (case a17=>k_is)
  (case l17=>k_is)
  (case c17=>k_is)
  (case k17=>k_is)
  (case a18=>k_is)
  (case l18=>k_is)
  (case c18=>k_is)
  (case k18=>k_is)
  (case a19=>k_is)
  (case l19=>k_is)
  (case c19=>k_is)
  (case k19=>k_is)
  (case a20=>k_is)
  (case l20=>k_is)
  (case c20=>k_is)
  (case k20=>k_is)
  (case a21=>k_is)
  (case l21=>k_is)
  (case c21=>k_is)
  (case k21=>k_is)
  (case a22=>k_is)
  (case l22=>k_is)
  (case c22=>k_is)
  (case k22=>k_is)
  (case a23=>k_is)
  (case l23=>k_is)
  (case c23=>k_is)
  (case k23=>k_is)
  (case a24=>k_is)
  (case l24=>k_is)
  (case c24=>k_is)
  (case k24=>k_is)
  (case a25=>k_is)
  (case l25=>k_is)
  (case c25=>k_is)
  (case k25=>k_is)
  (case a26=>k_is)
  (case l26=>k_is)
  (case c26=>k_is)
  (case k26=>k_is)
  (case a27=>k_is)
  (case l27=>k_is)
  (case c27=>k_is)
  (case k27=>k_is)
  (case a28=>k_is)
  (case l28=>k_is)
  (case c28=>k_is)
  (case k28=>k_is)
  (case a29=>k_is)
  (case l29=>k_is)
  (case c29=>k_is)
  (case k29=>k_is)
  (case a30=>k_is)
  (case l30=>k_is)
  (case c30=>k_is)
  (case k30=>k_is)
  (case a31=>k_is)
  (case l31=>k_is)
  (case c31=>k_is)
  (case k31=>k_is)
  (case a32=>k_is)
  (case l32=>k_is)
  (case c32=>k_is)
  (case k32=>k_is)
  (case a33=>k_is)
  (case l33=>k_is)
  (case c33=>k_is)
  (case k33=>k_is)
  (case a34=>k_is)
  (case l34=>k_is)
  (case c34=>k_is)
  (case k34=>k_is)
  (case a35=>k_is)
  (case l35=>k_is)
  (case c35=>k_is)
  (case k35=>k_is)
  (case a36=>k_is)
  (case l36=>k_is)
  (case c36=>k_is)
  (case k36=>k_is)
  (case a37=>k_is)
  (case l37=>k_is)
  (case c37=>k_is)
  (case k37=>k_is)
  (case a38=>k_is)
  (case l38=>k_is)
  (case c38=>k_is)
  (case k38=>k_is)
  (case a39=>k_is)
  (case l39=>k_is)
  (case c39=>k_is)
  (case k39=>k_is)
  (case a40=>k_is)
  (case l40=>k_is)
  (case c40=>k_is)
  (case k40=>k_is)
  (case a41=>k_is)
  (case l41=>k_is)
  (case c41=>k_is)
  (case k41=>k_is)
  (case a42=>k_is)
  (case l42=>k_is)
  (case tl42=>k_is)
  (case tp42=>exact rfl)
  (case hd42=>kernel_rfl)
  (case nk42=>kernel_rfl)
  (case mt42=>first|k_mem|decide)
  (case c42=>k_is)
  (case k42=>k_is)
  (case a43=>k_is)
  (case l43=>k_is)
  (case c43=>k_is)
  (case k43=>k_is)
  (case a44=>k_is)
  (case l44=>k_is)
  (case c44=>k_is)
  (case k44=>k_is)
  (case a45=>k_is)
  (case l45=>k_is)
  (case c45=>k_is)
  (case k45=>k_is)
  (case a46=>k_is)
  (case l46=>k_is)
  (case c46=>k_is)
  (case k46=>k_is)
  (case a47=>k_is)
  (case l47=>k_is)
  (case c47=>k_is)
  (case k47=>k_is)
  (case a48=>k_is)
  (case l48=>k_is)
  (case c48=>k_is)
  (case k48=>k_is)
  (case a49=>k_is)
  (case l49=>k_is)
  (case c49=>k_is)
  (case k49=>k_is)
  (case a50=>k_is)
  (case l50=>k_is)
  (case c50=>k_is)
  (case k50=>k_is)
  (case a51=>k_is)
  (case l51=>k_is)
  (case c51=>k_is)
  (case k51=>k_is)
  (case a52=>k_is)
  (case l52=>k_is)
  (case c52=>k_is)
  (case k52=>k_is)
  (case a53=>k_is)
  (case l53=>k_is)
  (case c53=>k_is)
  (case k53=>k_is)
  (case a54=>k_is)
  (case l54=>k_is)
  (case c54=>k_is)
  (case k54=>k_is)
  (case a55=>k_is)
  (case l55=>k_is)
  (case c55=>k_is)
  (case k55=>k_is)
  (case a56=>k_is)
  (case l56=>k_is)
  (case c56=>k_is)
  (case k56=>k_is)
  (case a57=>k_is)
  (case l57=>k_is)
  (case c57=>k_is)
  (case k57=>k_is)
  (case z_len=>k_is)
  (case z_list=>k_is)
  (case z_isi=>k_is)
  (case z_bool=>k_is)
  (case z_int=>k_is)
  (case z_str=>k_is)
  (case z_tuple=>k_is)
  (case z_all=>k_is)
  (case z_any=>k_is)
  (case z_zip=>k_is)
  (case z_range=>k_is)
  (case z_max=>k_is)
  (case z_min=>k_is)
  (case z_enumerate=>k_is)
  (case z_sum=>k_is)
  (case z_sorted=>k_is)
  (case z_verr=>k_is)
  (case g_FIRST_DAY=>k_is)
  (case g_LAST_DAY=>k_is)
  (case g_MOST_TERM=>k_is)
  (case g_MOST_ROWS=>k_is)
  (case g_MOST_COUNT=>k_is)
  (case g_MOST_DUTY=>k_is)
  (case g_0=>k_is)
  (case g_1=>k_is)
  (case g_2=>k_is)
  (case g_3=>k_is)
  (case g_4=>k_is)
  (case g_5=>k_is)
  (case g_6=>k_is)
  (case g_7=>k_is)
  (case g_8=>k_is)
  (case x_1=>first|k_is|k_exc)
  (case x_2=>first|k_is|k_exc)
  (case x_3=>first|k_is|k_exc)
  (case x_4=>first|k_is|k_exc)
  (case x_5=>first|k_is|k_exc)
  (case x_6=>first|k_is|k_exc)
  (case x_7=>first|k_is|k_exc)
  (case x_8=>first|k_is|k_exc)
  (case ga_5=>k_is)
  (case gt_5=>k_is)
  (case cl_5=>k_is)
  (case mo_5=>k_is)
  (case sb_5=>k_is)
  (case mC_5=>k_is)
  (case q_5_5=>k_is)
  (case q_5_1=>k_is)
  (case q_5_3=>k_is)
  (case q_5_4=>k_is)
  (case q_5_2=>k_is)
  (case q_5_6=>k_is)
  (case q_5_7=>k_is)
  (case q_5_8=>k_is)
  (case v_5=>k_is)
  (case t_5=>k_is)
  (case ga_1=>k_is)
  (case gt_1=>k_is)
  (case cl_1=>k_is)
  (case mo_1=>k_is)
  (case sb_1=>k_is)
  (case mC_1=>k_is)
  (case q_1_5=>k_is)
  (case q_1_1=>k_is)
  (case q_1_3=>k_is)
  (case q_1_4=>k_is)
  (case q_1_2=>k_is)
  (case q_1_6=>k_is)
  (case q_1_7=>k_is)
  (case q_1_8=>k_is)
  (case v_1=>k_is)
  (case t_1=>k_is)
  (case ga_3=>k_is)
  (case gt_3=>k_is)
  (case cl_3=>k_is)
  (case mo_3=>k_is)
  (case sb_3=>k_is)
  (case mC_3=>k_is)
  (case q_3_5=>k_is)
  (case q_3_1=>k_is)
  (case q_3_3=>k_is)
  (case q_3_4=>k_is)
  (case q_3_2=>k_is)
  (case q_3_6=>k_is)
  (case q_3_7=>k_is)
  (case q_3_8=>k_is)
  (case v_3=>k_is)
  (case t_3=>k_is)
  (case ga_4=>k_is)
  (case gt_4=>k_is)
  (case cl_4=>k_is)
  (case mo_4=>k_is)
  (case sb_4=>k_is)
  (case mC_4=>k_is)
  (case q_4_5=>k_is)
  (case q_4_1=>k_is)
  (case q_4_3=>k_is)
  (case q_4_4=>k_is)
  (case q_4_2=>k_is)
  (case q_4_6=>k_is)
  (case q_4_7=>k_is)
  (case q_4_8=>k_is)
  (case v_4=>k_is)
  (case t_4=>k_is)
  (case ga_2=>k_is)
  (case gt_2=>k_is)
  (case cl_2=>k_is)
  (case mo_2=>k_is)
  (case sb_2=>k_is)
  (case mC_2=>k_is)
  (case q_2_5=>k_is)
  (case q_2_1=>k_is)
  (case q_2_3=>k_is)
  (case q_2_4=>k_is)
  (case q_2_2=>k_is)
  (case q_2_6=>k_is)
  (case q_2_7=>k_is)
  (case q_2_8=>k_is)
  (case v_2=>k_is)
  (case t_2=>k_is)
  (case ga_6=>k_is)
  (case gt_6=>k_is)
  (case cl_6=>k_is)
  (case mo_6=>k_is)
  (case sb_6=>k_is)
  (case mC_6=>k_is)
  (case q_6_5=>k_is)
  (case q_6_1=>k_is)
  (case q_6_3=>k_is)
  (case q_6_4=>k_is)
  (case q_6_2=>k_is)
  (case q_6_6=>k_is)
  (case q_6_7=>k_is)
  (case q_6_8=>k_is)
  (case v_6=>k_is)
  (case t_6=>k_is)
  (case ga_7=>k_is)
  (case gt_7=>k_is)
  (case cl_7=>k_is)
  (case mo_7=>k_is)
  (case sb_7=>k_is)
  (case mC_7=>k_is)
  (case q_7_5=>k_is)
  (case q_7_1=>k_is)
  (case q_7_3=>k_is)
  (case q_7_4=>k_is)
  (case q_7_2=>k_is)
  (case q_7_6=>k_is)
  (case q_7_7=>k_is)
  (case q_7_8=>k_is)
  (case v_7=>k_is)
  (case t_7=>k_is)
  (case ga_8=>k_is)
  (case gt_8=>k_is)
  (case cl_8=>k_is)
  (case mo_8=>k_is)
  (case sb_8=>k_is)
  (case mC_8=>k_is)
  (case q_8_5=>k_is)
  (case q_8_1=>k_is)
  (case q_8_3=>k_is)
  (case q_8_4=>k_is)
  (case q_8_2=>k_is)
  (case q_8_6=>k_is)
  (case q_8_7=>k_is)
  (case q_8_8=>k_is)
  (case v_8=>k_is)
  (case t_8=>k_is)
  (case t_0=>k_is)
  (case sb_0=>k_is)
  (case gg=>k_is)
  (case tk=>k_is)
