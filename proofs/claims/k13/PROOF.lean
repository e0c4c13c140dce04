import PyProof.Rows.All
import Wide.All
import OpenK.AllK
import Wide.FinOn
import Lean
import PyProof.EqAt
import PyProof.EqKinds
import PyProof.TupleCall
import PySem.Challenge.RW_drawback_k13_whole_all_that_is_taken_goe
set_option Elab.async false
set_option linter.all false
set_option maxRecDepth 100000
open PySem PySem.Spec PyProof.Rows in
abbrev zwb0:=@wpAny_bind
open PySem PySem.Spec PyProof.Rows in
abbrev zwp0:=@wpAny_pure
namespace L2
open PySem PySem.Spec PyProof.Rows
theorem zfm0 {α:Type}{p:α→Prop}{a:α}{l:List α}:(p a∧∀x∈l,p x)→∀x∈a::l,p x:=List.forall_mem_cons.mpr
abbrev Key:=Sum Int Str
def ypy:Key→Value→Bool
 |.inl k,v=>Value.isInt k v
 |.inr x,v=>Value.isStrOf x v
def zbe (w:World):Key→Int
 |.inl k=>hashInt k
 |.inr x=>hashStr w x
theorem ybk:∀{k:Key}{v:Value},ypy k v=true→(∃i t,k=Sum.inl i∧v=Value.int i t)∨(∃x t,k=Sum.inr x∧v=Value.str x t)
 |.inl i,v,h=>by
  obtain ⟨t,e⟩:=Value.isInt_shape (k:=i) (v:=v) h
  exact .inl ⟨i,t,rfl,e⟩
 |.inr x,v,h=>by
  obtain ⟨t,e⟩:=Value.isStrOf_shape (x:=x) (v:=v) h
  exact .inr ⟨x,t,rfl,e⟩
theorem yq6 (i:Int)(t:Tok):ypy (.inl i) (.int i t)=true:=by simp [ypy,Value.isInt]
theorem yq7 (x:Str)(t:Tok):ypy (.inr x) (.str x t)=true:=by simp [ypy,Value.isStrOf]
theorem yyo (a b:Int):decide ((Sum.inl a:Key)=Sum.inl b)=(a == b):=by
 by_cases e:a=b
 ·subst e;simp
 ·have h:¬ (Sum.inl a:Key)=Sum.inl b:=fun q=>e (Sum.inl.inj q)
  rw[decide_eq_false h]
  exact(beq_eq_false_iff_ne.mpr e).symm
theorem yyp (a b:Str):decide ((Sum.inr a:Key)=Sum.inr b)=decide (a=b):=by
 by_cases e:a=b
 ·subst e;simp
 ·have h:¬ (Sum.inr a:Key)=Sum.inr b:=fun q=>e (Sum.inr.inj q)
  rw[decide_eq_false h,decide_eq_false e]
theorem yyq (a:Int)(b:Str):decide ((Sum.inl a:Key)=Sum.inr b)=false:=decide_eq_false (fun q=>nomatch q)
theorem yyr (a:Str)(b:Int):decide ((Sum.inr a:Key)=Sum.inl b)=false:=decide_eq_false (fun q=>nomatch q)
def ybq (prog:Program)(w:World):PySem.KeyKind prog w Key where
 is:=ypy
 hash:=zbe w
 inj:=fun v a b ha hb=>by
  rcases ybk ha with ⟨i,t,rfl,rfl⟩ | ⟨x,t,rfl,rfl⟩
  ·rcases ybk hb with ⟨j,u,rfl,e⟩ | ⟨y,u,rfl,e⟩
   ·injection e with e1 _;rw[e1]
   ·exact nomatch e
  ·rcases ybk hb with ⟨j,u,rfl,e⟩ | ⟨y,u,rfl,e⟩
   ·exact nomatch e
   ·injection e with e1 _;rw[e1]
 byValue:=fun k v h=>by
  rcases ybk h with ⟨i,t,rfl,rfl⟩ | ⟨x,t,rfl,rfl⟩ <;> rfl
 pyHash:=fun hv h=>by
  rcases ybk hv with ⟨i,t,rfl,rfl⟩ | ⟨x,t,rfl,rfl⟩
  ·exact wpAny_pyHash_int h
  ·exact wpAny_pyHash_str h
 eqBool:=fun hu hv h=>by
  rcases ybk hu with ⟨i,t,rfl,rfl⟩ | ⟨x,t,rfl,rfl⟩
  ·rcases ybk hv with ⟨j,u,rfl,rfl⟩ | ⟨y,u,rfl,rfl⟩
   ·rw[yyo] at h;exact wpAny_eqBool_int h
   ·rw[yyq] at h;exact SeqAt.EqAt.int_str i t y u _ _ _ _ h
  ·rcases ybk hv with ⟨j,u,rfl,rfl⟩ | ⟨y,u,rfl,rfl⟩
   ·rw[yyr] at h;exact SeqAt.EqAt.str_int x t j u _ _ _ _ h
   ·rw[yyp] at h;exact wpAny_eqBool_str h
 «strs»:=fun k x t v h=>by
  rcases ybk h with ⟨i,u,rfl,e⟩ | ⟨y,u,rfl,e⟩
  ·exact nomatch e
  ·injection e with e1 _
   subst e1
   cases v <;> rfl
theorem ynh (prog:Program)(w:World)(i:Int)(t:Tok):(ybq prog w).is (.inl i) (.int i t)=true:=yq6 i t
theorem yni (prog:Program)(w:World)(x:Str)(t:Tok):(ybq prog w).is (.inr x) (.str x t)=true:=yq7 x t
inductive V where
 |non|bl (b:Bool)|int (i:Int)|str (x:Str)|byt (b:Array UInt8)|flt (b:UInt64)|ref (a:Addr)|ty (n:String)
 deriving DecidableEq
def RelV:V→Value→Prop
 |.non,u=>u=Value.none
 |.bl b,u=>u=Value.bool b
 |.int i,u=>∃t,u=Value.int i t
 |.str x,u=>∃t,u=Value.str x t
 |.byt b,u=>∃t,u=Value.bytes b t
 |.flt b,u=>∃t,u=Value.float b t
 |.ref a,u=>u=Value.ref a
 |.ty n,u=>u=Value.type n
abbrev Vals:List V→List Value→Prop:=Paired RelV
theorem Vals.length {xs:List V}{us:List Value}(r:Vals xs us):xs.length=us.length:=Paired.length r
theorem Vals.get:∀{xs:List V}{us:List Value}{i:Nat}{x:V},Vals xs us→xs[i]? = some x→∃u,us[i]? = some u∧RelV x u
 |_,_,_,_,.nil,e=>by simp at e
 |_,_,0,_,.cons r _,e=>by simp at e;subst e;exact⟨_,rfl,r⟩
 |_,_,i+1,x,.cons _ t,e=>by
  obtain ⟨u,h1,h2⟩:=Vals.get (i:=i) (x:=x) t (by simpa using e)
  exact⟨u,by simpa using h1,h2⟩
theorem Vals.set {x:V}{u:Value}(r:RelV x u):∀{xs:List V}{us:List Value} (i:Nat),Vals xs us→Vals (xs.set i x) (us.set i u)
 |_,_,_,.nil=>.nil
 |_,_,0,.cons _ t=>.cons r t
 |_,_,i+1,.cons q t=>.cons q (Vals.set r i t)
theorem Vals.append:∀{xs ys:List V}{us ws:List Value},Vals xs us→Vals ys ws→Vals (xs++ys) (us++ws)
 |_,_,_,_,.nil,s=>s
 |_,_,_,_,.cons r t,s=>.cons r (Vals.append t s)
theorem Vals.take:∀{xs:List V}{us:List Value} (n:Nat),Vals xs us→Vals (xs.take n) (us.take n)
 |_,_,0,_=>.nil
 |_,_,_+1,.nil=>.nil
 |_,_,n+1,.cons r t=>.cons r (Vals.take n t)
theorem Vals.drop:∀{xs:List V}{us:List Value} (n:Nat),Vals xs us→Vals (xs.drop n) (us.drop n)
 |_,_,0,r=>r
 |_,_,_+1,.nil=>.nil
 |_,_,n+1,.cons _ t=>Vals.drop n t
def RelO:Option V→Option Value→Prop
 |some v,some u=>RelV v u
 |none,none=>True
 |_,_=>False
def KV {κ:Type}:List (κ×V)→List (κ×Value)→Prop:=Paired fun (p:κ×V) (q:κ×Value)=>p.1=q.1∧RelV p.2 q.2
def kV:Key→V
 |.inl i=>.int i
 |.inr x=>.str x
inductive HO where
 |lst (xs:List V)
 |tup (xs:List V)
 |dK (kvs:List (Key×V))|dT (kvs:List (List Key×V))
 |set (S:Int→Bool) (n:Nat)
 |ins (C dx:Addr) (fs:List (Str×V))
 |own (x:Addr)
 |xd (fs:List (Str×V))
 |met (f x:Addr)
 |rng (lo hi:Int)
 |frz (o:Obj) (u:HO)
 |tbl (ps:Array Value)
 |ext (φ:Heap→Prop)
 |cod (q:Str) (pos:Pos)
abbrev Hp:=Addr→Option HO
def upd (H:Hp)(a:Addr)(o:HO):Hp:=fun b=>if b=a then some o else H b
theorem yab {H:Hp}{a:Addr}{o:HO}:upd H a o a=some o:=by unfold upd;rw[if_pos rfl]
theorem yak {H:Hp}{a b:Addr}{o:HO}(h:b≠a):upd H a o b=H b:=by unfold upd;rw[if_neg h]
theorem yj7 {H:Hp}{a:Addr}{o u:HO}:upd (upd H a o) a u=upd H a u:=by
 funext b;unfold upd;split <;> rfl
theorem yi5 {H:Hp}{a b:Addr}{o u:HO}(h:H a=some o)(h':H b=some u)(d:o≠u):a≠b:=by
 intro e;subst e;rw[h] at h';exact d (Option.some.inj h')
theorem yam {H:Hp}{a b:Addr}{o:HO}(h:H a=some o)(h':H b=none):a≠b:=by
 intro e;subst e;rw[h] at h';cases h'
section
variable (P:Program)(w:World)
def ObjOk (H:Hp)(h:Heap)(a:Addr):HO→Prop
 |.lst xs=>xs.length≤sizeLine∧∃(its:List Value) (n:Nat),Vals xs its∧h.get? a=some { cls:=.type "list",data:=.seq its.toArray n }
 |.tup xs=>xs.length≤sizeLine∧∃its:List Value,Vals xs its∧IsTup h a its.toArray
 |.dK kvs=>kvs.length≤sizeLine∧(a == sysModules)=false∧∃vs,KV kvs vs∧h.DictOf (ybq P w) a vs
 |.dT kvs=>kvs.length≤sizeLine∧(a == sysModules)=false∧∃xs:List (List Key×Addr×Value),
  Paired (fun (p:List Key×V) (q:List Key×Addr×Value)=>p.1=q.1∧H q.2.1=some (.tup (p.1.map kV))∧RelV p.2 q.2.2) kvs xs∧
  ∃o es ep,h.get? a=some o∧o.ExactDict∧o.data = .dict es ep∧es.toList=xs.map (entryOfKey (tupleKind (ybq P w)))∧(xs.map (·.1)).Nodup
 |.set S n=>h.SetOf (intKind P w) a S n
 |.ins C dx fs=>H dx=some (.own a)∧fs.length≤1000∧dx≠a∧h.get? a=some (PySem.W.instObj C dx)∧
  ∃mA,h.Ns1 dx mA∧(∀f,RelO (fs.lookup f) (mA f))∧PySem.Within mA (fs.map (·.1))
 |.own _=>∃o,h.get? a=some o
 |.xd fs=>∃mA,h.Ns1 a mA∧∀f,RelO (fs.lookup f) (mA f)
 |.rng lo hi=>∃t u v,h.get? a=some { cls:=.type "range",data:=.fields #[.int lo t,.int hi u,.int 1 v] }
 |.frz o u=>h.get? a=some o∧ObjOk H h a u
 |.tbl ps=>h.get? a=some { cls:=.none,data:=.fields ps }
 |.met f x=>h.get? a=some (PySem.W.methodObj (.ref f) (.ref x))
 |.ext φ=>φ h∧(∃o,h.get? a=some o)∧∀h1 h2:Heap,φ h1→(∀o,h1.get? a=some o→h2.get? a=some o)→φ h2
 |.cod q pos=>h.get? a=some { cls:=.none,data:=.fields #[] }∨∃c,h.get? a=some { cls:=.none,data:=.fields #[rawInt pos.line,rawInt pos.col,.ref c] }∧H c=some (.own a)∧h.CodeRec (.ref c) q
def HOk (H:Hp)(h:Heap):Prop:=∀a o,H a=some o→ObjOk P w H h a o
end
section
variable {P:Program}{w:World}{H H':Hp}{h h':Heap}{a:Addr}{o:HO}
theorem ObjOk.lt (x:ObjOk P w H h a o):a<h.objs.size:=by
 cases o with
 |lst xs=>obtain ⟨_,_,_,_,e⟩:=x;exact Heap.lt_size e
 |tup xs=>obtain ⟨_,_,_,p⟩:=x;exact p.lt
 |dK kvs=>obtain ⟨_,_,_,_,o,_,_,e,_⟩:=x;exact Heap.lt_size e
 |dT kvs=>obtain ⟨_,_,_,_,o,_,_,e,_⟩:=x;exact Heap.lt_size e
 |set S n=>obtain ⟨o,_,_,_,e,_⟩:=x;exact Heap.lt_size e
 |ins C dx fs=>obtain ⟨_,_,_,e,_⟩:=x;exact Heap.lt_size e
 |own y=>obtain ⟨_,e⟩:=x;exact Heap.lt_size e
 |xd fs=>obtain ⟨_,⟨_,_,_,e,_⟩,_⟩:=x;exact Heap.lt_size e
 |rng lo hi=>obtain ⟨_,_,_,e⟩:=x;exact Heap.lt_size e
 |frz ob u=>obtain ⟨e,_⟩:=x;exact Heap.lt_size e
 |tbl ps=>exact Heap.lt_size (show h.get? a=some _ from x)
 |met f y=>exact Heap.lt_size (show h.get? a=some _ from x)
 |ext φ=>obtain ⟨_,⟨_,e⟩,_⟩:=x;exact Heap.lt_size e
 |cod q pos=>rcases x with e|⟨_,e,_⟩ <;> exact Heap.lt_size e
theorem Paired.mapP {α β:Type}{F G:α→β→Prop}:∀{l₁:List α}{l₂:List β},Paired F l₁ l₂→(∀a b,F a b→G a b)→Paired G l₁ l₂
 |_,_,.nil,_=>.nil
 |_,_,.cons r t,f=>.cons (f _ _ r) (Paired.mapP t f)
theorem ObjOk.stay (x:ObjOk P w H h a o)(k:∀b u,(b=a∨H b=some (.own a))→h.get? b=some u→h'.get? b=some u)
 (ho:∀b,H b=some (.own a)→H' b=some (.own a)) (ht:∀b xs,H b=some (.tup xs)→H' b=some (.tup xs)):ObjOk P w H' h' a o:=by
 induction o with
 |lst xs=>obtain ⟨z,its,n,r,e⟩:=x;exact⟨z,its,n,r,k _ _ (.inl rfl) e⟩
 |tup xs=>obtain ⟨z,its,r,ob,e,c⟩:=x;exact⟨z,its,r,ob,k _ _ (.inl rfl) e,c⟩
 |dK kvs=>obtain ⟨z,y,vs,r,ob,es,ep,e,c⟩:=x;exact⟨z,y,vs,r,ob,es,ep,k _ _ (.inl rfl) e,c⟩
 |dT kvs=>
  obtain ⟨z,y,xs,r,ob,es,ep,e,c⟩:=x
  exact⟨z,y,xs,Paired.mapP r fun p q z=>⟨z.1,ht _ _ z.2.1,z.2.2⟩,ob,es,ep,k _ _ (.inl rfl) e,c⟩
 |set S n=>obtain ⟨ob,es,ep,t,e,c⟩:=x;exact⟨ob,es,ep,t,k _ _ (.inl rfl) e,c⟩
 |ins C dx fs=>
  obtain ⟨d,z,ne,e,mA,⟨od,es,ep,e2,c⟩,r⟩:=x
  exact⟨ho _ d,z,ne,k _ _ (.inl rfl) e,mA,⟨od,es,ep,k _ _ (.inr d) e2,c⟩,r⟩
 |own y=>obtain ⟨ob,e⟩:=x;exact⟨ob,k _ _ (.inl rfl) e⟩
 |xd fs=>obtain ⟨mA,⟨od,es,ep,e,c⟩,r⟩:=x;exact⟨mA,⟨od,es,ep,k _ _ (.inl rfl) e,c⟩,r⟩
 |rng lo hi=>obtain ⟨t,u,v,e⟩:=x;exact⟨t,u,v,k _ _ (.inl rfl) e⟩
 |frz ob u ih=>obtain ⟨e,q⟩:=x;exact⟨k _ _ (.inl rfl) e,ih q⟩
 |tbl ps=>
  have e:h.get? a=some { cls:=.none,data:=.fields ps }:=x
  show h'.get? a=some { cls:=.none,data:=.fields ps }
  exact k a _ (.inl rfl) e
 |met f y=>
  have e:h.get? a=some (PySem.W.methodObj (.ref f) (.ref y)):=x
  show h'.get? a=some (PySem.W.methodObj (.ref f) (.ref y))
  exact k a _ (.inl rfl) e
 |ext φ=>obtain ⟨p,⟨o,e⟩,st⟩:=x;exact⟨st _ _ p fun o q=>k _ _ (.inl rfl) q,⟨o,k _ _ (.inl rfl) e⟩,st⟩
 |cod q pos=>
  rcases x with e|⟨c,e,hw,c2,oc,vs,t,e1,e2,r⟩
  ·exact .inl (k _ _ (.inl rfl) e)
  ·cases e1
   exact .inr ⟨c,k _ _ (.inl rfl) e,ho _ hw,c,oc,vs,t,rfl,k _ _ (.inr hw) e2,r⟩
theorem HOk.lt (x:HOk P w H h)(e:H a=some o):a<h.objs.size:=(x a o e).lt
theorem HOk.fresh (x:HOk P w H h)(e:h.objs.size≤a):H a=none:=by
 cases q:H a with
 |none=>rfl
 |some u=>exact absurd (Nat.lt_of_lt_of_le (x.lt q) e) (Nat.lt_irrefl _)
theorem HOk.kept (x:HOk P w H h)(k:∀b u,h.get? b=some u→h'.get? b=some u):HOk P w H h':=fun a o e=>
 (x a o e).stay (fun b u _ q=>k b u q) (fun _ q=>q) fun _ _ q=>q
theorem HOk.laid (x:HOk P w H h)(k:∀b u,h.get? b=some u→h'.get? b=some u)(hp:h.objs.size≤a)(new:ObjOk P w (upd H a o) h' a o):HOk P w (upd H a o) h':=fun b u e=>by
 have hn:=x.fresh hp
 by_cases hb:b=a
 ·subst hb;rw[yab] at e;cases e;exact new
 ·rw[yak hb] at e
  exact(x b u e).stay (fun c v _ q=>k c v q) (fun c q=>by rw[yak (yam q hn)];exact q) fun c xs q=>by rw[yak (yam q hn)];exact q
end
def Rd (H:Hp)(a:Addr)(u:HO):Prop:=H a=some u∨∃o,H a=some (.frz o u)
theorem Rd.ok {P:Program}{w:World}{H:Hp}{h:Heap}{a:Addr}{u:HO}(r:Rd H a u)(x:HOk P w H h):ObjOk P w H h a u:=by
 rcases r with r|⟨o,r⟩
 ·exact x a u r
 ·obtain ⟨_,q⟩:=x a _ r
  exact q
def Mut:Option HO→Prop
 |some (.lst _)=>True
 |some (.dK _)=>True
 |some (.dT _)=>True
 |some (.set _ _)=>True
 |some (.ins _ _ _)=>True
 |some (.ext _)=>True
 |_=>False
section
variable {P:Program}{w:World}{H:Hp}{h h':Heap}{x e:Addr}{o':HO}
theorem HOk.write (ok:HOk P w H h)(mu:Mut (H x))(he:e=x∨H e=some (.own x))(k:∀b u,b≠e→h.get? b=some u→h'.get? b=some u)(heo:∃u,h'.get? e=some u)
 (new:ObjOk P w (upd H x o') h' x o'):HOk P w (upd H x o') h':=fun b u q=>by
 have nown:∀c y,H c=some (.own y)→c≠x:=fun c y r z=>by subst z;rw[r] at mu;exact mu
 have ntup:∀c xs,H c=some (.tup xs)→c≠x:=fun c xs r z=>by subst z;rw[r] at mu;exact mu
 by_cases hb:b=x
 ·subst hb;rw[yab] at q;cases q;exact new
 ·rw[yak hb] at q
  by_cases hbe:b=e
  ·have q':H b=some (.own x):=by
    rcases he with z|z
    ·exact absurd (hbe.trans z) hb
    ·rw[hbe];exact z
   rw[q] at q';cases q'
   obtain ⟨v,hv⟩:=heo
   exact⟨v,by rw[hbe];exact hv⟩
  ·refine(ok b u q).stay (fun c v hc r=>k c v ?_ r) (fun c r=>by rw[yak (nown c b r)];exact r) fun c xs r=>by rw[yak (ntup c xs r)];exact r
   rcases hc with rfl|hc
   ·exact hbe
   ·rintro rfl
    rcases he with z|z
    ·exact nown c b hc z
    ·rw[hc] at z;cases z;exact hb rfl
end
structure Un (fs ex:List Addr) (H H':Hp) (h h':Heap):Prop where
 keep:∀b o,h.get? b=some o→H b=none→b ∉ fs→b ∉ ex→h'.get? b=some o
 slot:∀b o,h.get? b=some o→H b=none→b∈fs→b ∉ ex→∃sl,h'.get? b=some { o with slots:=sl }
 free:∀b o,h.get? b=some o→H b=none→b ∉ ex→H' b=none
 there:∀b o,h.get? b=some o→b ∉ ex→∃o',h'.get? b=some o'
 tups:∀b xs,H b=some (.tup xs)→H' b=some (.tup xs)
 frzs:∀b o u,H b=some (.frz o u)→H' b=some (.frz o u)
 tbls:∀b ps,H b=some (.tbl ps)→∃more,H' b=some (.tbl (ps++more))
section
variable {fs fs' ex ex':List Addr}{H H1 H2:Hp}{h h1 h2 h':Heap}{a x e:Addr}{o:HO}
theorem Un.any (u:Un fs ex H H1 h h1){b:Addr}{ob:Obj}(q:h.get? b=some ob)(n:H b=none)(hx:b ∉ ex):∃sl,h1.get? b=some { ob with slots:=sl }:=by
 by_cases hb:b∈fs
 ·exact u.slot b ob q n hb hx
 ·exact⟨ob.slots,u.keep b ob q n hb hx⟩
theorem Un.kept (k:∀b u,h.get? b=some u→h'.get? b=some u):Un fs ex H H h h':=
 ⟨fun b ob q _ _ _=>k b ob q,fun b ob q _ _ _=>⟨ob.slots,k b ob q⟩,fun _ _ _ n _=>n,fun b ob q _=>⟨ob,k b ob q⟩,fun _ _ q=>q,fun _ _ _ q=>q,fun _ ps q=>⟨#[],by rw[q];simp⟩⟩
theorem Un.refl:Un fs ex H H h h:=Un.kept fun _ _ q=>q
theorem Un.laid (k:∀b u,h.get? b=some u→h'.get? b=some u)(hp:h.objs.size≤a)(hn:H a=none):Un fs ex H (upd H a o) h h' where
 keep:=fun b u q _ _ _=>k b u q
 slot:=fun b u q _ _ _=>⟨u.slots,k b u q⟩
 free:=fun b u q n _=>by rw[yak (Nat.ne_of_lt (Nat.lt_of_lt_of_le (Heap.lt_size q) hp))];exact n
 there:=fun b u q _=>⟨u,k b u q⟩
 tups:=fun b xs q=>by rw[yak (yam q hn)];exact q
 frzs:=fun b u xs q=>by rw[yak (yam q hn)];exact q
 tbls:=fun b ps q=>⟨#[],by rw[yak (yam q hn),q];simp⟩
theorem Un.write (mu:Mut (H x))(he:e=x∨H e=some (.own x))(k:∀b u,b≠e→h.get? b=some u→h'.get? b=some u)(heo:∃u,h'.get? e=some u):Un fs ex H (upd H x o) h h':=by
 have hx:∀b,H b=none→b≠x:=fun b n z=>by subst z;rw[n] at mu;exact mu
 have hb:∀b,H b=none→b≠e:=fun b n z=>by
  subst z
  rcases he with r|r
  ·exact hx b n r
  ·rw[n] at r;cases r
 have hm:∀b u,H b=some u→¬ Mut (some u)→b≠x:=fun b u q nm z=>by subst z;rw[q] at mu;exact nm mu
 refine⟨fun b u q n _ _=>k b u (hb b n) q,fun b u q n _ _=>⟨u.slots,k b u (hb b n) q⟩,fun b u q n _=>by rw[yak (hx b n)];exact n,fun b u q _=>?_,
  fun b xs q=>by rw[yak (hm b _ q fun z=>z)];exact q,fun b u xs q=>by rw[yak (hm b _ q fun z=>z)];exact q,fun b ps q=>⟨#[],by rw[yak (hm b _ q fun z=>z),q];simp⟩⟩
 by_cases hbe:b=e
 ·subst hbe;exact heo
 ·exact⟨u,k b u hbe q⟩
end
def trk (h:Heap)(H:Hp):List Addr:=(List.range h.objs.size).filter fun a=>(H a).isSome
def yuf (h:Heap)(H:Hp):Heap:=PySem.W.hideAll h (trk h H)
theorem yq8 (h:Heap)(H:Hp):(yuf h H).objs.size=h.objs.size:=PySem.W.hideAll_size _ _
theorem yuh {h:Heap}{H:Hp}{b:Addr}{o:Obj}(e:h.get? b=some o)(n:H b=none):(yuf h H).get? b=some o:=
 PySem.W.hideAll_get _ e fun hm=>by
  have q:(H b).isSome=true:=(List.mem_filter.mp hm).2
  rw[n] at q;simp at q
theorem yw0 {h:Heap}{H:Hp}{b:Addr}{o:Obj}(e:(yuf h H).get? b=some o):h.get? b=some o∧H b=none:=by
 have e':h.get? b=some o:=PySem.W.of_hideAll (trk h H) e
 refine⟨e',?_⟩
 cases q:H b with
 |none=>rfl
 |some x=>
  have hm:b∈trk h H:=List.mem_filter.mpr ⟨List.mem_range.mpr (Heap.lt_size e'),by simp [q]⟩
  have z:(yuf h H).get? b=none:=PySem.W.hideAll_none (trk h H) hm
  rw[z] at e;cases e
def yw1 (g h:Heap)(L:Addr):List (Addr×Obj):=(List.range h.objs.size).filterMap fun a=>if a=L∨(g.get? a).isSome=true then none else (h.get? a).map fun o=>(a,o)
def rest (g h:Heap)(L d:Addr):List (Addr×Obj):=(yw1 g h L).filter fun p=>decide (p.1≠d)
structure Mod (K:PySem.W.Frag) (mg:Str→Option Value) (base:Heap):Prop where
 kin:K.In base
 glob:base.Ns mainGlobals mg
 blt:∃mb,base.Ns builtinsNs mb∧∀x:Str,x ≠ "__name__" → mb x=bootBuiltins x
 nolimit:base.NoLimit
structure Cx where
 prog:Program
 w:World
 K:PySem.W.Frag
 mg:Str→Option Value
 base:Heap
 A:Around
 N:List Str
 s₀:Shared
 H₀:Hp
 env:Env
 outer:List Env
 stack:List Env
 ex:List Addr
 fn:Str→Bool
 calm:Bool
 pn:List (Addr×Obj)
 xe:Value→Shared→Prop
def frs (l:List Env):List Addr:=l.filterMap (·.frame)
abbrev Cx.fs (X:Cx):List Addr:=frs X.outer
def Vis (sc:Scope)(x:Str):Prop:=sc.names.lookup x=some .local∨sc.names.lookup x=some .cell∨sc.names.lookup x=some .free
def Loc (sc:Scope)(x:Str):Prop:=sc.names.lookup x=some .local∨sc.names.lookup x=some .cell
def zbf (env:Env)(h:Heap)(m:Str→Option Value)(x:Str)(u:Value):Prop:=
 (env.kindOf x=some .local∧m x=some u)∨((env.kindOf x=some .cell∨env.kindOf x=some .free)∧∃c,env.cells.lookup x=some c∧h.IsCell c (some u))
structure Cx.Ok (X:Cx):Prop where
 mod:Mod X.K X.mg X.base
 kind:X.env.scope.kind = .function
 glob:X.env.globals=mainGlobals
 blt:X.env.builtins=builtinsNs
 above:X.s₀.heap.objs.size≤X.env.locals
 inj:∀x y c,X.env.cells.lookup x=some c→X.env.cells.lookup y=some c→x=y
 has:∀x,(X.env.kindOf x=some .cell∨X.env.kindOf x=some .free)→∃c,X.env.cells.lookup x=some c
 cab:∀x c,X.fn x=true→X.env.cells.lookup x=some c→X.s₀.heap.objs.size≤c
 hd:X.calm=true→X.A.handled=none
 frames:X.A.frames=some X.stack
 stk:X.stack=X.outer∨(X.stack=X.env::X.outer∧X.env.frame=some X.env.locals)
 exf:∀b∈X.ex,b≠X.env.locals∧∀x c,X.env.cells.lookup x=some c→c≠b
 bs:∀b o,X.base.get? b=some o→X.s₀.heap.get? b=some o∧X.H₀ b=none
 bsz:X.base.objs.size≤X.s₀.heap.objs.size
 noex:∀b o,X.base.get? b=some o→b ∉ X.ex
 exfs:∀b∈X.ex,b ∉ X.fs
 funs:X.s₀.heap.FunFrames X.base X.outer
 frf:∀b∈X.fs,X.H₀ b=none
structure Inv (X:Cx) (pins:List (Addr×Obj)) (σ:List (Option V)) (H:Hp) (s:Shared):Prop where
 ok:X.Ok
 os:s.os=X.s₀.os
 bare:AllBare s.gens
 base:Un X.fs X.ex X.H₀ H X.s₀.heap s.heap
 loc:∃m,s.heap.Ns X.env.locals m∧∀(i:Nat) (x:Str) (v:V),X.N[i]? = some x→σ[i]? = some (some v)→Vis X.env.scope x→∃u,RelV v u∧zbf X.env s.heap m x u
 cell:∀x c,X.env.cells.lookup x=some c→∃v,s.heap.IsCell c v
 free:H X.env.locals=none
 freeC:∀x c,X.env.cells.lookup x=some c→H c=none
 pin:∀p∈X.pn++pins,s.heap.get? p.1=some p.2∧H p.1=none∧p.1≠X.env.locals∧p.1 ∉ X.fs∧∀v,p.2.data≠.cell v
 hok:HOk X.prog X.w H s.heap
 len:σ.length=X.N.length
section
variable {X:Cx}{pins:List (Addr×Obj)}{σ:List (Option V)}{H H':Hp}{s:Shared}{h':Heap}
theorem Cx.Ok.nofr (ok:X.Ok){b:Addr}{o:Obj}(e:X.base.get? b=some o):b ∉ X.fs:=fun hb=>by
 have:=(ok.funs.mem hb).1
 rw[e] at this;cases this
theorem Inv.bs (I:Inv X pins σ H s):∀b o,X.base.get? b=some o→s.heap.get? b=some o∧H b=none:=fun b o e=>
 ⟨I.base.keep b o (I.ok.bs b o e).1 (I.ok.bs b o e).2 (I.ok.nofr e) (I.ok.noex b o e),I.base.free b o (I.ok.bs b o e).1 (I.ok.bs b o e).2 (I.ok.noex b o e)⟩
theorem Inv.bk (I:Inv X pins σ H s):∀b o,X.base.get? b=some o→s.heap.get? b=some o:=fun b o e=>(I.bs b o e).1
theorem Inv.mod (I:Inv X pins σ H s):Mod X.K X.mg X.base:=I.ok.mod
theorem Inv.kIn (I:Inv X pins σ H s):X.K.In s.heap:=I.ok.mod.kin.keeps I.bk
theorem Inv.nolimit (I:Inv X pins σ H s):s.heap.NoLimit:=I.ok.mod.nolimit.keeps I.bk
theorem Inv.lt (I:Inv X pins σ H s):X.env.locals<s.heap.objs.size:=let ⟨_,hn,_⟩:=I.loc;hn.lt
theorem Inv.sz (I:Inv X pins σ H s):X.s₀.heap.objs.size≤s.heap.objs.size:=Nat.le_trans I.ok.above (Nat.le_of_lt I.lt)
theorem Inv.nofs (I:Inv X pins σ H s){a:Addr}(h:s.heap.objs.size≤a):a ∉ X.fs:=fun hb=>by
 obtain ⟨_,o,ho,_⟩:=I.ok.funs.mem hb
 exact absurd (Nat.lt_of_lt_of_le (Heap.lt_size ho) (Nat.le_trans I.sz h)) (Nat.lt_irrefl _)
theorem Inv.cne (I:Inv X pins σ H s):∀x c,X.env.cells.lookup x=some c→c≠X.env.locals:=fun x c e z=>by
 obtain ⟨v,o,ho,hd⟩:=I.cell x c e
 obtain ⟨m,⟨o',es,ep,ho',hd',_⟩,_⟩:=I.loc
 rw[z,ho'] at ho;cases ho;rw[hd'] at hd;cases hd
theorem Inv.funs (I:Inv X pins σ H s):s.heap.FunFrames X.base X.outer:=by
 have all:∀(l:List Env),(∀b∈frs l,b∈X.fs)→X.s₀.heap.FunFrames X.base l→s.heap.FunFrames X.base l:=by
  intro l
  induction l with
  |nil=>intro _ _;trivial
  |cons env r ih=>
   intro hs hl
   obtain ⟨hk,⟨L,o,hf,hn,ho,hd⟩,hr⟩:=hl
   have hL:L∈X.fs:=hs L (by unfold frs;rw[List.filterMap_cons,hf];exact List.mem_cons_self)
   obtain ⟨sl,e⟩:=I.base.slot L o ho (I.ok.frf L hL) hL fun z=>I.ok.exfs L z hL
   exact⟨hk,⟨L,_,hf,hn,e,hd⟩,ih (fun b hb=>hs b (by unfold frs;rw[List.filterMap_cons,hf];exact List.mem_cons_of_mem _ hb)) hr⟩
 exact all X.outer (fun _ hb=>hb) I.ok.funs
theorem Inv.stack (I:Inv X pins σ H s):s.heap.FunFrames X.base X.stack:=by
 rcases I.ok.stk with e|⟨e,hf⟩
 ·rw[e];exact I.funs
 ·rw[e]
  obtain ⟨m,hn,_⟩:=I.loc
  refine .cons (by rw[I.ok.kind];decide) hf hn ?_ I.funs
  exact Heap.get?_none_of_le (Nat.le_trans I.ok.bsz I.ok.above)
theorem Inv.stkSub (I:Inv X pins σ H s):∀b∈frs X.stack,b∈X.env.locals::X.fs:=fun b hb=>by
 rcases I.ok.stk with e|⟨e,hf⟩
 ·rw[e] at hb;exact List.mem_cons_of_mem _ hb
 ·rw[e] at hb
  unfold frs at hb
  rw[List.filterMap_cons,hf] at hb
  exact hb
theorem Inv.stkFree (I:Inv X pins σ H s):∀b∈frs X.stack,H b=none:=fun b hb=>by
 rcases List.mem_cons.mp (I.stkSub b hb) with e|hb
 ·rw[e];exact I.free
 ·obtain ⟨_,o,ho,_⟩:=I.ok.funs.mem hb
  exact I.base.free b o ho (I.ok.frf b hb) fun z=>I.ok.exfs b z hb
theorem Inv.step {g':Array GenState}{t':Nat}{d':Drawn}{ch:List Addr}(I:Inv X pins σ H s)
 (hch:∀b∈ch,(b∈X.ex∨X.s₀.heap.objs.size≤b)∧b≠X.env.locals∧(∀x c,X.env.cells.lookup x=some c→c≠b)∧∀p∈X.pn++pins,p.1≠b)
 (keep:∀b o,b≠X.env.locals→b ∉ X.fs→b ∉ ch→s.heap.get? b=some o→H b=none→h'.get? b=some o)
 (slot:∀b o,b≠X.env.locals→b∈X.fs→b ∉ ch→s.heap.get? b=some o→H b=none→∃sl,h'.get? b=some { o with slots:=sl }) (free:∀b o,b ∉ ch→s.heap.get? b=some o→H b=none→H' b=none)
 (there:∀b o,b ∉ ch→s.heap.get? b=some o→∃o',h'.get? b=some o')
 (tups:∀b xs,H b=some (.tup xs)→H' b=some (.tup xs)) (frzs:∀b o u,H b=some (.frz o u)→H' b=some (.frz o u)) (tbls:∀b ps,H b=some (.tbl ps)→∃more,H' b=some (.tbl (ps++more)))
 (ns:∀m,s.heap.Ns X.env.locals m→h'.Ns X.env.locals m) (hok:HOk X.prog X.w H' h') (hg:AllBare g') :
 Inv X pins σ H' { s with heap:=h',gens:=g',drawn:=d',toks:=t' }:=by
 have neL:∀b o,X.s₀.heap.get? b=some o→b≠X.env.locals:=fun b o e=>Nat.ne_of_lt (Nat.lt_of_lt_of_le (Heap.lt_size e) I.ok.above)
 have neC:∀b o,X.s₀.heap.get? b=some o→b ∉ X.ex→b ∉ ch:=fun b o e hx hb=>by
  rcases (hch b hb).1 with z|z
  ·exact hx z
  ·exact absurd (Nat.lt_of_lt_of_le (Heap.lt_size e) z) (Nat.lt_irrefl _)
 have cellK:∀x c,X.env.cells.lookup x=some c→∀v,s.heap.IsCell c v→h'.IsCell c v:=fun x c e v ⟨o,ho,hd⟩=>by
  have nch:c ∉ ch:=fun z=>(hch c z).2.2.1 x c e rfl
  by_cases hc:c∈X.fs
  ·obtain ⟨sl,q⟩:=slot c o (I.cne x c e) hc nch ho (I.freeC x c e)
   exact⟨_,q,hd⟩
  ·exact⟨o,keep c o (I.cne x c e) hc nch ho (I.freeC x c e),hd⟩
 refine⟨I.ok,I.os,hg,⟨fun b o e n hb hx=>?_,fun b o e n hb hx=>?_,fun b o e n hx=>?_,fun b o e hx=>?_,fun b xs e=>tups b xs (I.base.tups b xs e),fun b o xs e=>frzs b o xs (I.base.frzs b o xs e),fun b ps e=>?_⟩,?_,fun x c e=>?_,?_,fun x c e=>?_,fun p hp=>?_,hok,I.len⟩
 ·exact keep b o (neL b o e) hb (neC b o e hx) (I.base.keep b o e n hb hx) (I.base.free b o e n hx)
 ·obtain ⟨sl,e1⟩:=I.base.slot b o e n hb hx
  obtain ⟨sl',e2⟩:=slot b _ (neL b o e) hb (neC b o e hx) e1 (I.base.free b o e n hx)
  exact⟨sl',e2⟩
 ·obtain ⟨o',e1⟩:=I.base.there b o e hx
  exact free b o' (neC b o e hx) e1 (I.base.free b o e n hx)
 ·obtain ⟨o',e1⟩:=I.base.there b o e hx
  exact there b o' (neC b o e hx) e1
 ·obtain ⟨m1,e1⟩:=I.base.tbls b ps e
  obtain ⟨m2,e2⟩:=tbls b _ e1
  exact⟨m1++m2,by rw[e2,Array.append_assoc]⟩
 ·obtain ⟨m,hn,hl⟩:=I.loc
  refine⟨m,ns m hn,fun i x v e1 e2 e3=>?_⟩
  obtain ⟨u,r,l⟩:=hl i x v e1 e2 e3
  refine⟨u,r,?_⟩
  rcases l with l|⟨k,c,e,z⟩
  ·exact .inl l
  ·exact .inr ⟨k,c,e,cellK x c e _ z⟩
 ·obtain ⟨v,z⟩:=I.cell x c e
  exact⟨v,cellK x c e v z⟩
 ·obtain ⟨m,⟨o,_,_,ho,_⟩,_⟩:=I.loc
  exact free _ o (fun z=>(hch _ z).2.1 rfl) ho I.free
 ·obtain ⟨v,o,ho,hd⟩:=I.cell x c e
  exact free c o (fun z=>(hch c z).2.2.1 x c e rfl) ho (I.freeC x c e)
 ·obtain ⟨e,n,ne,nf,d⟩:=I.pin p hp
  have nch:p.1 ∉ ch:=fun z=>(hch p.1 z).2.2.2 p hp rfl
  exact⟨keep p.1 p.2 ne nf nch e n,free p.1 p.2 nch e n,ne,nf,d⟩
theorem Inv.un {t':Nat}(I:Inv X pins σ H s)(u:Un X.fs [] H H' s.heap h')(hok:HOk X.prog X.w H' h'):Inv X pins σ H' { s with heap:=h',toks:=t' }:=by
 obtain ⟨m,⟨o,es,ep,ho,r⟩,_⟩:=id I.loc
 obtain ⟨sl,hL⟩:=u.any ho I.free (by simp)
 exact I.step (g':=s.gens) (d':=s.drawn) (ch:=[]) (fun _ z=>nomatch z) (fun b o _ hb _ e n=>u.keep b o e n hb (by simp)) (fun b o _ hb _ e n=>u.slot b o e n hb (by simp)) (fun b o _ e n=>u.free b o e n (by simp)) (fun b o _ e=>u.there b o e (by simp)) u.tups u.frzs u.tbls (fun m' hm=>by
  obtain ⟨o',es',ep',ho',r'⟩:=hm
  rw[ho] at ho';cases ho'
  exact⟨_,es',ep',hL,r'⟩) hok I.bare
theorem Inv.call {g':Array GenState}{t':Nat}{d':Drawn}{ch:List Addr}(I:Inv X pins σ H s)(u:Un (frs X.stack) ch H H' s.heap h')(hok:HOk X.prog X.w H' h')(hg:AllBare g')
 (hch:∀b∈ch,(b∈X.ex∨X.s₀.heap.objs.size≤b)∧b≠X.env.locals∧(∀x c,X.env.cells.lookup x=some c→c≠b)∧∀p∈X.pn++pins,p.1≠b) :
 Inv X pins σ H' { s with heap:=h',gens:=g',drawn:=d',toks:=t' }:=by
 obtain ⟨m,⟨o,es,ep,ho,r⟩,_⟩:=id I.loc
 obtain ⟨sl,hL⟩:=u.any ho I.free fun z=>(hch _ z).2.1 rfl
 exact I.step (ch:=ch) hch (fun b o hL hb hc e n=>u.keep b o e n (fun z=>(List.mem_cons.mp (I.stkSub b z)).elim hL hb) hc) (fun b o _ _ hc e n=>u.any e n hc) (fun b o hc e n=>u.free b o e n hc) (fun b o hc e=>u.there b o e hc) u.tups u.frzs u.tbls (fun m' hm=>by
  obtain ⟨o',es',ep',ho',r'⟩:=hm
  rw[ho] at ho';cases ho'
  exact⟨_,es',ep',hL,r'⟩) hok hg
theorem Inv.turned {t':Nat}{it:Addr}(I:Inv X pins σ H s)(k:∀b o,b≠it→s.heap.get? b=some o→h'.get? b=some o)(hn:H it=none)(hL:it≠X.env.locals)
 (h1:it∈X.ex∨X.s₀.heap.objs.size≤it) (h2:∀x c,X.env.cells.lookup x=some c→c≠it) (h3:∀p∈X.pn++pins,p.1≠it):Inv X pins σ H { s with heap:=h',toks:=t' }:=by
 have nit:∀b u,H b=some u→b≠it:=fun b u e z=>by rw[z,hn] at e;cases e
 refine I.step (g':=s.gens) (d':=s.drawn) (ch:=[it]) (fun b hb=>?_) (fun b o _ _ hc e _=>k b o (fun z=>hc (by simp [z])) e) (fun b o _ _ hc e _=>⟨o.slots,k b o (fun z=>hc (by simp [z])) e⟩) (fun _ _ _ _ n=>n)
  (fun b o hc e=>⟨o,k b o (fun z=>hc (by simp [z])) e⟩) (fun _ _ e=>e) (fun _ _ _ e=>e) (fun b ps e=>⟨#[],by rw[e];simp⟩) (fun m hm=>?_) (fun b u e=>?_) I.bare
 ·have e:b=it:=by simpa using hb
  subst e
  exact⟨h1,hL,h2,h3⟩
 ·obtain ⟨o,es,ep,ho,r⟩:=hm
  exact⟨o,es,ep,k _ o (Ne.symm hL) ho,r⟩
 ·refine(I.hok b u e).stay (fun c v hc q=>k c v ?_ q) (fun _ q=>q) fun _ _ q=>q
  rcases hc with z|z
  ·rw[z];exact nit b u e
  ·exact nit c _ z
theorem Inv.tok (I:Inv X pins σ H s)(t:Nat):Inv X pins σ H { s with toks:=t }:=I.un (h':=s.heap) (t':=t) Un.refl I.hok
theorem Inv.kept {t':Nat}(I:Inv X pins σ H s)(k:∀b u,s.heap.get? b=some u→h'.get? b=some u):Inv X pins σ H { s with heap:=h',toks:=t' }:=I.un (Un.kept k) (I.hok.kept k)
theorem Inv.laid {a:Addr}{o:HO}{t':Nat}(I:Inv X pins σ H s)(k:∀b u,s.heap.get? b=some u→h'.get? b=some u)(hp:s.heap.objs.size≤a)(new:ObjOk X.prog X.w (upd H a o) h' a o) :
 Inv X pins σ (upd H a o) { s with heap:=h',toks:=t' }:=I.un (Un.laid k hp (I.hok.fresh hp)) (I.hok.laid k hp new)
theorem Inv.write {x e:Addr}{o:HO}{t':Nat}(I:Inv X pins σ H s)(mu:Mut (H x))(he:e=x∨H e=some (.own x))(k:∀b u,b≠e→s.heap.get? b=some u→h'.get? b=some u)(heo:∃u,h'.get? e=some u)
 (new:ObjOk X.prog X.w (upd H x o) h' x o):Inv X pins σ (upd H x o) { s with heap:=h',toks:=t' }:=I.un (Un.write mu he k heo) (I.hok.write mu he k heo new)
theorem Inv.weak {σ':List (Option V)}(I:Inv X pins σ H s)(hl:σ'.length=σ.length)(w:∀(i:Nat) v,σ'[i]? = some (some v)→σ[i]? = some (some v)):Inv X pins σ' H s:=
 ⟨I.ok,I.os,I.bare,I.base,let ⟨m,hn,hl'⟩:=I.loc;⟨m,hn,fun i x v e1 e2 e3=>hl' i x v e1 (w i v e2) e3⟩,I.cell,I.free,I.freeC,I.pin,I.hok,hl.trans I.len⟩
theorem Inv.pins_of {pins':List (Addr×Obj)}(I:Inv X pins σ H s)(h:∀p∈pins',s.heap.get? p.1=some p.2∧H p.1=none∧p.1≠X.env.locals∧p.1 ∉ X.fs∧∀v,p.2.data≠.cell v):Inv X pins' σ H s:=
 ⟨I.ok,I.os,I.bare,I.base,I.loc,I.cell,I.free,I.freeC,fun p hp=>(List.mem_append.mp hp).elim (fun z=>I.pin p (List.mem_append_left _ z)) (h p),I.hok,I.len⟩
theorem yom {N:List Str}(hN:N.Nodup){i j:Nat}{x:Str}(a:N[i]? = some x)(b:N[j]? = some x):i=j:=by
 obtain ⟨h1,e1⟩:=List.getElem?_eq_some_iff.mp a
 obtain ⟨h2,e2⟩:=List.getElem?_eq_some_iff.mp b
 exact(List.getElem_inj hN).mp (e1.trans e2.symm)
theorem yll {M:Model}{A:Around}{E:Value→Shared→Prop}{i:Nat}{x:Str}{v:V}{u:Value}{Q:Unit→Shared→Prop}(I:Inv X pins σ H s)(hN:X.N.Nodup)(hi:X.N[i]? = some x)(hx:Loc X.env.scope x)(r:RelV v u)
 (h:∀s',Inv X pins (σ.set i (some v)) H s'→(∃a,Heap.SameBut a s.heap s'.heap∧(a=X.env.locals∨X.env.cells.lookup x=some a))→Q () s') (hf:X.fn x=true∨X.env.scope.names.lookup x=some .local:=by first|exact .inl rfl|exact .inr rfl|assumption):wpAny M A (storeName X.env x u) Q E s:=by
 obtain ⟨m,hn,hl⟩:=id I.loc
 have hcls:(X.env.scope.kind == .class || (X.env.scope.kind == .module&&X.env.locals != X.env.globals))=false:=by rw[I.ok.kind];rfl
 have hiσ:i<σ.length:=by rw[I.len];exact(List.getElem?_eq_some_iff.mp hi).1
 have cne:=I.cne
 have tracked:∀{a:Addr}{h':Heap},(∃o,s.heap.get? a=some o∧H a=none)→Heap.SameBut a s.heap h'→HOk X.prog X.w H h':=fun {a h'} ha hs b ob e=>by
  obtain ⟨_,_,hfree⟩:=ha
  refine(I.hok b ob e).stay (fun c w' hc q=>(hs.2 c ?_).trans q) (fun _ q=>q) fun _ _ q=>q
  rintro rfl
  rcases hc with rfl|hc
  ·rw[hfree] at e;cases e
  ·rw[hfree] at hc;cases hc
 rcases hx with hk|hk
 ·refine wpAny_storeName_local hk hn (fun h' hn' hs=>?_) hcls
  obtain ⟨oL,_,_,hoL,_⟩:=id hn
  refine h _ ⟨I.ok,I.os,I.bare,⟨fun b o e n hb hx=>?_,fun b o e n hb hx=>?_,I.base.free,fun b o e hx=>?_,I.base.tups,I.base.frzs,I.base.tbls⟩,⟨_,hn',fun j y v' e1 e2 e3=>?_⟩,fun y c e=>?_,I.free,I.freeC,fun p hp=>?_,tracked ⟨oL,hoL,I.free⟩ hs,by simpa using I.len⟩ ⟨_,hs,.inl rfl⟩
  ·exact(hs.2 b (Nat.ne_of_lt (Nat.lt_of_lt_of_le (Heap.lt_size e) I.ok.above))).trans (I.base.keep b o e n hb hx)
  ·obtain ⟨sl,e1⟩:=I.base.slot b o e n hb hx
   exact⟨sl,(hs.2 b (Nat.ne_of_lt (Nat.lt_of_lt_of_le (Heap.lt_size e) I.ok.above))).trans e1⟩
  ·obtain ⟨o',e1⟩:=I.base.there b o e hx
   exact⟨o',(hs.2 b (Nat.ne_of_lt (Nat.lt_of_lt_of_le (Heap.lt_size e) I.ok.above))).trans e1⟩
  ·by_cases hj:j=i
   ·subst hj
    rw[hi] at e1;cases e1
    rw[List.getElem?_set_self hiσ] at e2
    cases e2
    exact⟨u,r,.inl ⟨hk,by simp⟩⟩
   ·rw[List.getElem?_set_ne (Ne.symm hj)] at e2
    obtain ⟨u',r',q⟩:=hl j y v' e1 e2 e3
    refine⟨u',r',?_⟩
    rcases q with ⟨k,e⟩ | ⟨k,c,e,z⟩
    ·refine .inl ⟨k,?_⟩
     have:y≠x:=fun e=>hj (yom hN e1 (e ▸ hi))
     simp [this,e]
    ·exact .inr ⟨k,c,e,z.sameBut hs (cne y c e)⟩
  ·obtain ⟨w',z⟩:=I.cell y c e
   exact⟨w',z.sameBut hs (cne y c e)⟩
  ·obtain ⟨e,n,ne,nf,d⟩:=I.pin p hp
   exact⟨(hs.2 p.1 ne).trans e,n,ne,nf,d⟩
 ·have hfn:X.fn x=true:=by
   rcases hf with z|z
   ·exact z
   ·rw[z] at hk;cases hk
  obtain ⟨c,hc⟩:=I.ok.has x (.inl hk)
  obtain ⟨w',z⟩:=I.cell x c hc
  refine wpAny_storeName_cell I.ok.kind hk hc z (fun h' hc' hs=>?_)
  obtain ⟨oc,hoc,hocd⟩:=id z
  refine h { s with heap:=h' } ⟨I.ok,I.os,I.bare,⟨fun b o e n hb hx=>?_,fun b o e n hb hx=>?_,I.base.free,fun b o e hx=>?_,I.base.tups,I.base.frzs,I.base.tbls⟩,⟨m,hn.sameBut hs (Ne.symm (cne x c hc)),fun j y v' e1 e2 e3=>?_⟩,fun y c' e=>?_,I.free,I.freeC,fun p hp=>?_,tracked ⟨oc,hoc,I.freeC x c hc⟩ hs,by simpa using I.len⟩ ⟨c,hs,.inr hc⟩
  ·exact(hs.2 b (Nat.ne_of_lt (Nat.lt_of_lt_of_le (Heap.lt_size e) (I.ok.cab x c hfn hc)))).trans (I.base.keep b o e n hb hx)
  ·obtain ⟨sl,e1⟩:=I.base.slot b o e n hb hx
   exact⟨sl,(hs.2 b (Nat.ne_of_lt (Nat.lt_of_lt_of_le (Heap.lt_size e) (I.ok.cab x c hfn hc)))).trans e1⟩
  ·obtain ⟨o',e1⟩:=I.base.there b o e hx
   exact⟨o',(hs.2 b (Nat.ne_of_lt (Nat.lt_of_lt_of_le (Heap.lt_size e) (I.ok.cab x c hfn hc)))).trans e1⟩
  ·by_cases hj:j=i
   ·subst hj
    rw[hi] at e1;cases e1
    rw[List.getElem?_set_self hiσ] at e2
    cases e2
    exact⟨u,r,.inr ⟨.inl hk,c,hc,hc'⟩⟩
   ·rw[List.getElem?_set_ne (Ne.symm hj)] at e2
    obtain ⟨u',r',q⟩:=hl j y v' e1 e2 e3
    refine⟨u',r',?_⟩
    rcases q with q|⟨k,c',e,z'⟩
    ·exact .inl q
    ·refine .inr ⟨k,c',e,z'.sameBut hs ?_⟩
     rintro rfl
     exact hj (yom hN e1 (I.ok.inj _ _ _ e hc ▸ hi))
  ·by_cases hcc:c'=c
   ·subst hcc;exact⟨_,hc'⟩
   ·obtain ⟨w2,z2⟩:=I.cell y c' e
    exact⟨w2,z2.sameBut hs hcc⟩
  ·obtain ⟨e,n,ne,nf,d⟩:=I.pin p hp
   refine⟨(hs.2 p.1 ?_).trans e,n,ne,nf,d⟩
   intro q
   rw[q,hoc] at e
   have q':oc=p.2:=Option.some.inj e
   exact d w' (by rw[← q'];exact hocd)
theorem yj8 {M:Model}{A:Around}{E:Value→Shared→Prop}{i:Nat}{x:Str}{v:V}{u:Value}{Q:Unit→Shared→Prop}(I:Inv X pins σ H s)(hN:X.N.Nodup)(hi:X.N[i]? = some x)(hx:Loc X.env.scope x)(r:RelV v u)
 (h:∀s',Inv X pins (σ.set i (some v)) H s'→Q () s') (hf:X.fn x=true∨X.env.scope.names.lookup x=some .local:=by first|exact .inl rfl|exact .inr rfl|assumption):wpAny M A (storeName X.env x u) Q E s:=
 yll I hN hi hx r (fun s' I' _=>h s' I') hf
theorem Inv.call' {s':Shared}{ch:List Addr}(I:Inv X pins σ H s)(ho:s'.os=s.os)(u:Un (frs X.stack) ch H H' s.heap s'.heap)(hok:HOk X.prog X.w H' s'.heap)(hg:AllBare s'.gens)
 (hch:∀b∈ch,(b∈X.ex∨X.s₀.heap.objs.size≤b)∧b≠X.env.locals∧(∀x c,X.env.cells.lookup x=some c→c≠b)∧∀p∈X.pn++pins,p.1≠b):Inv X pins σ H' s':=by
 obtain ⟨h',g',d',t',o'⟩:=s'
 have e:o'=s.os:=ho
 subst e
 exact I.call (g':=g') (t':=t') (d':=d') u hok hg hch
end
abbrev XK:=Value→Option Addr→Hp→Prop
abbrev St:=List (Option V)
abbrev VK:=V→Hp→Prop
abbrev TE:=St→Hp→VK→Prop
abbrev TT:=St→Hp→(Bool→Hp→Prop)→Prop
abbrev TA:=St→Hp→(List V→Hp→Prop)→Prop
structure Ends where
 nx:St→Hp→Prop
 rt:VK
 bk:St→Hp→Prop:=fun _ _=>False
 ct:St→Hp→Prop:=fun _ _=>False
abbrev TS:=Ends→St→Hp→Prop
def EP (X:Cx)(pins:List (Addr×Obj))(σ:St)(Q:VK)(u:Value)(s':Shared):Prop:=∃v H',Inv X pins σ H' s'∧RelV v u∧Q v H'
def TP (X:Cx)(pins:List (Addr×Obj))(σ:St)(Q:Bool→Hp→Prop)(b:Bool)(s':Shared):Prop:=∃H',Inv X pins σ H' s'∧Q b H'
def AP (X:Cx)(pins:List (Addr×Obj))(σ:St)(Q:List V→Hp→Prop)(us:List Value)(s':Shared):Prop:=∃vs H',Inv X pins σ H' s'∧Vals vs us∧Q vs H'
def SP (X:Cx)(pins:List (Addr×Obj))(D:Ends)(f:Flow)(s':Shared):Prop:=
 match f with
 |.next=>∃σ' H',Inv X pins σ' H' s'∧D.nx σ' H'
 |.brk=>∃σ' H',Inv X pins σ' H' s'∧D.bk σ' H'
 |.cont=>∃σ' H',Inv X pins σ' H' s'∧D.ct σ' H'
 |.ret u=>∃v σ' H',Inv X pins σ' H' s'∧RelV v u∧D.rt v H'
def PE0 (X:Cx)(e:Expr)(t:TE):Prop:=
 ∀(pins:List (Addr×Obj)) (s:Shared) (σ:St) (H:Hp) (Q:VK),Inv X pins σ H s→t σ H Q→wpAny (model X.prog X.w) X.A (eval e X.env) (EP X pins σ Q) X.xe s
structure PE (X:Cx) (e:Expr) (t:TE):Prop where
 out:PE0 X e t
instance {X:Cx}{e:Expr}{t:TE}:CoeFun (PE X e t) (fun _=>PE0 X e t):=⟨PE.out⟩
def PT0 (X:Cx)(e:Expr)(t:TT):Prop:=
 ∀(pins:List (Addr×Obj)) (s:Shared) (σ:St) (H:Hp) (Q:Bool→Hp→Prop),Inv X pins σ H s→t σ H Q→wpAny (model X.prog X.w) X.A (isTrue e X.env (eval e X.env)) (TP X pins σ Q) X.xe s
structure PT (X:Cx) (e:Expr) (t:TT):Prop where
 out:PT0 X e t
instance {X:Cx}{e:Expr}{t:TT}:CoeFun (PT X e t) (fun _=>PT0 X e t):=⟨PT.out⟩
def PW0 (X:Cx)(e:Expr)(t:TT):Prop:=
 ∀(whole:Sem Value) (pins:List (Addr×Obj)) (s:Shared) (σ:St) (H:Hp) (Q:Bool→Hp→Prop),Inv X pins σ H s→t σ H Q→wpAny (model X.prog X.w) X.A (isTrue e X.env whole) (TP X pins σ Q) X.xe s
structure PW (X:Cx) (e:Expr) (t:TT):Prop where
 out:PW0 X e t
instance {X:Cx}{e:Expr}{t:TT}:CoeFun (PW X e t) (fun _=>PW0 X e t):=⟨PW.out⟩
theorem PW.pt {X:Cx}{e:Expr}{t:TT}(h:PW X e t):PT X e t:=⟨h _⟩
def PA0 (X:Cx)(es:List Expr)(t:TA):Prop:=
 ∀(pos:Pos) (pins:List (Addr×Obj)) (s:Shared) (σ:St) (H:Hp) (Q:List V→Hp→Prop),Inv X pins σ H s→t σ H Q→wpAny (model X.prog X.w) X.A (spliced (backTo pos (starEach es X.env))) (AP X pins σ Q) X.xe s
structure PA (X:Cx) (es:List Expr) (t:TA):Prop where
 out:PA0 X es t
instance {X:Cx}{es:List Expr}{t:TA}:CoeFun (PA X es t) (fun _=>PA0 X es t):=⟨PA.out⟩
def PS0 (X:Cx)(st:Stmt)(t:TS):Prop:=
 ∀(pins:List (Addr×Obj)) (s:Shared) (σ:St) (H:Hp) (D:Ends),Inv X pins σ H s→t D σ H→wpAny (model X.prog X.w) X.A (exec st X.env) (SP X pins D) X.xe s
structure PS (X:Cx) (st:Stmt) (t:TS):Prop where
 out:PS0 X st t
instance {X:Cx}{st:Stmt}{t:TS}:CoeFun (PS X st t) (fun _=>PS0 X st t):=⟨PS.out⟩
def za4 (X:Cx)(st:List Stmt)(t:TS):Prop:=
 ∀(pins:List (Addr×Obj)) (s:Shared) (σ:St) (H:Hp) (D:Ends),Inv X pins σ H s→t D σ H→wpAny (model X.prog X.w) X.A (execs st X.env) (SP X pins D) X.xe s
structure PSs (X:Cx) (st:List Stmt) (t:TS):Prop where
 out:za4 X st t
instance {X:Cx}{st:List Stmt}{t:TS}:CoeFun (PSs X st t) (fun _=>za4 X st t):=⟨PSs.out⟩
theorem thn {α:Type}{t:Sem α}{Q Q':α→Shared→Prop}{M:Model}{A:Around}{E:Value→Shared→Prop}{s:Shared}(h:wpAny M A t Q E s)(hQ:∀a s,Q a s→Q' a s):wpAny M A t Q' E s:=wpAny_mono h hQ fun _ _ x=>x
section
variable {X:Cx}
def yck (i:Nat):TE:=fun σ H Q=>∃v,σ[i]? = some (some v)∧Q v H
def tC (v:V):TE:=fun _ H Q=>Q v H
theorem yys {i:Nat}{x:Str}{pos:Pos} (hN:X.N[i]? = some x) (hv:Vis X.env.scope x) (hd:(x == ("__debug__" : Str))=false:=by decide) (hcd:(x == ("__classdict__" : Str))=false:=by decide):PE X (.Name x pos) (yck i):=by
 refine⟨?_⟩
 intro pins s σ H Q I h
 obtain ⟨v,e,h⟩:=h
 obtain ⟨m,hn,hl⟩:=I.loc
 obtain ⟨u,r,l⟩:=hl i x v hN e hv
 have fin:EP X pins σ Q u s:=⟨v,H,I,r,h⟩
 rcases l with ⟨hk,hm⟩ | ⟨hk,c,hc,hcell⟩
 ·exact wpAny_Name (wpAny_loadName_local I.ok.kind hk hn hm fin) hd
 ·rcases hk with hk|hk
  ·exact wpAny_Name (wpAny_loadName_cell I.ok.kind hk hc hcell fin) hd
  ·exact wpAny_Name (wpAny_loadName_free I.ok.kind hk hc hcell fin hcd) hd
theorem yaj {i j pos}:PE X (.Constant (.int i) j pos) (tC (.int i)):=⟨fun _ _ _ H _ I h=>wpAny_Constant_int ⟨.int i,H,I.tok _,⟨_,rfl⟩,h⟩⟩
theorem yj9 {b j pos}:PE X (.Constant (.bool b) j pos) (tC (.bl b)):=⟨fun _ _ _ H _ I h=>Constant_bool ⟨.bl b,H,I,rfl,h⟩⟩
theorem yon {j pos}:PE X (.Constant .none j pos) (tC .non):=⟨fun _ _ _ H _ I h=>Constant_none ⟨.non,H,I,rfl,h⟩⟩
theorem yf8 {x j pos}:PE X (.Constant (.str x) j pos) (tC (.str x)):=⟨fun _ _ _ H _ I h=>Calls.Constant_str ⟨.str x,H,I.tok _,⟨_,rfl⟩,h⟩⟩
def Gl (X:Cx)(x:Str):Prop:=X.env.kindOf x=some .globalImplicit
theorem ynj {E:Value→Shared→Prop}{pins:List (Addr×Obj)}{s:Shared}{σ:St}{H:Hp}{x:Str}{u:Value}{pos:Pos}{Q:Value→Shared→Prop}(I:Inv X pins σ H s)(hg:Gl X x)(hm:X.mg x=some u)(h:Q u s)
 (hd:(x == ("__debug__" : Str))=false:=by decide):wpAny (model X.prog X.w) X.A (eval (.Name x pos) X.env) Q E s :=
 Calls.Name_function_global I.ok.kind hg (Calls.loadGlobal_global (by rw[I.ok.glob];exact I.mod.glob.keeps I.bk) hm h) hd
theorem yht {E:Value→Shared→Prop}{pins:List (Addr×Obj)}{s:Shared}{σ:St}{H:Hp}{x:Str}{u:Value}{pos:Pos}{Q:Value→Shared→Prop}(I:Inv X pins σ H s)(hg:Gl X x)(hm:X.mg x=none)(hv:bootBuiltins x=some u)(h:Q u s)
 (hn:x ≠ "__name__" := by decide) (hd:(x == ("__debug__" : Str))=false:=by decide):wpAny (model X.prog X.w) X.A (eval (.Name x pos) X.env) Q E s:=by
 obtain ⟨mb,h1,h2⟩:=I.mod.blt
 exact Calls.Name_function_global I.ok.kind hg (Calls.loadGlobal_builtin (by rw[I.ok.glob];exact I.mod.glob.keeps I.bk) hm (by rw[I.ok.blt];exact h1.keeps I.bk) ((h2 x hn).trans hv) h) hd
theorem yw2 {x:Str}{v:V}{u:Value}{pos:Pos} (hg:Gl X x) (hm:X.mg x=some u) (r:RelV v u) (hd:(x == ("__debug__" : Str))=false:=by decide):PE X (.Name x pos) (tC v) :=
 ⟨fun _ _ _ H _ I h=>ynj I hg hm ⟨v,H,I,r,h⟩ hd⟩
theorem yc3 {x:Str}{v:V}{u:Value}{pos:Pos} (hg:Gl X x) (hm:X.mg x=none) (hv:bootBuiltins x=some u) (r:RelV v u) (hn:x ≠ "__name__" := by decide) (hd:(x == ("__debug__" : Str))=false:=by decide):PE X (.Name x pos) (tC v) :=
 ⟨fun _ _ _ H _ I h=>yht I hg hm hv ⟨v,H,I,r,h⟩ hn hd⟩
variable {a b:Expr}{ta tb:TE}{pos:Pos}
variable {tA tB':TT}{rest:List Expr}
def zbg (t u:TT):TT:=fun σ H Q=>t σ H fun c H1=>if c=true then u σ H1 Q else Q false H1
def tOr (t u:TT):TT:=fun σ H Q=>t σ H fun c H1=>if c=true then Q true H1 else u σ H1 Q
def zbh (t:TT):TT:=fun σ H Q=>t σ H fun c H1=>Q (!c) H1
theorem yw3 (ha:PT X a tA):PW X (.BoolOp .And [a] pos) tA:=by
 refine⟨?_⟩
 intro wh pins s σ H Q I h
 refine isTrue_and (thn (ha pins s σ H Q I h) fun c s1 e=>?_)
 cases c with
 |true=>exact isTrue_and_nil e
 |false=>exact e
theorem yjl (ha:PT X a tA):PW X (.BoolOp .Or [a] pos) tA:=by
 refine⟨?_⟩
 intro wh pins s σ H Q I h
 refine isTrue_or (thn (ha pins s σ H Q I h) fun c s1 e=>?_)
 cases c with
 |false=>exact isTrue_or_nil e
 |true=>exact e
theorem yyt (ha:PT X a tA)(hb:PW X (.BoolOp .And (b::rest) pos) tB'):PW X (.BoolOp .And (a::b::rest) pos) (zbg tA tB'):=by
 refine⟨?_⟩
 intro wh pins s σ H Q I h
 refine isTrue_and (thn (ha pins s σ H _ I h) fun c s1 ⟨H1,I1,q1⟩=>?_)
 cases c with
 |true=>exact hb wh pins s1 σ H1 Q I1 q1
 |false=>exact⟨H1,I1,q1⟩
theorem yka (ha:PT X a tA)(hb:PW X (.BoolOp .Or (b::rest) pos) tB'):PW X (.BoolOp .Or (a::b::rest) pos) (tOr tA tB'):=by
 refine⟨?_⟩
 intro wh pins s σ H Q I h
 refine isTrue_or (thn (ha pins s σ H _ I h) fun c s1 ⟨H1,I1,q1⟩=>?_)
 cases c with
 |true=>exact⟨H1,I1,q1⟩
 |false=>exact hb wh pins s1 σ H1 Q I1 q1
theorem ye9 (ha:PT X a tA):PT X (.UnaryOp .Not a pos) (zbh tA):=by
 refine⟨?_⟩
 intro pins s σ H Q I h
 exact isTrue_not (ha pins s σ H (fun c H1=>Q (!c) H1) I h)
def zad (ta tb:TE):TE:=fun σ H Q=>ta σ H fun x H1=>∃c,x = .bl c∧if c=true then tb σ H1 Q else Q (.bl false) H1
theorem yq9 {op}{t:TE}(h:PE X a t):PE X (.BoolOp op [a] pos) t:=⟨fun pins s σ H Q I hw=>BoolOp_one (h pins s σ H Q I hw)⟩
theorem ylm (ha:PE X a ta)(hb:PE X (.BoolOp .And (b::rest) pos) tb):PE X (.BoolOp .And (a::b::rest) pos) (zad ta tb):=by
 refine⟨?_⟩
 intro pins s σ H Q I h
 refine BoolOp_and (thn (ha pins s σ H _ I h) fun v s1 ⟨x,H1,I1,r1,q1⟩=>?_)
 obtain ⟨c,rfl,q1⟩:=q1
 cases r1
 refine wpAny_truthy_bool ?_
 cases c with
 |true=>exact hb pins s1 σ H1 Q I1 q1
 |false=>exact⟨.bl false,H1,I1,rfl,q1⟩
def tIf (t:TT)(ta tb:TE):TE:=fun σ H Q=>t σ H fun c H1=>if c=true then ta σ H1 Q else tb σ H1 Q
theorem yui {c:Expr}(hc:PT X c tA)(ha:PE X a ta)(hb:PE X b tb):PE X (.IfExp c a b pos) (tIf tA ta tb):=by
 refine⟨?_⟩
 intro pins s σ H Q I h
 refine wpAny_IfExp (thn (hc pins s σ H _ I h) fun d s1 ⟨H1,I1,q1⟩=>?_)
 cases d with
 |true=>exact ha pins s1 σ H1 Q I1 q1
 |false=>exact hb pins s1 σ H1 Q I1 q1
end
def SqL (K:PySem.W.Frag)(H:Hp)(a:Addr)(xs:List V):Prop:=
 Rd H a (.lst xs)∨
  ∃(o:Obj) (its:Array Value) (n:Nat),K.lookup a=some o∧o.cls = .type "list" ∧ o.dict=none∧o.data = .seq its n∧its.size≤sizeLine∧Vals xs its.toList
def SqT (K:PySem.W.Frag)(H:Hp)(a:Addr)(xs:List V):Prop:=
 Rd H a (.tup xs)∨
  ∃(o:Obj) (its:Array Value) (n:Nat),K.lookup a=some o∧o.cls = .type "tuple" ∧ o.data = .seq its n∧its.size≤sizeLine∧Vals xs its.toList
def zbi:Value→Option V
 |.none=>some .non
 |.bool b=>some (.bl b)
 |.int i _=>some (.int i)
 |.str x _=>some (.str x)
 |.bytes b _=>some (.byt b)
 |.float b _=>some (.flt b)
 |.ref a=>some (.ref a)
 |.type n=>some (.ty n)
 |_=>none
theorem RelV.abs {x:V}{u:Value}(r:RelV x u):zbi u=some x:=by
 cases x with
 |non=>cases r;rfl
 |bl _=>cases r;rfl
 |int _=>obtain ⟨t,rfl⟩:=r;rfl
 |str _=>obtain ⟨t,rfl⟩:=r;rfl
 |byt _=>obtain ⟨t,rfl⟩:=r;rfl
 |flt _=>obtain ⟨t,rfl⟩:=r;rfl
 |ref _=>cases r;rfl
 |ty _=>cases r;rfl
theorem RelV.inj {x y:V}{u:Value}(r:RelV x u)(q:RelV y u):x=y:=Option.some.inj (r.abs.symm.trans q.abs)
theorem Vals.inj:∀{xs ys:List V}{us:List Value},Vals xs us→Vals ys us→xs=ys
 |_,_,_,.nil,.nil=>rfl
 |_,_,_,.cons r t,.cons r' t'=>by rw[r.inj r',Vals.inj t t']
section
variable {X:Cx}{pins:List (Addr×Obj)}{σ:St}{H:Hp}{s:Shared}{a:Addr}{xs ys:List V}
theorem SqL.of {K:PySem.W.Frag}(h:H a=some (.lst xs)):SqL K H a xs:=.inl (.inl h)
theorem SqT.of {K:PySem.W.Frag}(h:H a=some (.tup xs)):SqT K H a xs:=.inl (.inl h)
theorem Inv.list (I:Inv X pins σ H s)(h:SqL X.K H a xs):∃its:List Value,Vals xs its∧PlainL s.heap a its.toArray∧xs.length≤sizeLine:=by
 rcases h with h|⟨o,its,n,hk,hc,hd,hs,hz,r⟩
 ·obtain ⟨z,its,n,r,e⟩:=h.ok I.hok
  exact⟨its,r,⟨_,n,e,rfl,rfl,rfl⟩,z⟩
 ·refine⟨its.toList,r,⟨o,n,I.kIn a o hk,hc,hd,by simpa using hs⟩,?_⟩
  have e:=r.length
  simp only[Array.length_toList] at e
  omega
theorem Inv.tuple (I:Inv X pins σ H s)(h:SqT X.K H a xs):∃its:List Value,Vals xs its∧IsTup s.heap a its.toArray∧xs.length≤sizeLine:=by
 rcases h with h|⟨o,its,n,hk,hc,hs,hz,r⟩
 ·obtain ⟨z,its,r,p⟩:=h.ok I.hok
  exact⟨its,r,p,z⟩
 ·refine⟨its.toList,r,⟨o,I.kIn a o hk,hc,n,by simpa using hs⟩,?_⟩
  have e:=r.length
  simp only[Array.length_toList] at e
  omega
theorem Inv.list_inj (I:Inv X pins σ H s)(h:SqL X.K H a xs)(h':SqL X.K H a ys):xs=ys:=by
 obtain ⟨its,r,⟨o,n,e,_,_,d⟩,_⟩:=I.list h
 obtain ⟨its',r',⟨o',n',e',_,_,d'⟩,_⟩:=I.list h'
 rw[e] at e';cases e'
 rw[d] at d'
 injection d' with d1 _
 have:its=its':=by simpa using congrArg Array.toList d1
 subst this
 exact r.inj r'
theorem Inv.tuple_inj (I:Inv X pins σ H s)(h:SqT X.K H a xs)(h':SqT X.K H a ys):xs=ys:=by
 obtain ⟨its,r,⟨o,e,_,n,d⟩,_⟩:=I.tuple h
 obtain ⟨its',r',⟨o',e',_,n',d'⟩,_⟩:=I.tuple h'
 rw[e] at e';cases e'
 rw[d] at d'
 injection d' with d1 _
 have:its=its':=by simpa using congrArg Array.toList d1
 subst this
 exact r.inj r'
end
abbrev Cx.wish (X:Cx)(E:Value→Shared→Prop):Cx:={ X with xe:=E }
abbrev Cx.nox (X:Cx):Cx:=X.wish fun _ _=>False
theorem Cx.Ok.wish {X:Cx}(ok:X.Ok)(E:Value→Shared→Prop):(X.wish E).Ok:=
 ⟨ok.mod,ok.kind,ok.glob,ok.blt,ok.above,ok.inj,ok.has,ok.cab,ok.hd,ok.frames,ok.stk,ok.exf,ok.bs,ok.bsz,ok.noex,ok.exfs,ok.funs,ok.frf⟩
theorem Cx.Ok.unwish {X:Cx}{E:Value→Shared→Prop}(ok:(X.wish E).Ok):X.Ok:=
 ⟨ok.mod,ok.kind,ok.glob,ok.blt,ok.above,ok.inj,ok.has,ok.cab,ok.hd,ok.frames,ok.stk,ok.exf,ok.bs,ok.bsz,ok.noex,ok.exfs,ok.funs,ok.frf⟩
section
variable {X:Cx}{pins:List (Addr×Obj)}{σ:St}{H:Hp}{s:Shared}{E:Value→Shared→Prop}
theorem Inv.wish (I:Inv X pins σ H s)(E:Value→Shared→Prop):Inv (X.wish E) pins σ H s:=⟨I.ok.wish E,I.os,I.bare,I.base,I.loc,I.cell,I.free,I.freeC,I.pin,I.hok,I.len⟩
theorem Inv.unwish (I:Inv (X.wish E) pins σ H s):Inv X pins σ H s:=⟨I.ok.unwish,I.os,I.bare,I.base,I.loc,I.cell,I.free,I.freeC,I.pin,I.hok,I.len⟩
theorem SP.unwish {D:Ends}{f:Flow}{s':Shared}(h:SP (X.wish E) pins D f s'):SP X pins D f s':=by
 cases f with
 |next=>obtain ⟨σ',H',I,q⟩:=h;exact⟨σ',H',I.unwish,q⟩
 |brk=>obtain ⟨σ',H',I,q⟩:=h;exact⟨σ',H',I.unwish,q⟩
 |cont=>obtain ⟨σ',H',I,q⟩:=h;exact⟨σ',H',I.unwish,q⟩
 |ret u=>obtain ⟨v,σ',H',I,r,q⟩:=h;exact⟨v,σ',H',I.unwish,r,q⟩
theorem PSs.nox {st:List Stmt}{t:TS}(h:PSs X.nox st t):PSs X st t:=⟨fun pins s σ H D I hw=>
 wpAny_mono (h pins s σ H D (I.wish _) hw) (fun _ _ q=>q.unwish) fun _ _ z=>False.elim z⟩
end
section
variable {X:Cx}{st:Stmt}{rest:List Stmt}{t u:TS}{e:Expr}{te:TE}{pos:Pos}
def zae:TS:=fun D σ H=>D.nx σ H
def zaf (t u:TS):TS:=fun D σ H=>t { D with nx:=u D } σ H
theorem ybb:PSs X [] zae:=⟨fun _ _ σ H _ I h=>wpAny_execs_nil ⟨σ,H,I,h⟩⟩
theorem yad (h1:PS X st t)(h2:PSs X rest u):PSs X (st::rest) (zaf t u):=by
 refine⟨?_⟩
 intro pins s σ H D I h
 refine wpAny_execs_cons (thn (h1 pins s σ H { D with nx:=u D } I h) fun f s1 q=>?_)
 cases f with
 |next=>
  obtain ⟨σ',H',I',q⟩:=q
  exact h2 pins s1 σ' H' D I' q
 |ret v=>exact q
 |brk=>exact q
 |cont=>exact q
theorem yai (h1:PS X st t):PSs X [st] t:=by
 refine⟨?_⟩
 intro pins s σ H D I h
 refine wpAny_execs_cons (thn (h1 pins s σ H D I h) fun f s1 q=>?_)
 cases f with
 |next=>exact wpAny_execs_nil q
 |ret v=>exact q
 |brk=>exact q
 |cont=>exact q
theorem Inv.quiet {pins:List (Addr×Obj)}{σ:St}{H:Hp}{s:Shared}(I:Inv X pins σ H s):interactive X.env=false:=by simp [interactive,I.ok.kind]
def zag (te:TE):TS:=fun D σ H=>te σ H fun _ H1=>D.nx σ H1
theorem yb9 (he:PE X e te)(hs:swapsWith e none pos.line X.env=pure false:=by rfl):PS X (.Expr e pos) (zag te):=by
 refine⟨?_⟩
 intro pins s σ H D I h
 exact wpAny_Expr_any (thn (he pins s σ H _ I h) fun v s1 ⟨x,H1,I1,r1,q1⟩=>⟨σ,H1,I1,q1⟩) I.quiet hs
def zbj (te:TE):TS:=fun D σ H=>te σ H D.rt
theorem yaw (he:PE X e te):PS X (.Return (some e) pos) (zbj te):=by
 refine⟨?_⟩
 intro pins s σ H D I h
 exact wpAny_Return_some (thn (he pins s σ H _ I h) fun v s1 ⟨x,H1,I1,r1,q1⟩=>⟨x,σ,H1,I1,r1,q1⟩)
def za5 (c:TT)(t u:TS):TS:=fun D σ H=>c σ H fun b H1=>if b=true then t D σ H1 else u D σ H1
theorem ydn {c:Expr}{a b:List Stmt}{tc:TT}(hc:PT X c tc)(ha:PSs X a t)(hb:PSs X b u):PS X (.If c a b pos) (za5 tc t u):=by
 refine⟨?_⟩
 intro pins s σ H D I h
 refine wpAny_If (thn (hc pins s σ H _ I h) fun d s1 ⟨H1,I1,q1⟩=>?_)
 cases d with
 |true=>exact ha pins s1 σ H1 D I1 q1
 |false=>exact hb pins s1 σ H1 D I1 q1
end
abbrev TG:=V→St→Hp→(St→Hp→Prop)→Prop
abbrev TGs:=List V→St→Hp→(St→Hp→Prop)→Prop
def PG0 (X:Cx)(target:Expr)(t:TG):Prop:=
 ∀(pins:List (Addr×Obj)) (s:Shared) (σ:St) (H:Hp) (v:V) (u:Value) (Q:St→Hp→Prop),Inv X pins σ H s→RelV v u→t v σ H Q→
  wpAny (model X.prog X.w) X.A (assign target X.env u) (fun _ s'=>∃σ' H',Inv X pins σ' H' s'∧Q σ' H') X.xe s
structure PG (X:Cx) (target:Expr) (t:TG):Prop where
 out:PG0 X target t
instance {X:Cx}{target:Expr}{t:TG}:CoeFun (PG X target t) (fun _=>PG0 X target t):=⟨PG.out⟩
def za6 (X:Cx)(ts:List Expr)(t:TGs):Prop:=
 ∀(pins:List (Addr×Obj)) (s:Shared) (σ:St) (H:Hp) (vs:List V) (us:List Value) (Q:St→Hp→Prop),Inv X pins σ H s→Vals vs us→t vs σ H Q→
  wpAny (model X.prog X.w) X.A (assignInOrder ((assignEach ts X.env).map (·.2)) us) (fun _ s'=>∃σ' H',Inv X pins σ' H' s'∧Q σ' H') X.xe s
structure PGs (X:Cx) (ts:List Expr) (t:TGs):Prop where
 out:za6 X ts t
instance {X:Cx}{ts:List Expr}{t:TGs}:CoeFun (PGs X ts t) (fun _=>za6 X ts t):=⟨PGs.out⟩
abbrev yyu:=V→V→V→Hp→(Hp→Prop)→Prop
def zah (X:Cx)(t:yyu):Prop:=
 ∀(pins:List (Addr×Obj)) (s:Shared) (σ:St) (H:Hp) (o i v:V) (ov iv u:Value) (Q:Hp→Prop),Inv X pins σ H s→RelV o ov→RelV i iv→RelV v u→t o i v H Q→
  wpAny (model X.prog X.w) X.A (setItem ov iv u) (fun _ s'=>∃H',Inv X pins σ H' s'∧Q H') X.xe s
abbrev TIp:=V→V→Hp→VK→Prop
def PIp (X:Cx)(op:Operator)(t:TIp):Prop:=
 ∀(pins:List (Addr×Obj)) (s:Shared) (σ:St) (H:Hp) (x y:V) (v u:Value) (Q:VK),Inv X pins σ H s→RelV x v→RelV y u→t x y H Q→
  wpAny (model X.prog X.w) X.A (inplaceOp op v u) (EP X pins σ Q) X.xe s
section
variable {X:Cx}{pos:Pos}
def ybc (i:Nat):TG:=fun v σ H Q=>Q (σ.set i (some v)) H
theorem yah {i:Nat}{x:Str}(hN:X.N.Nodup)(hi:X.N[i]? = some x)(hx:Loc X.env.scope x)(hf:X.fn x=true∨X.env.scope.names.lookup x=some .local:=by first|exact .inl rfl|exact .inr rfl|assumption):PG X (.Name x pos) (ybc i):=by
 refine⟨?_⟩
 intro pins s σ H v u Q I r h
 exact wpAny_assign_Name (yj8 I hN hi hx r (fun s' I'=>⟨_,H,I',h⟩) hf)
def ylj:TGs:=fun vs σ H Q=>vs=[]∧Q σ H
def ybw (t:TG)(u:TGs):TGs:=fun vs σ H Q=>∃v r,vs=v::r∧t v σ H fun σ' H'=>u r σ' H' Q
theorem yay:PGs X [] ylj:=by
 refine⟨?_⟩
 intro pins s σ H vs us Q I r h
 obtain ⟨e,h⟩:=h
 subst e
 cases r
 exact assignInOrder_nil ⟨σ,H,I,h⟩
theorem yaf {e:Expr}{es:List Expr}{t:TG}{u:TGs}(h1:PG X e t)(h2:PGs X es u)
 (hs:(assignEach (e::es) X.env).map (·.2)=assign e X.env::(assignEach es X.env).map (·.2):=by rfl):PGs X (e::es) (ybw t u):=by
 refine⟨?_⟩
 intro pins s σ H vs us Q I r h
 obtain ⟨v,vr,e1,h⟩:=h
 subst e1
 cases r with
 |cons r rr=>
  rw[hs]
  refine assignInOrder_cons (thn (h1 pins s σ H _ _ _ I r h) fun _ s1 ⟨σ1,H1,I1,q1⟩=>?_)
  exact h2 pins s1 σ1 H1 _ _ Q I1 rr q1
def ylk (K:PySem.W.Frag)(n:Nat)(t:TGs):TG:=fun v σ H Q=>∃a xs,v = .ref a∧SqT K H a xs∧xs.length=n∧t xs σ H Q
theorem ya4 {es:List Expr}{k:Nat}{t:TGs}{n:Nat}(hc:X.calm=true)(h:PGs X es t)
 (hn:(assignEach es X.env).length=n:=by rfl) (hst:(assignEach es X.env).findIdx? (·.1)=none:=by rfl):PG X (.Tuple es k pos) (ylk X.K n t):=by
 refine⟨?_⟩
 intro pins s σ H v u Q I r hw
 obtain ⟨a,xs,e1,hq,hl,hw⟩:=hw
 subst e1
 cases r
 obtain ⟨its,rv,ht,hz⟩:=I.tuple hq
 refine assign_Tuple_tuple (I.ok.hd hc) ht (by simp [hn,← hl,rv.length]) hst fun h' hx=>?_
 have I1:Inv X pins σ H { s with heap:=h' }:=I.kept (t':=s.toks) fun b o e=>hx b o (Nat.ne_of_lt (Heap.lt_size e)) e
 exact h pins _ σ H xs _ Q I1 (by simpa using rv) hw
def zbk (to ti:TE)(t:yyu):TG:=fun v σ H Q=>to σ H fun o H1=>ti σ H1 fun i H2=>t o i v H2 fun H3=>Q σ H3
theorem yfz {o i:Expr}{to ti:TE}{t:yyu}(ho:PE X o to)(hi:PE X i ti)(hs:zah X t)
 (ha:∀v,assign (.Subscript o i pos) X.env v=(do
  let ov ← holding [v] (eval o X.env)
  let iv ← holding [v,ov] (eval i X.env)
  standAt pos
  holding [v,ov,iv] (setItem ov iv v)
  release [v,ov,iv] []):=by intro _;rfl):PG X (.Subscript o i pos) (zbk to ti t):=by
 refine⟨?_⟩
 intro pins s σ H v u Q I r h
 rw[ha]
 refine zwb0 (wpAny_holding (thn (ho pins s σ H _ I h) fun ov s1 ⟨x,H1,I1,r1,q1⟩=>?_))
 refine zwb0 (wpAny_holding (thn (hi pins s1 σ H1 _ I1 q1) fun iv s2 ⟨y,H2,I2,r2,q2⟩=>?_))
 refine zwb0 (wpAny_standAt (zwb0 (wpAny_holding (thn (hs pins s2 σ H2 x y v ov iv u _ I2 r1 r2 r q2) fun _ s3 ⟨H3,I3,q3⟩=>?_))))
 exact wpAny_release ⟨σ,H3,I3,q3⟩
def zai (te:TE)(g:TG):TS:=fun D σ H=>te σ H fun x H1=>g x σ H1 D.nx
theorem yc4 {tg e:Expr}{te:TE}{g:TG}(he:PE X e te)(hg:PG X tg g)(hs:swapsWithSole [tg] e pos.line X.env=pure false:=by rfl)(hw:swappedStores [tg] e X.env=pure none:=by rfl)
 (h1:(assignEach [tg] X.env).map (·.2)=[assign tg X.env]:=by rfl):PS X (.Assign [tg] e pos) (zai te g):=by
 refine⟨?_⟩
 intro pins s σ H D I h
 refine wpAny_Assign_stores (thn (he pins s σ H _ I h) fun v s1 ⟨x,H1,I1,r1,q1⟩=>?_) hs hw
 rw[h1]
 exact thn (hg pins s1 σ H1 x v _ I1 r1 q1) fun _ s2 q=>q
theorem ya2 {i:Nat}{x:Str}{e:Expr}{te:TE}{pos':Pos}(hN:X.N.Nodup)(hi:X.N[i]? = some x)(hx:Loc X.env.scope x)(he:PE X e te)(hs:swapsWith e (some (.Name x pos')) pos.line X.env=pure false:=by rfl)(hf:X.fn x=true∨X.env.scope.names.lookup x=some .local:=by first|exact .inl rfl|exact .inr rfl|assumption) :
 PS X (.Assign [.Name x pos'] e pos) (zai te (ybc i)):=by
 refine⟨?_⟩
 intro pins s σ H D I h
 refine wpAny_Assign_Name (thn (he pins s σ H _ I h) fun v s1 ⟨y,H1,I1,r1,q1⟩=>?_) hs
 exact yj8 I1 hN hi hx r1 (fun s2 I2=>⟨_,H1,I2,q1⟩) hf
def zbl (i:Nat)(te:TE)(ti:TIp):TS:=fun D σ H=>∃x,σ[i]? = some (some x)∧te σ H fun y H1=>ti x y H1 fun z H2=>D.nx (σ.set i (some z)) H2
theorem yyv {i:Nat}{x:Str}{e:Expr}{te:TE}{op:Operator}{ti:TIp}{pos':Pos}(hN:X.N.Nodup)(hi:X.N[i]? = some x)(hx:Loc X.env.scope x)(he:PE X e te)(ho:PIp X op ti)(hf:X.fn x=true∨X.env.scope.names.lookup x=some .local:=by first|exact .inl rfl|exact .inr rfl|assumption) :
 PS X (.AugAssign (.Name x pos') op e pos) (zbl i te ti):=by
 refine⟨?_⟩
 intro pins s σ H D I h
 obtain ⟨v,e1,h⟩:=h
 obtain ⟨m,hn,hl⟩:=I.loc
 have vis:Vis X.env.scope x:=by rcases hx with k|k;exact .inl k;exact .inr (.inl k)
 obtain ⟨u,r,l⟩:=hl i x v hi e1 vis
 refine wpAny_AugAssign_Name ?_
 have go:wpAny (model X.prog X.w) X.A (eval e X.env) (fun w s₂=>wpAny (model X.prog X.w) X.A (inplaceOp op u w) (fun r s₃=>wpAny (model X.prog X.w) X.A (storeName X.env x r) (fun _=>SP X pins D .next) X.xe s₃) X.xe s₂) X.xe s:=by
  refine thn (he pins s σ H _ I h) fun w s1 ⟨y,H1,I1,r1,q1⟩=>?_
  refine thn (ho pins s1 σ H1 v y u w _ I1 r r1 q1) fun z s2 ⟨zv,H2,I2,r2,q2⟩=>?_
  exact yj8 I2 hN hi hx r2 (fun s3 I3=>⟨_,H2,I3,q2⟩) hf
 rcases l with ⟨hk,hm⟩ | ⟨hk,c,hc,hcell⟩
 ·exact wpAny_loadName_local I.ok.kind hk hn hm go
 ·rcases hk with hk|hk
  ·exact wpAny_loadName_cell I.ok.kind hk hc hcell go
  ·rcases hx with k|k
   ·have:X.env.scope.names.lookup x=some .free:=hk
    rw[k] at this;cases this
   ·have:X.env.scope.names.lookup x=some .free:=hk
    rw[k] at this;cases this
def zaj (to ti te:TE)(tget:V→V→Hp→VK→Prop)(tip:TIp)(tset:yyu):TS:=fun D σ H=>to σ H fun o H1=>ti σ H1 fun i H2=>tget o i H2 fun x H3=>te σ H3 fun y H4=>tip x y H4 fun z H5=>tset o i z H5 fun H6=>D.nx σ H6
def za7 (X:Cx)(t:V→V→Hp→VK→Prop):Prop:=
 ∀(pins:List (Addr×Obj)) (s:Shared) (σ:St) (H:Hp) (o i:V) (ov iv:Value) (Q:VK),Inv X pins σ H s→RelV o ov→RelV i iv→t o i H Q→
  wpAny (model X.prog X.w) X.A (getItem ov iv) (EP X pins σ Q) X.xe s
theorem yra {o i e:Expr}{to ti te:TE}{tget:V→V→Hp→VK→Prop}{tip:TIp}{tset:yyu}{op:Operator}{tpos:Pos}(ho:PE X o to)(hi:PE X i ti)(hg:za7 X tget)(he:PE X e te)(hp:PIp X op tip)(hs:zah X tset)
 (ha:∀ov iv new,augStore i ov iv new=(do holding [new,ov,iv] (setItem ov iv new);release [new,ov,iv] [];pure .next):=by intros;rfl):PS X (.AugAssign (.Subscript o i tpos) op e pos) (zaj to ti te tget tip tset):=by
 refine⟨?_⟩
 intro pins s σ H D I h
 refine wpAny_AugAssign_SubscriptAny (thn (ho pins s σ H _ I h) fun ov s1 ⟨x1,H1,I1,r1,q1⟩=>?_) ha
 refine thn (hi pins s1 σ H1 _ I1 q1) fun iv s2 ⟨x2,H2,I2,r2,q2⟩=>?_
 refine thn (hg pins s2 σ H2 x1 x2 ov iv _ I2 r1 r2 q2) fun old s3 ⟨x3,H3,I3,r3,q3⟩=>?_
 refine thn (he pins s3 σ H3 _ I3 q3) fun v s4 ⟨x4,H4,I4,r4,q4⟩=>?_
 refine thn (hp pins s4 σ H4 x3 x4 old v _ I4 r3 r4 q4) fun new s5 ⟨x5,H5,I5,r5,q5⟩=>?_
 exact thn (hs pins s5 σ H5 x1 x2 x5 ov iv new _ I5 r1 r2 r5 q5) fun _ s6 ⟨H6,I6,q6⟩=>⟨σ,H6,I6,q6⟩
def ipI (f:Int→Int→Int):TIp:=fun x y H Q=>∃i j,x = .int i∧y = .int j∧Q (.int (f i j)) H
theorem yyw:PIp X .Add (ipI fun i j=>i+j):=by
 intro pins s σ H x y v u Q I r1 r2 h
 obtain ⟨i,j,e1,e2,q⟩:=h
 subst e1;subst e2
 obtain ⟨t,rfl⟩:=r1
 obtain ⟨t',rfl⟩:=r2
 exact iadd_int ⟨.int _,H,I.tok _,⟨_,rfl⟩,q⟩
theorem ywc:PIp X .Sub (ipI fun i j=>i-j):=by
 intro pins s σ H x y v u Q I r1 r2 h
 obtain ⟨i,j,e1,e2,q⟩:=h
 subst e1;subst e2
 obtain ⟨t,rfl⟩:=r1
 obtain ⟨t',rfl⟩:=r2
 exact isub_int ⟨.int _,H,I.tok _,⟨_,rfl⟩,q⟩
end
section
variable {X:Cx}{pos:Pos}
end
structure It where
 go:Nat→Hp→Prop
 yld:Nat→Hp→V→Hp→Prop
 stop:Nat→Hp→Prop
def ye8 (X:Cx)(pins:List (Addr×Obj))(H:Hp)(b:Addr):Prop:=
 H b=none∧b≠X.env.locals∧b ∉ X.fs∧(b∈X.ex∨X.s₀.heap.objs.size≤b)∧(∀x c,X.env.cells.lookup x=some c→c≠b)∧∀p∈X.pn++pins,p.1≠b
theorem Inv.fpOk {X:Cx}{pins:List (Addr×Obj)}{σ:St}{H H':Hp}{s:Shared}{b:Addr}(I:Inv X pins σ H s)(hb:s.heap.objs.size≤b)(hn:H' b=none):ye8 X pins H' b:=by
 refine⟨hn,Nat.ne_of_gt (Nat.lt_of_lt_of_le I.lt hb),I.nofs hb,.inr (Nat.le_trans I.sz hb),fun x c e z=>?_,fun p hp z=>?_⟩
 ·obtain ⟨v,q⟩:=I.cell x c e
  exact absurd (Nat.lt_of_lt_of_le q.lt (by rw[z];exact hb)) (Nat.lt_irrefl _)
 ·exact absurd (Nat.lt_of_lt_of_le (Heap.lt_size (I.pin p hp).1) (by rw[z];exact hb)) (Nat.lt_irrefl _)
structure Turn (P:Program) (w:World) (K:PySem.W.Frag) (tg:Expr) (J:It) (fp:List Addr) (it:Addr) (tn:Nat→Heap→Prop):Prop where
 mem:it∈fp
 obj:∀i h,tn i h→∀b∈fp,∃o,h.get? b=some o∧∀v,o.data≠.cell v
 keep:∀i h h',tn i h→(∀b∈fp,∀o,h.get? b=some o→h'.get? b=some o)→tn i h'
 item:∀(X:Cx),X.prog=P→X.w=w→X.K=K→X.calm=true→∀(i:Nat) (pins:List (Addr×Obj)) (s:Shared) (σ:St) (H:Hp) (E:Value→Shared→Prop),Inv X pins σ H s→(∀b∈fp,ye8 X pins H b)→tn i s.heap→J.go i H→
  wpAny (model P w) X.A (pyNext (.ref it)) (fun r s1=>∃u,r=some u∧
   wpAny (model P w) X.A (letOwnedTupleGo tg (.ref it) u) (fun _ s2=>∃x H',Inv X pins σ H' s2∧RelV x u∧J.yld i H x H'∧tn (i+1) s2.heap∧∀b∈fp,H' b=none) E s1) E s
 done:∀(X:Cx),X.prog=P→X.w=w→X.K=K→X.calm=true→∀(i:Nat) (pins:List (Addr×Obj)) (s:Shared) (σ:St) (H:Hp) (E:Value→Shared→Prop),Inv X pins σ H s→(∀b∈fp,ye8 X pins H b)→tn i s.heap→J.stop i H→
  wpAny (model P w) X.A (pyNext (.ref it)) (fun r s1=>r=none∧Inv X pins σ H s1) E s
 self:∀(A:Around) (i:Nat) (s:Shared) (Q:Value→Shared→Prop) (E:Value→Shared→Prop),tn i s.heap→Q (.ref it) s→wpAny (model P w) A (pyIter (.ref it)) Q E s
abbrev TI:=St→Hp→(It→Hp→Prop)→Prop
def PIE (X:Cx)(pins:List (Addr×Obj))(σ:St)(tg:Expr)(R:It→Hp→Prop)(itv:Value)(s2:Shared):Prop:=
 ∃(it:Addr) (fp:List Addr) (tn:Nat→Heap→Prop) (J:It) (H':Hp),itv = .ref it∧Inv X pins σ H' s2∧Turn X.prog X.w X.K tg J fp it tn∧tn 0 s2.heap∧(∀b∈fp,ye8 X pins H' b)∧R J H'
def PI0 (X:Cx)(tg iter:Expr)(wi:TI):Prop:=
 ∀(pins:List (Addr×Obj)) (s:Shared) (σ:St) (H:Hp) (R:It→Hp→Prop),Inv X pins σ H s→wi σ H R→
  wpAny (model X.prog X.w) X.A (eval iter X.env) (fun v s1=>wpAny (model X.prog X.w) X.A (pyIter v) (PIE X pins σ tg R) X.xe s1) X.xe s
structure PI (X:Cx) (tg iter:Expr) (wi:TI):Prop where
 out:PI0 X tg iter wi
instance {X:Cx}{tg iter:Expr}{wi:TI}:CoeFun (PI X tg iter wi) (fun _=>PI0 X tg iter wi):=⟨PI.out⟩
theorem yw4 {M:Model}{A:Around}{E:Value→Shared→Prop}{s:Shared}{tg:Expr}{it:Addr}{u:Value}{o:Obj}{n:String}{vs:Array Value}{Q:Unit→Shared→Prop}(ho:s.heap.get? it=some o)(hc:o.cls = .type n)(hd:o.data = .fields vs)
 (hn:["enumerate","zip","dict_itemiterator","dict_reverseitemiterator","odict_iterator","itertools.zip_longest","itertools.pairwise"].contains n=false) (hQ:Q () s):wpAny M A (letOwnedTupleGo tg (.ref it) u) Q E s:=by
 unfold letOwnedTupleGo
 cases tg <;> first
  |exact zwp0 hQ
  |(cases u <;> first
     |exact zwp0 hQ
     |(refine zwb0 (wpAny_load ho ?_)
       rw[hc,hd]
       show wpAny M A (if (["enumerate","zip","dict_itemiterator","dict_reverseitemiterator","odict_iterator","itertools.zip_longest","itertools.pairwise"].contains n&&vs[0]? == some (rawInt _))=true then _ else _) Q E s
       rw[if_neg (by intro h;rw[hn,Bool.false_and] at h;cases h)]
       exact zwp0 hQ))
def Itl (K:PySem.W.Frag)(a:Addr):It:=
 ⟨fun i H=>∃xs x,SqL K H a xs∧xs[i]? = some x,fun i H x H'=>H' = H∧∀xs,SqL K H a xs→xs[i]? = some x,fun i H=>∃xs,SqL K H a xs∧xs.length≤i⟩
def Itr (lo:Int)(n:Nat):It:=⟨fun i _=>i<n,fun i H x H'=>H'=H∧x = .int (lo+i),fun i _=>n≤i⟩
theorem yrb {P:Program}{w:World}{K:PySem.W.Frag}{tg:Expr}(a it:Addr):Turn P w K tg (Itl K a) [it] it (fun i h=>h.IsListIter it a i) where
 mem:=by simp
 obj:=fun i h st b hb=>by
  have e:b=it:=by simpa using hb
  subst e
  obtain ⟨o,e,c,d⟩:=st
  exact⟨o,e,fun v z=>by rw[d] at z;cases z⟩
 keep:=fun i h h' st k=>st.at fun o e=>k it (by simp) o e
 item:=by
  intro X hP hw hK hc i pins s σ H E I hf st hg
  subst hP hw hK
  obtain ⟨xs,x,hq,hx⟩:=hg
  obtain ⟨its,rv,p,hz⟩:=I.list hq
  obtain ⟨u,hu,ru⟩:=rv.get hx
  obtain ⟨f0,f1,f2,f3,f4,f5⟩:=hf it (by simp)
  refine wpAny_pyNext_list_item st p.isList (x:=u) (by simpa using hu) fun h' st' sb=>?_
  have I1:Inv X pins σ H { s with heap:=h' }:=I.turned (t':=s.toks) (fun b o hb e=>(sb.2 b hb).trans e) f0 f1 f3 f4 f5
  obtain ⟨o,e,c,d⟩:=id st'
  exact⟨u,rfl,yw4 (s:={ s with heap:=h' }) e c d (by decide) ⟨x,H,I1,ru,⟨rfl,fun ys hy=>by rw[I.list_inj hy hq];exact hx⟩,st',fun b hb=>(hf b hb).1⟩⟩
 done:=by
  intro X hP hw hK hc i pins s σ H E I hf st hg
  subst hP hw hK
  obtain ⟨xs,hq,hx⟩:=hg
  obtain ⟨its,rv,p,hz⟩:=I.list hq
  obtain ⟨f0,f1,f2,f3,f4,f5⟩:=hf it (by simp)
  have hl:=rv.length
  exact wpAny_pyNext_list_end (I.ok.hd hc) st p.isList (by simp;omega) fun h' eb=>⟨rfl,I.turned (t':=s.toks) (fun b o hb e=>eb b o hb e) f0 f1 f3 f4 f5⟩
 self:=fun _ _ _ _ _ st h=>wpAny_pyIter_listiter st h
theorem ypz {P:Program}{w:World}{K:PySem.W.Frag}{tg:Expr}(it:Addr)(lo:Int)(n:Nat):Turn P w K tg (Itr lo n) [it] it (fun i h=>IsRangeIter h it (lo+(i:Nat)*1) ((n:Int)-(i:Nat)) 1) where
 mem:=by simp
 obj:=fun i h st b hb=>by
  have e:b=it:=by simpa using hb
  subst e
  exact⟨_,st,fun v z=>by
   have z':Data.fields _=Data.cell v:=z
   cases z'⟩
 keep:=fun i h h' st k=>k it (by simp) _ st
 item:=by
  intro X hP hw hK hc i pins s σ H E I hf st hg
  subst hP hw hK
  obtain ⟨f0,f1,f2,f3,f4,f5⟩:=hf it (by simp)
  have W:=Walks.range (prog:=X.prog) (w:=X.w) (I.ok.hd hc) it lo 1 n
  refine W.item i s _ _ hg st fun v h' tk hv st' kk=>?_
  obtain ⟨t,rfl⟩:=hv
  have I1:Inv X pins σ H { s with heap:=h',toks:=tk }:=I.turned (fun b o hb e=>kk b o (by simpa using hb) e) f0 f1 f3 f4 f5
  refine⟨_,rfl,yw4 (s:={ s with heap:=h',toks:=tk }) (n := "range_iterator") st' rfl rfl (by decide) ⟨.int (lo+i),H,I1,⟨t,?_⟩,⟨rfl,rfl⟩,st',fun b hb=>(hf b hb).1⟩⟩
  rw[Int.mul_one]
 done:=by
  intro X hP hw hK hc i pins s σ H E I hf st hg
  subst hP hw hK
  obtain ⟨f0,f1,f2,f3,f4,f5⟩:=hf it (by simp)
  exact wpAny_pyNext_range_end (I.ok.hd hc) st (by have:n≤i:=hg;omega) fun h' eb=>⟨rfl,I.turned (t':=s.toks) (fun b o hb e=>eb b o hb e) f0 f1 f3 f4 f5⟩
 self:=fun _ _ _ _ _ st h=>wpAny_pyIter_rangeiter st h
section
variable {X:Cx}{tg:Expr}
def yyx (K:PySem.W.Frag)(tl:TE):TI:=fun σ H R=>tl σ H fun x H1=>∃a,x = .ref a∧(∃xs,SqL K H1 a xs)∧R (Itl K a) H1
theorem ybd {l:Expr}{tl:TE}(hl:PE X l tl):PI X tg l (yyx X.K tl):=by
 refine⟨?_⟩
 intro pins s σ H R I h
 refine thn (hl pins s σ H _ I h) fun v s1 ⟨x,H1,I1,r1,q1⟩=>?_
 obtain ⟨a,e,⟨xs,hq⟩,q⟩:=q1
 subst e
 cases r1
 obtain ⟨its,rv,p,hz⟩:=I1.list hq
 refine wpAny_pyIter_list p.isList ?_
 refine⟨s1.heap.objs.size,[s1.heap.objs.size],_,_,H1,rfl,I1.kept (t':=s1.toks) fun b o e=>Heap.get?_push_of_some _ e,yrb a _,⟨_,Heap.get?_push_size _ rfl,rfl,rfl⟩,fun b hb=>?_,q⟩
 have e:b=s1.heap.objs.size:=by simpa using hb
 subst e
 exact I1.fpOk (Nat.le_refl _) (I1.hok.fresh (Nat.le_refl _))
theorem yuj {pins:List (Addr×Obj)}{σ:St}{H:Hp}{s:Shared}{R:It→Hp→Prop}{E:Value→Shared→Prop}{lo hi:Int}{t u v:Tok}{tk:Nat}(I:Inv X pins σ H s)(h1:-(2 ^ 62)≤lo)(h2:lo<2 ^ 62)(h3:-(2 ^ 62)≤hi)(h4:hi<2 ^ 62)
 (q:R (Itr lo (hi-lo).toNat) H):wpAny (model X.prog X.w) X.A (pyIter (.ref s.heap.objs.size)) (PIE X pins σ tg R) E { s with heap:=s.heap.push { cls:=.type "range",data:=.fields #[.int lo t,.int hi u,.int 1 v] },toks:=tk }:=by
 refine wpAny_pyIter_range (IsRange.new ..) (small_one h1 h2 h3 h4) ?_
 have I1:Inv X pins σ H { s with heap:=s.heap.push { cls:=.type "range",data:=.fields #[.int lo t,.int hi u,.int 1 v] },toks:=tk }:=I.kept fun b o e=>Heap.get?_push_of_some _ e
 refine⟨(s.heap.push { cls:=.type "range",data:=.fields #[.int lo t,.int hi u,.int 1 v] }).objs.size,[(s.heap.push { cls:=.type "range",data:=.fields #[.int lo t,.int hi u,.int 1 v] }).objs.size],_,_,H,rfl,
  I1.kept (t':=tk) fun b o e=>Heap.get?_push_of_some _ e,ypz _ lo (hi-lo).toNat,?_,fun b hb=>?_,q⟩
 ·have e1:lo+((0:Nat):Int)*1=lo:=by simp
  have e2:(((hi-lo).toNat:Nat):Int)-((0:Nat):Int)=Builtin.Range.rangeSize lo hi 1:=by rw[rangeSize_one];split <;> omega
  show IsRangeIter _ _ (lo+((0:Nat):Int)*1) ((((hi-lo).toNat:Nat):Int)-((0:Nat):Int)) 1
  rw[e1,e2]
  exact Heap.get?_push_size _ rfl
 ·have e:b=(s.heap.push { cls:=.type "range",data:=.fields #[.int lo t,.int hi u,.int 1 v] }).objs.size:=by simpa using hb
  subst e
  exact I1.fpOk (Nat.le_refl _) (I1.hok.fresh (Nat.le_refl _))
def zak (ta:TA):TI:=fun σ H R=>ta σ H fun vs H1=>∃j:Int,vs=[.int j]∧-(2 ^ 62)≤j∧j<2 ^ 62∧R (Itr 0 j.toNat) H1
theorem yhu {a:Expr}{ta:TA}{p pos:Pos} (hg:Gl X "range") (hm:X.mg "range" = none) (ha:PA X [a] ta) (hs:starEach [a] X.env=[(false,eval a X.env)]:=by rfl):PI X tg (.Call (.Name "range" p) [a] [] pos) (zak ta):=by
 refine⟨?_⟩
 intro pins s σ H R I h
 refine Call_ (yht I hg hm boot_range (PyProof.Rows.callWith_type1 (thn (ha pos pins s σ H _ I h) fun us s1 ⟨vs,H1,I1,r1,q1⟩=>?_) hs rfl))
 obtain ⟨j,e,q1,q2,q⟩:=q1
 subst e
 cases r1 with
 |cons r rr=>
  cases rr
  obtain ⟨t,rfl⟩:=r
  exact call_range_1 (yuj I1 (by omega) (by omega) q1 q2 (by simpa using q))
def zbm (wi:TI)(g:TG)(tb:TS):TS:=fun D σ H=>wi σ H fun J H1=>∃W:Nat→Nat→St→Hp→Prop,(∃m,W 0 m σ H1)∧∀i m σ H,W i m σ H→
 (J.stop i H∧D.nx σ H)∨(J.go i H∧∃N:St→Hp→Prop,(∀σ' H',N σ' H'→∃m',m' < m∧W (i+1) m' σ' H')∧∀x H',J.yld i H x H'→g x σ H' fun σ2 H2=>tb { D with nx:=N,ct:=N,bk:=D.nx } σ2 H2)
def yf0 (fp:List Addr)(h:Heap):List (Addr×Obj):=fp.filterMap fun b=>(h.get? b).map fun o=>(b,o)
theorem yba {fp:List Addr}{h:Heap}{b:Addr}{o:Obj}(hb:b∈fp)(e:h.get? b=some o):(b,o)∈yf0 fp h:=List.mem_filterMap.mpr ⟨b,hb,by rw[e];rfl⟩
theorem yrc {fp:List Addr}{h:Heap}{p:Addr×Obj}(hp:p∈yf0 fp h):p.1∈fp∧h.get? p.1=some p.2:=by
 obtain ⟨b,hb,e⟩:=List.mem_filterMap.mp hp
 cases q:h.get? b with
 |none=>rw[q] at e;cases e
 |some o=>
  rw[q] at e
  have e':(b,o)=p:=Option.some.inj e
  subst e'
  exact⟨hb,q⟩
theorem Inv.pinned {pins:List (Addr×Obj)}{σ:St}{H:Hp}{s:Shared}{fp:List Addr}(I:Inv X pins σ H s)(hf:∀b∈fp,ye8 X pins H b)(ho:∀b∈fp,∃o,s.heap.get? b=some o∧∀v,o.data≠.cell v):Inv X (pins++yf0 fp s.heap) σ H s:=
 I.pins_of fun p hp=>(List.mem_append.mp hp).elim (fun z=>I.pin p (List.mem_append_right _ z)) fun z=>by
  obtain ⟨hb,e⟩:=yrc z
  obtain ⟨f0,f1,f2,_⟩:=hf p.1 hb
  obtain ⟨o,e',d⟩:=ho p.1 hb
  rw[e] at e';cases e'
  exact⟨e,f0,f1,f2,d⟩
theorem Inv.unpinned {pins pl:List (Addr×Obj)}{σ:St}{H:Hp}{s:Shared}(I:Inv X (pins++pl) σ H s):Inv X pins σ H s:=I.pins_of fun p hp=>I.pin p (List.mem_append_right _ (List.mem_append_left _ hp))
theorem yei {iter:Expr}{body:List Stmt}{wi:TI}{g:TG}{tb:TS}{pos:Pos}(hp:PassesOwn (model X.prog X.w) X.A X.env X.xe)(hc:X.calm=true)(hi:PI X tg iter wi)(hg:PG X tg g)(hb:PSs X body tb)
 (hs:∀x,foldedSetIterable iter X.env x=pure x:=by intro _;rfl):PS X (.For tg iter body [] pos) (zbm wi g tb):=by
 refine⟨?_⟩
 intro pins s σ H D I h
 refine wpAny_For (thn (hi pins s σ H _ I h) fun v s1 h1=>thn h1 fun itv s2 h2=>?_) hs
 obtain ⟨it,fp,tn,J,H2,e,I2,T,st2,f2,W,⟨m0,w0⟩,turn⟩:=h2
 subst e
 have stat:∀{H':Hp},(∀b∈fp,H' b=none)→∀b∈fp,ye8 X pins H' b:=fun hn b hb=>⟨hn b hb,(f2 b hb).2⟩
 refine codeAny_forLoop_any (fun n s'=>∃i σ' H',Inv X pins σ' H' s'∧tn i s'.heap∧(∀b∈fp,H' b=none)∧W i n σ' H') ?_ m0 ⟨0,σ,H2,I2,st2,fun b hb=>(f2 b hb).1,w0⟩
 rintro n s3 ⟨i,σ3,H3,I3,st3,fr3,w3⟩
 rcases turn i n σ3 H3 w3 with ⟨stop,qn⟩ | ⟨go,N,hN,step⟩
 ·refine wpAny_passesOwn hp (thn (T.done X rfl rfl rfl hc i pins s3 σ3 H3 X.xe I3 (stat fr3) st3 stop) fun r s4 ⟨hr,I4⟩=>?_)
  subst hr
  exact wpAny_execs_nil ⟨σ3,H3,I4,qn⟩
 ·refine wpAny_passesOwn hp (thn (T.item X rfl rfl rfl hc i pins s3 σ3 H3 X.xe I3 (stat fr3) st3 go) fun r s4 ⟨u,hr,h4⟩=>?_)
  subst hr
  refine wpAny_passesOwn hp (thn h4 fun _ s5 ⟨x,H5,I5,r5,y5,st5,fr5⟩=>?_)
  have I5':=I5.pinned (stat fr5) (T.obj _ _ st5)
  refine wpAny_passesOwn hp (thn (hg _ s5 σ3 H5 x u _ I5' r5 (step x H5 y5)) fun _ s6 ⟨σ6,H6,I6,q6⟩=>?_)
  refine wpAny_passesOwn hp (thn (hb _ s6 σ6 H6 _ I6 q6) fun f s7 q7=>?_)
  have again:∀{σ7:St}{H7:Hp},Inv X (pins++yf0 fp s5.heap) σ7 H7 s7→N σ7 H7→∃m,m<n∧∃i σ' H',Inv X pins σ' H' s7∧tn i s7.heap∧(∀b∈fp,H' b=none)∧W i m σ' H':=fun {σ7 H7} I7 n7=>by
   obtain ⟨m',hm,w7⟩:=hN σ7 H7 n7
   refine⟨m',hm,i+1,σ7,H7,I7.unpinned,T.keep _ _ _ st5 fun b hb o e=>(I7.pin (b,o) (List.mem_append_right _ (List.mem_append_right _ (yba hb e)))).1,fun b hb=>?_,w7⟩
   obtain ⟨o,e,d⟩:=T.obj _ _ st5 b hb
   exact(I7.pin (b,o) (List.mem_append_right _ (List.mem_append_right _ (yba hb e)))).2.1
  cases f with
  |next=>obtain ⟨σ7,H7,I7,n7⟩:=q7;exact again I7 n7
  |cont=>obtain ⟨σ7,H7,I7,n7⟩:=q7;exact again I7 n7
  |brk=>obtain ⟨σ7,H7,I7,q7⟩:=q7;exact⟨σ7,H7,I7.unpinned,q7⟩
  |ret v=>obtain ⟨x7,σ7,H7,I7,r7,q7⟩:=q7;exact⟨x7,σ7,H7,I7.unpinned,r7,q7⟩
end
theorem yej {K:PySem.W.Frag}{a:Addr}{xs:List V}{g:TG}{tb:TS}{D:Ends}{σ:St}{H:Hp}(Pv:Nat→St→Hp→Prop)(h0:Pv 0 σ H)(hl:∀i σ H,i≤xs.length→Pv i σ H→SqL K H a xs)
 (hs:∀i x σ H,xs[i]? = some x→Pv i σ H→g x σ H fun σ2 H2=>tb { D with nx:=Pv (i+1),ct:=Pv (i+1),bk:=D.nx } σ2 H2) (hd:∀σ H,Pv xs.length σ H→D.nx σ H) :
 ∃W:Nat→Nat→St→Hp→Prop,(∃m,W 0 m σ H)∧∀i m σ H,W i m σ H→
  ((Itl K a).stop i H∧D.nx σ H)∨((Itl K a).go i H∧∃N:St→Hp→Prop,(∀σ' H',N σ' H'→∃m',m' < m∧W (i+1) m' σ' H')∧∀x H',(Itl K a).yld i H x H'→g x σ H' fun σ2 H2=>tb { D with nx:=N,ct:=N,bk:=D.nx } σ2 H2):=by
 refine⟨fun i m σ H=>m=xs.length-i∧i≤xs.length∧Pv i σ H,⟨xs.length,by simp,Nat.zero_le _,h0⟩,?_⟩
 rintro i m σ H ⟨rfl,hi,p⟩
 have q:=hl i σ H hi p
 by_cases hlt:i<xs.length
 ·refine .inr ⟨⟨xs,xs[i],q,by simp [hlt]⟩,Pv (i+1),fun σ' H' p'=>⟨xs.length-(i+1),by omega,rfl,hlt,p'⟩,fun x H' y=>?_⟩
  obtain ⟨e,y⟩:=y
  subst e
  exact hs i x σ _ (y xs q) p
 ·have e:i=xs.length:=by omega
  subst e
  exact .inl ⟨⟨xs,q,Nat.le_refl _⟩,hd σ H p⟩
theorem yhv {lo:Int}{n:Nat}{g:TG}{tb:TS}{D:Ends}{σ:St}{H:Hp}(Pv:Nat→St→Hp→Prop)(h0:Pv 0 σ H)
 (hs:∀i σ H,i<n→Pv i σ H→g (.int (lo+i)) σ H fun σ2 H2=>tb { D with nx:=Pv (i+1),ct:=Pv (i+1),bk:=D.nx } σ2 H2) (hd:∀σ H,Pv n σ H→D.nx σ H) :
 ∃W:Nat→Nat→St→Hp→Prop,(∃m,W 0 m σ H)∧∀i m σ H,W i m σ H→
  ((Itr lo n).stop i H∧D.nx σ H)∨((Itr lo n).go i H∧∃N:St→Hp→Prop,(∀σ' H',N σ' H'→∃m',m' < m∧W (i+1) m' σ' H')∧∀x H',(Itr lo n).yld i H x H'→g x σ H' fun σ2 H2=>tb { D with nx:=N,ct:=N,bk:=D.nx } σ2 H2):=by
 refine⟨fun i m σ H=>m=n-i∧i≤n∧Pv i σ H,⟨n,by simp,Nat.zero_le _,h0⟩,?_⟩
 rintro i m σ H ⟨rfl,hi,p⟩
 by_cases hlt:i<n
 ·refine .inr ⟨hlt,Pv (i+1),fun σ' H' p'=>⟨n-(i+1),by omega,rfl,hlt,p'⟩,fun x H' y=>?_⟩
  obtain ⟨e,y⟩:=y
  subst e y
  exact hs i σ _ hlt p
 ·have e:i=n:=by omega
  subst e
  exact .inl ⟨Nat.le_refl _,hd σ H p⟩
abbrev R2:=V→V→Hp→VK→Prop
def OpR (X:Cx)(f:Value→Value→Sem Value)(r:R2):Prop:=
 ∀(pins:List (Addr×Obj)) (s:Shared) (σ:St) (H:Hp) (x y:V) (v u:Value) (Q:VK),Inv X pins σ H s→RelV x v→RelV y u→r x y H Q→
  wpAny (model X.prog X.w) X.A (f v u) (EP X pins σ Q) X.xe s
def UnR (X:Cx)(f:Value→Sem Value)(r:V→Hp→VK→Prop):Prop:=
 ∀(pins:List (Addr×Obj)) (s:Shared) (σ:St) (H:Hp) (x:V) (v:Value) (Q:VK),Inv X pins σ H s→RelV x v→r x H Q→
  wpAny (model X.prog X.w) X.A (f v) (EP X pins σ Q) X.xe s
def yfa (X:Cx)(f:Value)(r:List V→Hp→VK→Prop):Prop:=
 ∀(pins:List (Addr×Obj)) (s:Shared) (σ:St) (H:Hp) (xs:List V) (us:List Value) (Q:VK),Inv X pins σ H s→Vals xs us→r xs H Q→
  wpAny (model X.prog X.w) X.A (call f us) (EP X pins σ Q) X.xe s
def zbn (X:Cx)(r:V→Hp→(Bool→Hp→Prop)→Prop):Prop:=
 ∀(pins:List (Addr×Obj)) (s:Shared) (σ:St) (H:Hp) (x:V) (v:Value) (Q:Bool→Hp→Prop),Inv X pins σ H s→RelV x v→r x H Q→
  wpAny (model X.prog X.w) X.A (truthy v) (TP X pins σ Q) X.xe s
def tOp (r:R2)(ta tb:TE):TE:=fun σ H Q=>ta σ H fun x H1=>tb σ H1 fun y H2=>r x y H2 Q
def tUn (r:V→Hp→VK→Prop)(ta:TE):TE:=fun σ H Q=>ta σ H fun x H1=>r x H1 Q
def rI (C:Int→Int→Prop)(g:Int→Int→V):R2:=fun x y H Q=>∃i j,x = .int i∧y = .int j∧C i j∧Q (g i j) H
def rI0 (g:Int→Int→V):R2:=fun x y H Q=>∃i j,x = .int i∧y = .int j∧Q (g i j) H
def rU (g:Int→V):V→Hp→VK→Prop:=fun x H Q=>∃i,x = .int i∧Q (g i) H
section
variable {X:Cx}{a b c:Expr}{ta tb tc:TE}{pos:Pos}
theorem zal (ha:PE X a ta)(hb:PE X b tb){pins:List (Addr×Obj)}{s:Shared}{σ:St}{H:Hp}{R:V→V→Hp→Prop}(I:Inv X pins σ H s)
 (h:ta σ H fun x H1=>tb σ H1 fun y H2=>R x y H2) {Q:Value→Shared→Prop}{f:Value→Value→Sem Value}
 (hf:∀v u s2 x y H2,Inv X pins σ H2 s2→RelV x v→RelV y u→R x y H2→wpAny (model X.prog X.w) X.A (f v u) Q X.xe s2) :
 wpAny (model X.prog X.w) X.A (eval a X.env) (fun v s₁=>wpAny (model X.prog X.w) X.A (eval b X.env) (fun u s₂=>wpAny (model X.prog X.w) X.A (f v u) Q X.xe s₂) X.xe s₁) X.xe s:=by
 refine thn (ha pins s σ H _ I h) fun v s1 ⟨x,H1,I1,r1,q1⟩=>?_
 refine thn (hb pins s1 σ H1 _ I1 q1) fun u s2 ⟨y,H2,I2,r2,q2⟩=>?_
 exact hf v u s2 x y H2 I2 r1 r2 q2
theorem yb1 {op:Operator}{r:R2}(ho:OpR X (binaryOp op) r)(ha:PE X a ta)(hb:PE X b tb):PE X (.BinOp a op b pos) (tOp r ta tb):=by
 refine⟨?_⟩
 intro pins s σ H Q I h
 exact wpAny_BinOp (zal ha hb I h fun v u s2 x y H2 I2 rx ry q=>ho pins s2 σ H2 x y v u Q I2 rx ry q)
theorem zam {op:UnaryOp}{r:V→Hp→VK→Prop}(ho:UnR X (unaryOp op) r)(ha:PE X a ta):PE X (.UnaryOp op a pos) (tUn r ta):=by
 refine⟨?_⟩
 intro pins s σ H Q I h
 exact UnaryOp_ (thn (ha pins s σ H _ I h) fun v s1 ⟨x,H1,I1,r1,q1⟩=>ho pins s1 σ H1 x v Q I1 r1 q1)
theorem opI {f:Value→Value→Sem Value}{C:Int→Int→Prop}{g:Int→Int→Int}
 (rule:∀(i j:Int) (t u:Tok) (s:Shared) (Q:Value→Shared→Prop) (E:Value→Shared→Prop),C i j→Q (.int (g i j) s.toks) { s with toks:=s.toks+1 }→wpAny (model X.prog X.w) X.A (f (.int i t) (.int j u)) Q E s) :
 OpR X f (rI C fun i j=>.int (g i j)):=by
 intro pins s σ H x y v u Q I rx ry h
 obtain ⟨i,j,rfl,rfl,hc,q⟩:=h
 obtain ⟨t,rfl⟩:=rx
 obtain ⟨t',rfl⟩:=ry
 exact rule i j t t' s _ _ hc ⟨.int (g i j),H,I.tok _,⟨_,rfl⟩,q⟩
theorem za8 {f:Value→Value→Sem Value}{g:Int→Int→Int}
 (rule:∀(i j:Int) (t u:Tok) (s:Shared) (Q:Value→Shared→Prop) (E:Value→Shared→Prop),Q (.int (g i j) s.toks) { s with toks:=s.toks+1 }→wpAny (model X.prog X.w) X.A (f (.int i t) (.int j u)) Q E s) :
 OpR X f (rI0 fun i j=>.int (g i j)):=by
 intro pins s σ H x y v u Q I rx ry h
 obtain ⟨i,j,rfl,rfl,q⟩:=h
 obtain ⟨t,rfl⟩:=rx
 obtain ⟨t',rfl⟩:=ry
 exact rule i j t t' s _ _ ⟨.int (g i j),H,I.tok _,⟨_,rfl⟩,q⟩
theorem yz9 {f:Value→Value→Sem Value}{g:Int→Int→Bool}
 (rule:∀(i j:Int) (t u:Tok) (s:Shared) (Q:Value→Shared→Prop) (E:Value→Shared→Prop),Q (.bool (g i j)) s→wpAny (model X.prog X.w) X.A (f (.int i t) (.int j u)) Q E s) :
 OpR X f (rI0 fun i j=>.bl (g i j)):=by
 intro pins s σ H x y v u Q I rx ry h
 obtain ⟨i,j,rfl,rfl,q⟩:=h
 obtain ⟨t,rfl⟩:=rx
 obtain ⟨t',rfl⟩:=ry
 exact rule i j t t' s _ _ ⟨.bl (g i j),H,I,rfl,q⟩
def zbo (i j:Int):Prop:=0≤j∧j≤1000000∧i.natAbs<2 ^ 64
def CMul (i j:Int):Prop:=(-(2 ^ 64)<i∧i<2 ^ 64)∨(-(2 ^ 64)<j∧j<2 ^ 64)
theorem CMul.ok {i j:Int}(h:CMul i j):IntMulOk i j:=by
 rcases h with ⟨h1,h2⟩ | ⟨h1,h2⟩
 ·exact .of_left (intBits_le_64 h1 h2)
 ·exact .of_right (intBits_le_64 h1 h2)
theorem ydx:OpR X (binaryOp .Add) (rI0 fun i j=>.int (i+j)):=za8 fun _ _ _ _ _ _ _ q=>add_int q
theorem yjm:OpR X (binaryOp .Sub) (rI0 fun i j=>.int (i-j)):=za8 fun _ _ _ _ _ _ _ q=>sub_int q
theorem yyy:OpR X (binaryOp .Mult) (rI CMul fun i j=>.int (i*j)):=opI fun _ _ _ _ _ _ _ hc q=>mul_int q hc.ok
theorem yoo:OpR X (binaryOp .Mod) (rI (fun _ j=>0<j) fun i j=>.int (i % j)):=opI fun i j _ _ _ _ _ hc q=>by
 have h1:(0:Int)<j:=hc
 exact mod_int' (by omega) (by rw[Int.fmod_eq_emod_of_nonneg i (by omega)];exact q)
theorem yop:OpR X (binaryOp .Pow) (rI zbo fun i j=>.int (i ^ j.toNat)):=opI fun _ _ _ _ _ _ _ hc q=>pow_int_small hc.1 hc.2.1 hc.2.2 q
theorem unI {f:Value→Sem Value}{g:Int→Int}
 (rule:∀(i:Int) (t:Tok) (s:Shared) (Q:Value→Shared→Prop) (E:Value→Shared→Prop),Q (.int (g i) s.toks) { s with toks:=s.toks+1 }→wpAny (model X.prog X.w) X.A (f (.int i t)) Q E s) :
 UnR X f (rU fun i=>.int (g i)):=by
 intro pins s σ H x v Q I rx h
 obtain ⟨i,rfl,q⟩:=h
 obtain ⟨t,rfl⟩:=rx
 exact rule i t s _ _ ⟨.int (g i),H,I.tok _,⟨_,rfl⟩,q⟩
theorem yyz:UnR X (unaryOp .USub) (rU fun i=>.int (-i)):=unI fun _ _ _ _ _ q=>neg_int q
end
def za9:V→V→Bool
 |.non,.non=>true | .non,.int _=>true | .int _,.non=>true | .non,.bl _=>true | .bl _,.non=>true | .non,.str _=>true | .str _,.non=>true
 |.int _,.int _=>true | .bl _,.bl _=>true | .str _,.str _=>true | .byt _,.byt _=>true
 |.int _,.str _=>true | .str _,.int _=>true | .bl _,.str _=>true | .str _,.bl _=>true
 |_,_=>false
def rEq:R2:=fun x y H Q=>za9 x y=true∧Q (.bl (decide (x=y))) H
def rNe:R2:=fun x y H Q=>za9 x y=true∧Q (.bl (!decide (x=y))) H
theorem yrd {i j:Int}:decide (V.int i=V.int j)=(i == j):=by
 rw[Bool.eq_iff_iff]
 simp
theorem ywd {i j:Bool}:decide (V.bl i=V.bl j)=(i == j):=by
 rw[Bool.eq_iff_iff]
 simp
theorem yre {i j:Str}:decide (V.str i=V.str j)=(i == j):=by
 rw[Bool.eq_iff_iff]
 simp
theorem yrf {i j:Array UInt8}:decide (V.byt i=V.byt j)=(i.toList == j.toList):=by
 rw[Bool.eq_iff_iff]
 cases i
 cases j
 simp
section
variable {X:Cx}{a b c:Expr}{ta tb tc:TE}{pos:Pos}
theorem ybl {pins:List (Addr×Obj)}{σ:St}{H:Hp}{s:Shared}{Q:VK}{k k':Bool}(I:Inv X pins σ H s)(q:Q (.bl k) H)(e:k=k'):EP X pins σ Q (.bool k') s:=by
 subst e
 exact⟨.bl k,H,I,rfl,q⟩
theorem yuk:OpR X (compareOp .Eq) rEq:=by
 intro pins s σ H x y v u Q I rx ry h
 obtain ⟨hs,q⟩:=h
 cases x with
 |non=>
  cases rx
  cases y with
  |non=>cases ry;exact PySem.EqNone.eq_none_none (ybl I q (by simp))
  |bl j=>cases ry;exact PySem.EqNone.eq_none_bool (ybl I q (by simp))
  |int j=>obtain ⟨t',rfl⟩:=ry;exact PySem.EqNone.eq_none_int (ybl I q (by simp))
  |str j=>obtain ⟨t',rfl⟩:=ry;exact PySem.EqNone.eq_none_str (ybl I q (by simp))
  |_=>exact absurd (show false=true from hs) Bool.false_ne_true
 |bl i=>
  cases rx
  cases y with
  |non=>cases ry;exact PySem.EqNone.eq_bool_none (ybl I q (by simp))
  |bl j=>cases ry;exact eq_bool (ybl I q ywd)
  |str j=>obtain ⟨t',rfl⟩:=ry;exact PySem.EqMixed.eq_bool_str (ybl I q (by simp))
  |_=>exact absurd (show false=true from hs) Bool.false_ne_true
 |int i=>
  obtain ⟨t,rfl⟩:=rx
  cases y with
  |non=>cases ry;exact PySem.EqNone.eq_int_none (ybl I q (by simp))
  |int j=>obtain ⟨t',rfl⟩:=ry;exact eq_int (ybl I q yrd)
  |str j=>obtain ⟨t',rfl⟩:=ry;exact PySem.EqMixed.eq_int_str (ybl I q (by simp))
  |_=>exact absurd (show false=true from hs) Bool.false_ne_true
 |str i=>
  obtain ⟨t,rfl⟩:=rx
  cases y with
  |non=>cases ry;exact PySem.EqNone.eq_str_none (ybl I q (by simp))
  |bl j=>cases ry;exact PySem.EqMixed.eq_str_bool (ybl I q (by simp))
  |int j=>obtain ⟨t',rfl⟩:=ry;exact PySem.EqMixed.eq_str_int (ybl I q (by simp))
  |str j=>obtain ⟨t',rfl⟩:=ry;exact eq_str (ybl I q yre)
  |_=>exact absurd (show false=true from hs) Bool.false_ne_true
 |byt i=>
  obtain ⟨t,rfl⟩:=rx
  cases y with
  |byt j=>obtain ⟨t',rfl⟩:=ry;exact PySem.W.eq_bytes (ybl I q yrf)
  |_=>exact absurd (show false=true from hs) Bool.false_ne_true
 |_=>cases y <;> exact absurd (show false=true from hs) Bool.false_ne_true
theorem yrg:OpR X (compareOp .NotEq) rNe:=by
 intro pins s σ H x y v u Q I rx ry h
 obtain ⟨hs,q⟩:=h
 cases x with
 |non=>
  cases rx
  cases y with
  |non=>cases ry;exact PySem.EqNone.ne_none_none (ybl I q (by simp))
  |bl j=>cases ry;exact PySem.EqNone.ne_none_bool (ybl I q (by simp))
  |int j=>obtain ⟨t',rfl⟩:=ry;exact PySem.EqNone.ne_none_int (ybl I q (by simp))
  |str j=>obtain ⟨t',rfl⟩:=ry;exact PySem.EqNone.ne_none_str (ybl I q (by simp))
  |_=>exact absurd (show false=true from hs) Bool.false_ne_true
 |bl i=>
  cases rx
  cases y with
  |non=>cases ry;exact PySem.EqNone.ne_bool_none (ybl I q (by simp))
  |bl j=>cases ry;exact ne_bool (ybl I q (congrArg not ywd))
  |str j=>obtain ⟨t',rfl⟩:=ry;exact PySem.EqMixed.ne_bool_str (ybl I q (by simp))
  |_=>exact absurd (show false=true from hs) Bool.false_ne_true
 |int i=>
  obtain ⟨t,rfl⟩:=rx
  cases y with
  |non=>cases ry;exact PySem.EqNone.ne_int_none (ybl I q (by simp))
  |int j=>obtain ⟨t',rfl⟩:=ry;exact ne_int (ybl I q (congrArg not yrd))
  |str j=>obtain ⟨t',rfl⟩:=ry;exact PySem.EqMixed.ne_int_str (ybl I q (by simp))
  |_=>exact absurd (show false=true from hs) Bool.false_ne_true
 |str i=>
  obtain ⟨t,rfl⟩:=rx
  cases y with
  |non=>cases ry;exact PySem.EqNone.ne_str_none (ybl I q (by simp))
  |bl j=>cases ry;exact PySem.EqMixed.ne_str_bool (ybl I q (by simp))
  |int j=>obtain ⟨t',rfl⟩:=ry;exact PySem.EqMixed.ne_str_int (ybl I q (by simp))
  |str j=>obtain ⟨t',rfl⟩:=ry;exact ne_str (ybl I q (congrArg not yre))
  |_=>exact absurd (show false=true from hs) Bool.false_ne_true
 |byt i=>
  obtain ⟨t,rfl⟩:=rx
  cases y with
  |byt j=>obtain ⟨t',rfl⟩:=ry;exact PySem.W.ne_bytes (ybl I q (congrArg not yrf))
  |_=>exact absurd (show false=true from hs) Bool.false_ne_true
 |_=>cases y <;> exact absurd (show false=true from hs) Bool.false_ne_true
theorem yi6:OpR X (compareOp .Lt) (rI0 fun i j=>.bl (decide (i<j))):=yz9 fun _ _ _ _ _ _ _ q=>lt_int q
theorem yd7:OpR X (compareOp .LtE) (rI0 fun i j=>.bl (decide (i≤j))):=yz9 fun _ _ _ _ _ _ _ q=>le_int q
theorem yw5:OpR X (compareOp .Gt) (rI0 fun i j=>.bl (decide (j<i))):=yz9 fun _ _ _ _ _ _ _ q=>gt_int q
theorem yw6:OpR X (compareOp .GtE) (rI0 fun i j=>.bl (decide (j≤i))):=yz9 fun _ _ _ _ _ _ _ q=>ge_int q
theorem ywe:OpR X (compareOp .Is) (fun x y H Q=>y = .non∧Q (.bl (decide (x = .non))) H):=by
 intro pins s σ H x y v u Q I rx ry h
 obtain ⟨rfl,q⟩:=h
 cases ry
 refine is_none_gen (ybl I q ?_)
 cases x <;> first
  |(cases rx;rfl)
  |(obtain ⟨t,rfl⟩:=rx;rfl)
theorem ybs (b:Expr){op:CmpOp}(h:op≠.In:=by decide)(h2:op≠.NotIn:=by decide):behindInMarks op b=false:=by
 have e1:(op == CmpOp.In)=false:=by cases op <;> first|rfl|exact absurd rfl h
 have e2:(op == CmpOp.NotIn)=false:=by cases op <;> first|rfl|exact absurd rfl h2
 cases b <;> simp [behindInMarks,e1,e2]
theorem ygq {op:CmpOp}{r:R2}(ho:OpR X (compareOp op) r)(ha:PE X a ta)(hb:PE X b tb)(hm:behindInMarks op b=false):PE X (.Compare a [op] [b] pos) (tOp r ta tb):=by
 refine⟨?_⟩
 intro pins s σ H Q I h
 exact wpAny_Compare1 (zal ha hb I h fun v u s2 x y H2 I2 rx ry q=>ho pins s2 σ H2 x y v u Q I2 rx ry q) hm
def yrh (t:TE):TT:=fun σ H Q=>t σ H fun x H'=>∃k,x = .bl k∧Q k H'
theorem ybm {op:CmpOp}{r:R2}(ho:OpR X (compareOp op) r)(ha:PE X a ta)(hb:PE X b tb)(hm:behindInMarks op b=false):PT X (.Compare a [op] [b] pos) (yrh (tOp r ta tb)):=by
 refine⟨?_⟩
 intro pins s σ H Q I h
 refine wpAny_isTrue_Compare1 (thn (ha pins s σ H _ I h) fun v s1 ⟨x,H1,I1,r1,q1⟩=>thn (hb pins s1 σ H1 _ I1 q1) fun u s2 ⟨y,H2,I2,r2,q2⟩=>
  thn (ho pins s2 σ H2 x y v u _ I2 r1 r2 q2) fun c s3 ⟨z,H3,I3,r3,k,e,q3⟩=>?_) hm
 subst e
 cases r3
 exact wpAny_truthy_bool ⟨H3,I3,q3⟩
def yoq (r r':R2)(ta tb tc:TE):TE:=fun σ H Q=>ta σ H fun x H1=>tb σ H1 fun y H2=>r x y H2 fun z H3=>∃k,z = .bl k∧
 (if k=true then tc σ H3 fun w' H4=>r' y w' H4 Q else Q (.bl false) H3)
theorem yor {op op':CmpOp}{r r':R2}(ho:OpR X (compareOp op) r)(ho':OpR X (compareOp op') r')(ha:PE X a ta)(hb:PE X b tb)(hc:PE X c tc)
 (hm:lastMarks [op,op'] [b,c]=false:=by with_unfolding_all rfl):PE X (.Compare a [op,op'] [b,c] pos) (yoq r r' ta tb tc):=by
 refine⟨?_⟩
 intro pins s σ H Q I h
 refine Compare_chain (thn (ha pins s σ H _ I h) fun v s1 ⟨x,H1,I1,r1,q1⟩=>chain_link (thn (hb pins s1 σ H1 _ I1 q1) fun u s2 ⟨y,H2,I2,r2,q2⟩=>
  thn (ho pins s2 σ H2 x y v u _ I2 r1 r2 q2) fun d s3 ⟨z,H3,I3,r3,k,e,q3⟩=>?_)) hm
 subst e
 cases r3
 refine wpAny_truthy_bool ?_
 cases k with
 |false=>exact ite_ff ⟨.bl false,H3,I3,rfl,q3⟩
 |true=>exact ite_tt (chain_last (thn (hc pins s3 σ H3 _ I3 q3) fun w' s4 ⟨z',H4,I4,r4,q4⟩=>ho' pins s4 σ H4 y z' u w' Q I4 r2 r4 q4))
theorem ydj {op op':CmpOp}{r r':R2}(ho:OpR X (compareOp op) r)(ho':OpR X (compareOp op') r')(ha:PE X a ta)(hb:PE X b tb)(hc:PE X c tc)
 (hm:lastMarks [op,op'] [b,c]=false:=by with_unfolding_all rfl):PT X (.Compare a [op,op'] [b,c] pos) (yrh (yoq r r' ta tb tc)):=by
 refine⟨?_⟩
 intro pins s σ H Q I h
 refine isTrue_chain (thn (ha pins s σ H _ I h) fun v s1 ⟨x,H1,I1,r1,q1⟩=>test_link (thn (hb pins s1 σ H1 _ I1 q1) fun u s2 ⟨y,H2,I2,r2,q2⟩=>
  thn (ho pins s2 σ H2 x y v u _ I2 r1 r2 q2) fun d s3 ⟨z,H3,I3,r3,k,e,q3⟩=>?_)) hm
 subst e
 cases r3
 refine wpAny_truthy_bool ?_
 cases k with
 |false=>
  obtain ⟨k',e',q'⟩:=q3
  cases e'
  exact ite_ff ⟨H3,I3,q'⟩
 |true=>
  refine ite_tt (test_last (thn (hc pins s3 σ H3 _ I3 q3) fun w' s4 ⟨z',H4,I4,r4,q4⟩=>thn (ho' pins s4 σ H4 y z' u w' _ I4 r2 r4 q4) fun d' s5 ⟨z2,H5,I5,r5,k2,e2,q5⟩=>?_))
  subst e2
  cases r5
  exact wpAny_truthy_bool ⟨H5,I5,q5⟩
def zan (K:PySem.W.Frag)(x:V)(H:Hp)(k:Bool):Prop:=
 match x with
 |.non=>k=false
 |.bl b=>k=b
 |.int i=>k=(i != 0)
 |.str y=>y.length≤sizeLine∧k=((y.length:Int) != 0)
 |.byt y=>y.size≤sizeLine∧k=((y.size:Int) != 0)
 |.ref p=>(∃xs,SqL K H p xs∧k = !xs.isEmpty)∨(∃xs,SqT K H p xs∧k = !xs.isEmpty)∨∃kvs,H p=some (.dK kvs)∧k = !kvs.isEmpty
 |_=>False
theorem yp0 {κ:Type}{kvs:List (κ×V)}{vs:List (κ×Value)}(r:KV kvs vs):(!vs.isEmpty) = !kvs.isEmpty:=by
 cases r <;> rfl
theorem yjn {xs:List V}{its:List Value}(r:Vals xs its):(!its.toArray.isEmpty) = !xs.isEmpty:=by
 cases r <;> simp
theorem yjo:(sizeLine:Nat)<2 ^ 63:=by rw[sizeLine_eq];decide
theorem yy0:zbn X (fun x H Q=>∃k,zan X.K x H k∧Q k H):=by
 intro pins s σ H x v Q I rx h
 obtain ⟨k,e,q⟩:=h
 have hl:=yjo
 have hs:sizeLine=16777216:=sizeLine_eq
 cases x with
 |non=>
  cases rx
  have e':k=false:=e
  subst e'
  exact truthy_none ⟨H,I,q⟩
 |bl b=>
  cases rx
  have e':k=b:=e
  subst e'
  exact wpAny_truthy_bool ⟨H,I,q⟩
 |int i=>
  obtain ⟨t,rfl⟩:=rx
  have e':k=(i != 0):=e
  subst e'
  exact PySem.P.truthy_int ⟨H,I,q⟩
 |str y=>
  obtain ⟨t,rfl⟩:=rx
  obtain ⟨hy,e'⟩ : y.length≤sizeLine∧k=((y.length:Int) != 0):=e
  subst e'
  exact PySem.P.truthy_str (by omega) ⟨H,I.tok _,q⟩
 |byt y=>
  obtain ⟨t,rfl⟩:=rx
  obtain ⟨hy,e'⟩ : y.size≤sizeLine∧k=((y.size:Int) != 0):=e
  subst e'
  exact PySem.W.truthy_bytes (by omega) ⟨H,I.tok _,q⟩
 |ref p=>
  cases rx
  have e':(∃xs,SqL X.K H p xs∧k = !xs.isEmpty)∨(∃xs,SqT X.K H p xs∧k = !xs.isEmpty)∨∃kvs,H p=some (.dK kvs)∧k = !kvs.isEmpty:=e
  rcases e' with ⟨xs,hx,e'⟩ | ⟨xs,hx,e'⟩ | ⟨kvs,hx,e'⟩
  ·subst e'
   obtain ⟨its,r,pl,hz⟩:=I.list hx
   have hlen:=r.length
   exact wpAny_truthy_list pl.isList (by simp only[List.size_toArray];omega) ⟨H,I.tok _,by rw[yjn r];exact q⟩
  ·subst e'
   obtain ⟨its,r,pl,hz⟩:=I.tuple hx
   have hlen:=r.length
   exact truthy_tuple pl (by simp only[List.size_toArray];omega) ⟨H,I.tok _,by rw[yjn r];exact q⟩
  ·subst e'
   obtain ⟨hz,hS,vs,r,m⟩ : kvs.length≤sizeLine∧(p == sysModules)=false∧∃vs,KV kvs vs∧s.heap.DictOf (ybq X.prog X.w) p vs:=I.hok p _ hx
   have hlen:kvs.length=vs.length:=Paired.length r
   exact wpAny_truthy_dict hS m (by omega) ⟨H,I.tok _,by rw[yp0 r];exact q⟩
 |_=>exact(show False from e).elim
theorem yek (ha:PE X a ta)(he:∀whole,isTrue a X.env whole=(do let v ← whole;standAt a.pos;holding [v] (truthy v))) :
 PT X a (fun σ H Q=>ta σ H fun x H'=>∃k,zan X.K x H' k∧Q k H'):=by
 refine⟨?_⟩
 intro pins s σ H Q I h
 exact isTrue_plain (thn (ha pins s σ H _ I h) fun v s1 ⟨x,H1,I1,r1,q1⟩=>yy0 pins s1 σ H1 x v Q I1 r1 q1) (he _)
theorem yy1 {x:V}{us:List Value}(r:Vals [x] us):∃u,us=[u]∧RelV x u:=by
 cases r with
 |cons r1 r2=>cases r2;exact⟨_,rfl,r1⟩
theorem yy2 {x y:V}{us:List Value}(r:Vals [x,y] us):∃u w',us=[u,w']∧RelV x u∧RelV y w':=by
 cases r with
 |cons r1 r2=>
  cases r2 with
  |cons r3 r4=>cases r4;exact⟨_,_,rfl,r1,r3⟩
theorem yri (hc:X.calm=true):yfa X (.builtin "max") (fun xs H Q=>∃i j,xs=[.int i,.int j]∧Q (.int (if j > i then j else i)) H):=by
 intro pins s σ H xs us Q I r h
 obtain ⟨i,j,rfl,q⟩:=h
 obtain ⟨u,w',rfl,⟨t,rfl⟩,⟨t',rfl⟩⟩:=yy2 r
 refine max_two_ints (I.ok.hd hc) fun h' tk k=>⟨_,H,I.kept k,?_,q⟩
 by_cases hj:j > i
 ·rw[if_pos hj,if_pos hj];exact⟨_,rfl⟩
 ·rw[if_neg hj,if_neg hj];exact⟨_,rfl⟩
theorem yrj (hc:X.calm=true):yfa X (.builtin "min") (fun xs H Q=>∃i j,xs=[.int i,.int j]∧Q (.int (if j<i then j else i)) H):=by
 intro pins s σ H xs us Q I r h
 obtain ⟨i,j,rfl,q⟩:=h
 obtain ⟨u,w',rfl,⟨t,rfl⟩,⟨t',rfl⟩⟩:=yy2 r
 refine min_two_ints (I.ok.hd hc) fun h' tk k=>⟨_,H,I.kept k,?_,q⟩
 by_cases hj:j<i
 ·rw[if_pos hj,if_pos hj];exact⟨_,rfl⟩
 ·rw[if_neg hj,if_neg hj];exact⟨_,rfl⟩
end
structure ObjM (h:Heap) (x dx C:Addr) (mA:Str→Option Value):Prop where
 obj:h.get? x=some (PySem.W.instObj C dx)
 ns:h.Ns1 dx mA
 ne:dx≠x
theorem yrk {h:Heap}{dx:Addr}{mA:Str→Option Value}(n:h.Ns1 dx mA):∃od,h.get? dx=some od∧∀name,PySem.W.lookIn name od=some (mA name):=by
 obtain ⟨o,es,ep,ho,hd,hk,_,hm⟩:=n
 refine⟨o,ho,fun name=>?_⟩
 have e:=hm name
 unfold nsFind findBy at e
 rw[← Array.find?_toList] at e
 unfold PySem.W.lookIn
 rw[hd]
 dsimp only
 split
 ·rename_i y q
  rw[q] at e
  exact congrArg some e
 ·rename_i q
  rw[q] at e
  have a:es.toList.any (·.refKey)=false:=by
   rw[List.any_eq_false]
   intro y hy
   obtain ⟨z,t,hkey⟩:=hk y (Array.mem_toList_iff.mp hy)
   simp [DictEntry.refKey,hkey]
  have a':¬ es.toList.any (·.refKey)=true:=by rw[a];exact Bool.false_ne_true
  rw[if_neg a']
  exact congrArg some e
theorem ObjM.look {h:Heap}{x dx C:Addr}{mA:Str→Option Value}(I:ObjM h x dx C mA):∃od,PySem.W.InstAt h x (PySem.W.instObj C dx) C (some od)∧∀name,PySem.W.lookIn name od=some (mA name):=
 let ⟨od,ho,hl⟩:=yrk I.ns
 ⟨od,⟨I.obj,rfl,rfl,ho⟩,hl⟩
section
variable {prog:Program}{w:World}{A:Around}{E:Value→Shared→Prop}{s:Shared}{K:PySem.W.Frag}{x dx C f:Addr}{mA:Str→Option Value}{name:Str}{v:Value}
end
section
variable {P:Program}{w:World}{H H':Hp}{h h':Heap}{a C dx:Addr}{fs fs':List (Str×V)}
theorem yrl (hok:HOk P w H h)(e:H a=some (.ins C dx fs)):∃mA,ObjM h a dx C mA∧(∀f,RelO (fs.lookup f) (mA f))∧PySem.Within mA (fs.map (·.1))∧fs.length≤1000∧H dx=some (.own a):=by
 obtain ⟨d,z,ne,ob,mA,n,r,q⟩:=(show ObjOk P w H h a (.ins C dx fs) from hok a _ e)
 exact⟨mA,⟨ob,n,ne⟩,r,q,z,d⟩
end
structure Cls (K:PySem.W.Frag) (C:Addr):Prop where
 pg:PySem.W.plainGet K C Str.empty=true
 hd:PySem.W.hasDictIn K C=true
 po:PySem.W.plainOver K C=true
 sa:PySem.W.findIn K (.ref C) "__setattr__" = some (some (.builtin "object.__setattr__"))
theorem Cls.get {K:PySem.W.Frag}{C:Addr}(c:Cls K C)(f:Str):PySem.W.plainGet K C f=true:=c.pg
section
variable {X:Cx}{pins:List (Addr×Obj)}{σ:St}{H:Hp}{s:Shared}{a C dx:Addr}{fs:List (Str×V)}{f:Str}{v:V}{A:Around}{E:Value→Shared→Prop}
end
section
variable {X:Cx}{o e value:Expr}{f:Str}{pos pos' tpos:Pos}{ta tv:TE}
end
section
variable {X:Cx}{pins:List (Addr×Obj)}{σ:St}{H:Hp}{s:Shared}{A:Around}{E:Value→Shared→Prop}{Q:Value→Shared→Prop}{c:Value}{b:Bool}
inductive TyOf (K:PySem.W.Frag) (H:Hp):V→Value→Prop where
 |non:TyOf K H .non (.type "NoneType")
 |bl (x:Bool):TyOf K H (.bl x) (.type "bool")
 |int (i:Int):TyOf K H (.int i) (.type "int")
 |str (x:Str):TyOf K H (.str x) (.type "str")
 |flt (x:UInt64):TyOf K H (.flt x) (.type "float")
 |lst {a:Addr}{xs:List V} (e:H a=some (.lst xs)):TyOf K H (.ref a) (.type "list")
 |frz {a:Addr}{o:Obj}{xs:List V} (e:H a=some (.frz o (.lst xs))):TyOf K H (.ref a) (.type "list")
 |tup {a:Addr}{xs:List V} (e:H a=some (.tup xs)):TyOf K H (.ref a) (.type "tuple")
 |dK {a:Addr}{kvs:List (Key×V)} (e:H a=some (.dK kvs)):TyOf K H (.ref a) (.type "dict")
 |dT {a:Addr}{kvs:List (List Key×V)} (e:H a=some (.dT kvs)):TyOf K H (.ref a) (.type "dict")
 |ins {a C dx:Addr}{fs:List (Str×V)} (e:H a=some (.ins C dx fs)) (cl:Cls K C) (ha:PySem.W.findIn K (.ref C) "__class__" = some (some (.builtin "object.__class__")))
  (hn:PySem.W.specialIn K (.builtin "object.__class__") "__get__" = some (some (.builtin "getset_descriptor.__get__"))) (htk:PySem.W.takesIn K (.builtin "object.__class__")=some true)
  (hm:PySem.W.mroIn K C (.type "object")=some true):TyOf K H (.ref a) (.ref C)
theorem yrm {x:V}{u t:Value}(I:Inv X pins σ H s)(rx:RelV x u)(ty:TyOf X.K H x t)(e:PySem.W.kitOne X.K t c=some b)(h:∀tk,Q (.bool b) { s with toks:=tk }) :
 wpAny (model X.prog X.w) A (call (.builtin "isinstance") [u,c]) Q E s:=by
 cases ty with
 |non=>cases (show u=Value.none from rx);exact PySem.W.kia_one PySem.W.kitx_none I.kIn True.intro e (fun z=>nomatch z) h
 |bl y=>cases (show u=Value.bool y from rx);exact PySem.W.kia_one PySem.W.kitx_bool I.kIn True.intro e (fun z=>nomatch z) h
 |int i=>obtain ⟨t,q⟩:=(show ∃t,u=Value.int i t from rx);cases q;exact PySem.W.kia_one PySem.W.kitx_int I.kIn True.intro e (fun z=>nomatch z) h
 |str y=>obtain ⟨t,q⟩:=(show ∃t,u=Value.str y t from rx);cases q;exact PySem.W.kia_one PySem.W.kitx_str I.kIn True.intro e (fun z=>nomatch z) h
 |flt y=>obtain ⟨t,q⟩:=(show ∃t,u=Value.float y t from rx);cases q;exact PySem.W.kia_one PySem.W.kitx_float I.kIn True.intro e (fun z=>nomatch z) h
 |@lst a xs ea=>
  cases (show u=Value.ref a from rx)
  obtain ⟨_,_,n,_,h1⟩:=(show ObjOk X.prog X.w H s.heap a (.lst xs) from I.hok a _ ea)
  exact PySem.W.kia_one PySem.W.kitx_list I.kIn ⟨_,h1,rfl⟩ e (fun z=>nomatch z) h
 |@frz a ob xs ea=>
  cases (show u=Value.ref a from rx)
  obtain ⟨_,_,_,n,_,h1⟩:=(show ObjOk X.prog X.w H s.heap a (.frz ob (.lst xs)) from I.hok a _ ea)
  exact PySem.W.kia_one PySem.W.kitx_list I.kIn ⟨_,h1,rfl⟩ e (fun z=>nomatch z) h
 |@tup a xs ea=>
  cases (show u=Value.ref a from rx)
  obtain ⟨_,_,_,p⟩:=(show ObjOk X.prog X.w H s.heap a (.tup xs) from I.hok a _ ea)
  obtain ⟨o,h1,h2,_⟩:=p
  exact PySem.W.kia_one PySem.W.kitx_tuple I.kIn ⟨o,h1,h2⟩ e (fun z=>nomatch z) h
 |@dK a kvs ea=>
  cases (show u=Value.ref a from rx)
  obtain ⟨_,_,vs,_,p⟩:=(show ObjOk X.prog X.w H s.heap a (.dK kvs) from I.hok a _ ea)
  obtain ⟨o,es,ep,h1,h2,_⟩:=p
  exact PySem.W.kia_one PySem.W.kitx_dict I.kIn ⟨o,h1,h2.1⟩ e (fun z=>nomatch z) h
 |@dT a kvs ea=>
  cases (show u=Value.ref a from rx)
  obtain ⟨_,_,xs,_,o,es,ep,h1,h2,_⟩:=(show ObjOk X.prog X.w H s.heap a (.dT kvs) from I.hok a _ ea)
  exact PySem.W.kia_one PySem.W.kitx_dict I.kIn ⟨o,h1,h2.1⟩ e (fun z=>nomatch z) h
 |@ins a C dx fs ea cl ha hn htk hm=>
  cases (show u=Value.ref a from rx)
  obtain ⟨mA,O,_⟩:=yrl I.hok ea
  obtain ⟨od,J,_⟩:=O.look
  exact PySem.W.kia_one (PySem.W.kitx_own (cl.get _) cl.hd ha hn htk hm) I.kIn J e (fun z=>nomatch z) h
end
structure Room (k:Nat) (A:Around):Prop where
 hd:A.handled=none
 dp:A.depth+3*k+5<recursionLimit
 un:A.units+16*k+200<cLine
theorem Room.mono {j k:Nat}{A:Around}(r:Room k A)(h:j≤k):Room j A:=⟨r.hd,by have:=r.dp;omega,by have:=r.un;omega⟩
theorem Room.deeper {k:Nat}{A:Around}(r:Room (k+1) A)(env:Env):Room k (A.deeper env):=
 ⟨r.hd,by have:=r.dp;show A.depth+1+3*k+5<_;omega,by have:=r.un;show A.units+3+16*k+200<_;omega⟩
theorem Room.depth {k:Nat}{A:Around}(r:Room k A):A.depth<recursionLimit:=by have:=r.dp;omega
theorem Room.units {k:Nat}{A:Around}(r:Room k A):A.units+64<cLine:=by have:=r.un;omega
def yhw:TA:=fun _ H Q=>Q [] H
def ybp (ta:TE)(tr:TA):TA:=fun σ H Q=>ta σ H fun x H1=>tr σ H1 fun xs H2=>Q (x::xs) H2
section
variable {X:Cx}{e:Expr}{es:List Expr}{te:TE}{t:TA}{pos:Pos}
theorem yac:PA X [] yhw:=⟨fun _ _ _ _ H Q I h=>Calls.spliced_nil ⟨[],H,I,.nil,h⟩⟩
theorem yw7 (ha:PE X e te)(hr:PA X es t)(hs:starEach (e::es) X.env=(false,eval e X.env)::starEach es X.env:=by rfl):PA X (e::es) (ybp te t):=by
 refine⟨?_⟩
 intro pos pins s σ H Q I h
 rw[hs]
 show wpAny _ _ (spliced ((false,eval e X.env)::backTo pos (starEach es X.env))) _ _ s
 refine Calls.spliced_cons (thn (ha pins s σ H _ I h) fun u s1 ⟨x,H1,I1,r1,q1⟩=>?_)
 exact thn (hr pos pins s1 σ H1 _ I1 q1) fun us s2 ⟨xs,H2,I2,r2,q2⟩=>⟨x::xs,H2,I2,.cons r1 r2,q2⟩
def yrn (t:TA):TE:=fun σ H Q=>t σ H fun xs H1=>xs.length≤sizeLine∧∀p,H1 p=none→Q (.ref p) (upd H1 p (.tup xs))
def zbp (t:TA):TE:=fun σ H Q=>t σ H fun xs H1=>xs.length≤sizeLine∧∀p,H1 p=none→Q (.ref p) (upd H1 p (.lst xs))
theorem yb0 {x1}(h:PA X es t):PE X (.Tuple es x1 pos) (yrn t):=by
 refine⟨?_⟩
 intro pins s σ H Q I hq
 refine wpAny_Tuple_spliced (thn (h pos pins s σ H _ I hq) fun us s1 ⟨xs,H1,I1,r,z,q⟩=>⟨by rw[← r.length];exact z,?_⟩)
 have hf:H1 s1.heap.objs.size=none:=I1.hok.fresh (Nat.le_refl _)
 refine⟨.ref s1.heap.objs.size,upd H1 s1.heap.objs.size (.tup xs),I1.laid (t':=s1.toks) (fun b u e=>Heap.get?_push_of_some _ e) (Nat.le_refl _) ?_,rfl,q _ hf⟩
 exact⟨z,us,r,⟨_,Heap.get?_push_size _ rfl,rfl,_,rfl⟩⟩
theorem yf1 (h:PA X es t):PE X (.List es pos) (zbp t):=by
 refine⟨?_⟩
 intro pins s σ H Q I hq
 refine wpAny_List_spliced (thn (h pos pins s σ H _ I hq) fun us s1 ⟨xs,H1,I1,r,z,q⟩=>⟨by rw[← r.length];exact z,?_⟩)
 have hf:H1 s1.heap.objs.size=none:=I1.hok.fresh (Nat.le_refl _)
 refine⟨.ref s1.heap.objs.size,upd H1 s1.heap.objs.size (.lst xs),I1.laid (t':=s1.toks) (fun b u e=>Heap.get?_push_of_some _ e) (Nat.le_refl _) ?_,rfl,q _ hf⟩
 exact⟨z,us,0,r,Heap.get?_push_size _ rfl⟩
end
abbrev Sp:=List V→Hp→VK→XK→Prop
abbrev CXT:=List Env→Hp→Shared→XK→Value→Shared→Prop
structure Env0 (P:Program) (w:World) (K:PySem.W.Frag) (mg:Str→Option Value) (base:Heap) (A:Around) (outer:List Env) (s:Shared) (H:Hp):Prop where
 frames:A.frames=some outer
 mod:Mod K mg base
 bs:∀b o,base.get? b=some o→s.heap.get? b=some o∧H b=none
 bsz:base.objs.size≤s.heap.objs.size
 funs:s.heap.FunFrames base outer
 frf:∀b∈frs outer,H b=none
 hok:HOk P w H s.heap
 bare:AllBare s.gens
def CE (outer:List Env)(P:Program)(w:World)(H:Hp)(s:Shared)(Q:VK)(u:Value)(s':Shared):Prop:=
 ∃v H',s'.os=s.os∧AllBare s'.gens∧Un (frs outer) [] H H' s.heap s'.heap∧HOk P w H' s'.heap∧RelV v u∧Q v H'
def CR (CX:CXT)(outer:List Env)(P:Program)(w:World)(H:Hp)(s:Shared)(Q:VK)(E:XK)(r:Result)(s':Shared):Prop:=
 match r with
 |.ok (.ret u)=>CE outer P w H s Q u s'
 |.ok _=>False
 |.error e=>CX outer H s E e s'
structure FnOk (P:Program) (w:World) (K:PySem.W.Frag) (mg:Str→Option Value) (base:Heap) (CX:CXT) (k:Nat) (f:Addr) (fd:FuncData) (ps:List Str) (sp:Sp):Prop where
 len:∀vs H Q E,sp vs H Q E→vs.length=ps.length
 run:∀(A:Around) (outer:List Env) (s:Shared) (H:Hp) (args:Args) (us:List Value) (vs:List V) (Q:VK) (E:XK),Room k A→Env0 P w K mg base A outer s H→BindsTo s fd args (ps.zip us)→Vals vs us→sp vs H Q E→
  codeAny (model P w) A (.call (.ref f) args) (CR CX outer P w H s Q E) s
theorem FnOk.mono {P:Program}{w:World}{K:PySem.W.Frag}{mg:Str→Option Value}{base:Heap}{CX:CXT}{j k:Nat}{f:Addr}{fd:FuncData}{ps:List Str}{sp:Sp}(F:FnOk P w K mg base CX j f fd ps sp)(h:j≤k) :
 FnOk P w K mg base CX k f fd ps sp:=⟨F.len,fun A outer s H args us vs Q E hr=>F.run A outer s H args us vs Q E (hr.mono h)⟩
section
variable {X:Cx}{pins:List (Addr×Obj)}{σ:St}{H:Hp}{s s':Shared}
theorem Inv.env0 (I:Inv X pins σ H s):Env0 X.prog X.w X.K X.mg X.base X.A X.stack s H:=
 ⟨I.ok.frames,I.ok.mod,I.bs,Nat.le_trans I.ok.bsz I.sz,I.stack,I.stkFree,I.hok,I.bare⟩
theorem Inv.after {Q:VK}{u:Value}(I:Inv X pins σ H s)(h:CE X.stack X.prog X.w H s Q u s'):EP X pins σ Q u s':=by
 obtain ⟨v,H',os,bare,un,hok,r,q⟩:=h
 obtain ⟨hh,g,d,t,os'⟩:=s'
 obtain rfl:os'=s.os:=os
 exact⟨v,H',I.call (h':=hh) (g':=g) (d':=d) (t':=t) (ch:=[]) un hok bare (fun b z=>absurd z (by simp)),r,q⟩
end
def yi7 (sp:Sp)(dvs:List V)(E:XK)(t:TA):TE:=fun σ H Q=>t σ H fun vs H1=>sp (vs++dvs) H1 Q E
def Binds (K:PySem.W.Frag)(fd:FuncData)(ps:List Str)(ds:List Value):Prop:=
 ∀(s:Shared) (us:List Value),K.In s.heap→(us++ds).length=ps.length→BindsTo s fd ⟨us,[]⟩ (ps.zip (us++ds))
theorem Binds.all {K:PySem.W.Frag}{fd:FuncData}{ps:List Str}(h:∀us:List Value,us.length=ps.length→bindArgs fd ⟨us,[]⟩=pure (ps.zip us)):Binds K fd ps []:=fun s us _ hl=>by
 rw[List.append_nil] at hl ⊢
 exact .of_eq (h us hl)
def yjp (CX:CXT)(X:Cx)(E:XK):Prop:=∀(pins:List (Addr×Obj)) (σ:St) (H:Hp) (s:Shared) (e:Value) (s':Shared),Inv X pins σ H s→CX X.stack H s E e s'→X.xe e s'
section
variable {X:Cx}{CX:CXT}{k:Nat}{f C:Addr}{fd:FuncData}{ps:List Str}{sp:Sp}{dvs:List V}{ds:List Value}{E:XK}{x m:Str}{p pos apos:Pos}{e o:Expr}{es:List Expr}{ta:TE}{t:TA}
theorem yy3 {pins:List (Addr×Obj)}{σ:St}{H:Hp}{s:Shared}{Q:VK}{us:List Value}{vs:List V}(F:FnOk X.prog X.w X.K X.mg X.base CX k f fd ps sp)(hr:Room k X.A)(hb:Binds X.K fd ps ds)(hd:Vals dvs ds)(hx:yjp CX X E)
 (I:Inv X pins σ H s) (r:Vals vs us) (h:sp (vs++dvs) H Q E):wpAny (model X.prog X.w) X.A (call (.ref f) us) (EP X pins σ Q) X.xe s:=by
 have r2:Vals (vs++dvs) (us++ds):=r.append hd
 have hl:(us++ds).length=ps.length:=by rw[← r2.length];exact F.len _ _ _ _ h
 refine wpAny_call (codeAny_mono (F.run X.A X.stack s H ⟨us,[]⟩ (us++ds) (vs++dvs) Q E hr I.env0 (hb s us I.kIn hl) r2 h) fun r s' hq=>?_)
 cases r with
 |error e=>exact hx pins σ H s e s' I hq
 |ok fl=>
  cases fl with
  |ret u=>exact I.after hq
  |next=>exact False.elim hq
  |brk=>exact False.elim hq
  |cont=>exact False.elim hq
theorem yro (F:FnOk X.prog X.w X.K X.mg X.base CX k f fd ps sp)(hr:Room k X.A)(hg:Gl X x)(hm:X.mg x=some (.ref f))(hk:PySem.W.keepIn X.K (.ref f)=true)(hb:Binds X.K fd ps ds)(hd:Vals dvs ds)(hx:yjp CX X E)
 (ha:PA X (e::es) t) (hdb:(x == ("__debug__" : Str))=false:=by decide) (he:starEach (e::es) X.env=(false,eval e X.env)::starEach es X.env:=by rfl) (hpl:(backTo pos (starEach es X.env)).any (·.1)=false:=by rfl) :
 PE X (.Call (.Name x p) (e::es) [] pos) (yi7 sp dvs E t):=by
 refine⟨?_⟩
 intro pins s σ H Q I h
 refine wpAny_Call_Name_kw (ynj I hg hm ?_ hdb)
 refine PySem.W.callWith_K (h₀:=X.base) I.ok.mod.kin hk (thn (ha pos pins s σ H _ I h) fun us s1 ⟨vs,H1,I1,r,q⟩=>⟨I1.kIn,?_⟩) he hpl
 exact yy3 F hr hb hd hx I1 r q
end
section
variable {X:Cx}{CX:CXT}{k:Nat}{f C:Addr}{fd:FuncData}{ps ks:List Str}{sp:Sp}{E:XK}{x m:Str}{p pos apos kpos:Pos}{e o:Expr}{es:List Expr}{kws:List Keyword}{te ta:TE}{t tk:TA}{nm:Option Str}
variable {g:List Value→List Value→List Value}{gV:List V→List V→List V}
end
structure FnScope (N P:List Str) (sc:Scope):Prop where
 kind:sc.kind = .function
 co:sc.isCoroutine=false
 gen:sc.isGenerator=false
 nd:N.Nodup
 pre:N.take P.length=P
 par:∀x∈P,sc.names.lookup x=some .local∨sc.names.lookup x=some .cell
 nofree:∀y∈sc.names,y.2≠.free
theorem yln {kindOf:Str→Option NameKind}{x:Str}:∀{binds:List (Str×Value)}{m:Str→Option Value},(∀v,(x,v) ∉ binds)→bindL kindOf binds m x=m x
 |[],_,_=>rfl
 |(n,v)::r,m,h=>by
  unfold bindL
  rw[yln fun w hw=>h w (List.mem_cons_of_mem _ hw)]
  split
  ·have:x≠n:=by rintro rfl;exact h v List.mem_cons_self
   simp [this]
  ·rfl
theorem ylo {kindOf:Str→Option NameKind}{x:Str}:∀{binds:List (Str×Value)}{m:Str→Option Value},(∀v,(x,v) ∉ binds)→bindC kindOf binds m x=m x
 |[],_,_=>rfl
 |(n,v)::r,m,h=>by
  unfold bindC
  rw[ylo fun w hw=>h w (List.mem_cons_of_mem _ hw)]
  split
  ·rfl
  ·have:x≠n:=by rintro rfl;exact h v List.mem_cons_self
   simp [this]
theorem ylp {kindOf:Str→Option NameKind}{x:Str}{v:Value}:∀{P:List Str}{vs:List Value}{i:Nat}{m:Str→Option Value},P.Nodup→P[i]? = some x→vs[i]? = some v→kindOf x=some .local→
 bindL kindOf (P.zip vs) m x=some v
 |[],_,_,_,_,h,_,_=>by simp at h
 |_::_,[],_,_,_,_,h,_=>by simp at h
 |p::P,w::vs,0,m,nd,h1,h2,hk=>by
  simp at h1 h2;subst h1;subst h2
  show bindL kindOf ((p,w)::P.zip vs) m p=_
  unfold bindL
  rw[yln fun v hv=>(List.nodup_cons.mp nd).1 (List.of_mem_zip hv).1,if_pos hk]
  simp
 |p::P,w::vs,i+1,m,nd,h1,h2,hk=>by
  show bindL kindOf ((p,w)::P.zip vs) m x=_
  unfold bindL
  exact ylp (i:=i) (List.nodup_cons.mp nd).2 (by simpa using h1) (by simpa using h2) hk
theorem ylq {kindOf:Str→Option NameKind}{x:Str}{v:Value}:∀{P:List Str}{vs:List Value}{i:Nat}{m:Str→Option Value},P.Nodup→P[i]? = some x→vs[i]? = some v→kindOf x≠some .local→
 bindC kindOf (P.zip vs) m x=some v
 |[],_,_,_,_,h,_,_=>by simp at h
 |_::_,[],_,_,_,_,h,_=>by simp at h
 |p::P,w::vs,0,m,nd,h1,h2,hk=>by
  simp at h1 h2;subst h1;subst h2
  show bindC kindOf ((p,w)::P.zip vs) m p=_
  unfold bindC
  rw[ylo fun v hv=>(List.nodup_cons.mp nd).1 (List.of_mem_zip hv).1,if_neg hk]
  simp
 |p::P,w::vs,i+1,m,nd,h1,h2,hk=>by
  show bindC kindOf ((p,w)::P.zip vs) m x=_
  unfold bindC
  exact ylq (i:=i) (List.nodup_cons.mp nd).2 (by simpa using h1) (by simpa using h2) hk
def yi8 (N:List Str)(vs:List V):St:=vs.map some++List.replicate (N.length-vs.length) none
def yq3 (CX:CXT)(P:Program)(w:World)(K:PySem.W.Frag)(mg:Str→Option Value)(base:Heap)(N:List Str)(qual:Str)(scope:Scope)(f:Addr)(cd:Value)(A:Around)(outer:List Env)(s:Shared)(H:Hp)(E:XK):Cx where
 prog:=P
 w:=w
 K:=K
 mg:=mg
 base:=base
 A:=A.deeper (envOfC qual scope s.heap.objs.size f cd)
 N:=N
 s₀:=s
 H₀:=H
 env:=envOfC qual scope s.heap.objs.size f cd
 outer:=outer
 stack:=envOfC qual scope s.heap.objs.size f cd::outer
 ex:=[]
 calm:=true
 fn:=fun _=>true
 pn:=[]
 xe:=fun e s'=>wpAny (model P w) (A.deeper (envOfC qual scope s.heap.objs.size f cd)) (leaving (envOfC qual scope s.heap.objs.size f cd) e) (fun _ s''=>CX outer H s E e s'') (fun e' s''=>CX outer H s E e' s'') s'
theorem yos {sc:Scope}{n:Nat}{x:Str}(h:sc.names.lookup x=some .cell):∃c,(cellsFrom n sc.names []).lookup x=some c:=by
 have q:=PySem.W.cellsFrom_some sc.names n [] (.inl h)
 exact Option.isSome_iff_exists.mp q
theorem yrp {CX:CXT}{P:Program}{w:World}{K:PySem.W.Frag}{mg:Str→Option Value}{base:Heap}{N ps:List Str}{qual:Str}{scope:Scope}{f:Addr}{cd:Value}{A:Around}{outer:List Env}{s s1:Shared}{H:Hp}{E:XK}{us:List Value}{vs:List V}
 (S:FnScope N ps scope) (hd:A.handled=none) (e0:Env0 P w K mg base A outer s H) (hl:vs.length=ps.length) (r:Vals vs us)
 (x:InCallC s s.heap.objs.size (bindL (envOfC qual scope s.heap.objs.size f cd).kindOf (ps.zip us) fun _=>none) (cellsFrom (s.heap.objs.size+1) scope.names []) (bindC (envOfC qual scope s.heap.objs.size f cd).kindOf (ps.zip us) fun _=>none) s1) :
 Inv (yq3 CX P w K mg base N qual scope f cd A outer s H E) [] (yi8 N vs) H s1:=by
 have hpl:ps.length≤N.length:=by have:=congrArg List.length S.pre;rw[List.length_take] at this;omega
 obtain ⟨h1,tk,rfl,hk⟩:=x.done
 have noA:∀b:Addr,b ∉ (yq3 CX P w K mg base N qual scope f cd A outer s H E).ex:=fun b z=>absurd (show b∈([]:List Addr) from z) (by simp)
 refine⟨⟨e0.mod,S.kind,rfl,rfl,Nat.le_refl _,fun y z c h1 h2=>?_,fun y hy=>?_,fun y c _ h=>?_,fun _=>hd,Around.frames_deeper e0.frames,.inr ⟨rfl,rfl⟩,fun b z=>absurd z (noA b),e0.bs,e0.bsz,fun b _ _=>noA b,fun b z=>absurd z (noA b),e0.funs,e0.frf⟩,
  rfl,e0.bare,Un.kept hk,⟨_,x.toInCall.ns,fun i y v h1 h2 h3=>?_⟩,fun y c h=>⟨_,x.cell y c h⟩,e0.hok.fresh (Nat.le_refl _),fun y c h=>?_,fun p hp=>absurd (show p∈([]:List (Addr×Obj)) from hp) (by simp),e0.hok.kept hk,?_⟩
 ·exact name_of_addr x.apart (PySem.mem_of_lookup h1) (PySem.mem_of_lookup h2)
 ·have hy:scope.names.lookup y=some .cell∨scope.names.lookup y=some .free:=hy
  rcases hy with hy|hy
  ·exact yos hy
  ·exact absurd rfl (S.nofree _ (PySem.mem_of_lookup hy))
 ·exact Nat.le_of_lt (x.above y c (PySem.mem_of_lookup h))
 ·have hi:i<vs.length:=by
   unfold yi8 at h2
   by_cases hi:i<vs.length
   ·exact hi
   ·rw[List.getElem?_append_right (by simpa using hi)] at h2
    rw[List.getElem?_replicate] at h2
    split at h2 <;> cases h2
  have ha:vs[i]? = some v:=by
   unfold yi8 at h2
   rw[List.getElem?_append_left (by simpa using hi),List.getElem?_map] at h2
   cases e:vs[i]? with
   |none=>rw[e] at h2;cases h2
   |some a=>rw[e] at h2;cases h2;rfl
  obtain ⟨u,hu,rv⟩:=r.get ha
  have hp:ps[i]? = some y:=by
   rw[← S.pre,List.getElem?_take_of_lt (by omega)];exact h1
  have ndP:ps.Nodup:=by rw[← S.pre];exact S.nd.sublist (List.take_sublist _ _)
  refine⟨u,rv,?_⟩
  rcases S.par y (List.mem_of_getElem? hp) with k|k
  ·exact .inl ⟨k,ylp ndP hp hu k⟩
  ·obtain ⟨c,e⟩:=yos (n:=s.heap.objs.size+1) k
   refine .inr ⟨.inl k,c,e,?_⟩
   have q:=x.cell y c e
   rw[ylq ndP hp hu (by show scope.names.lookup y≠_;rw[k];decide)] at q
   exact q
 ·exact e0.hok.fresh (Nat.le_of_lt (x.above y c (PySem.mem_of_lookup h)))
 ·unfold yi8
  show _=N.length
  rw[List.length_append,List.length_map,List.length_replicate]
  omega
theorem yw8 {CX:CXT}{P:Program}{w:World}{K:PySem.W.Frag}{mg:Str→Option Value}{base:Heap}{k:Nat}{f:Addr}{name qual:Str}{params:Arguments}{body:List Stmt}{scope:Scope}{dV kV doc pm cdv ct oc:Value}{an od:Option Addr}
 {osl:Array (Option Value)}{N ps:List Str}{sp:Sp} (lk:K.lookup f=some ⟨oc,od,.func (PySem.W.fnOf name qual params body scope dV kV doc pm an cdv ct),osl⟩) (hcd:PySem.W.codeIn K cdv qual=true) (S:FnScope N ps scope)
 (len:∀vs H Q E,sp vs H Q E→vs.length=ps.length)
 (hbody:∀(A:Around) (outer:List Env) (s:Shared) (H:Hp) (vs:List V) (Q:VK) (E:XK),Room k (A.deeper (envOfC qual scope s.heap.objs.size f cdv))→sp vs H Q E→
  ∃t,PSs (yq3 CX P w K mg base N qual scope f cdv A outer s H E) body t∧t { nx:=fun _ H'=>Q .non H',rt:=Q } (yi8 N vs) H) :
 FnOk P w K mg base CX (k+1) f (PySem.W.fnOf name qual params body scope dV kV doc pm an cdv ct) ps sp:=by
 refine⟨len,fun A outer s H args us vs Q E hr e0 hb r hsp=>?_⟩
 have hl:=len _ _ _ _ hsp
 have KX:K.In s.heap:=e0.mod.kin.keeps fun b o e=>(e0.bs b o e).1
 have lim:s.heap.NoLimit:=e0.mod.nolimit.keeps fun b o e=>(e0.bs b o e).1
 have hkind:∀y∈ps.zip us,scope.names.lookup y.1=some .local∨(scope.names.lookup y.1=some .cell∧((cellsFrom (s.heap.objs.size+1) scope.names []).lookup y.1).isSome=true):=fun ⟨n,v⟩ hy=>by
  rcases S.par n (List.of_mem_zip hy).1 with q|q
  ·exact .inl q
  ·exact .inr ⟨q,PySem.W.cellsFrom_some _ _ _ (.inl q)⟩
 refine codeAny_call_function hr.depth (KX _ _ lk) rfl S.co S.gen rfl (PySem.W.codeRec_of KX hcd) (hb _ _ _ _ ?_)
 refine wpAny_newFunctionEnv_cells S.kind hkind fun env he s1 x=>?_
 subst he
 refine⟨lim.keeps x.toInCall.keep,codeAny_func ?_⟩
 obtain ⟨t,ht,hq⟩:=hbody A outer s H vs Q E (hr.deeper _) hsp
 have I:Inv (yq3 CX P w K mg base N qual scope f cdv A outer s H E) [] (yi8 N vs) H s1:=yrp S hr.hd e0 hl r x
 refine wpAny_mono (ht [] s1 (yi8 N vs) H _ I hq) (fun fl s' hs=>?_) fun e s' hs=>hs
 have fin:∀{σ':St}{H':Hp}{v:V}{u:Value},Inv (yq3 CX P w K mg base N qual scope f cdv A outer s H E) [] σ' H' s'→RelV v u→Q v H'→CE outer P w H s Q u s':=
  fun {σ' H' v u} J rv q=>⟨v,H',J.os,J.bare,J.base,J.hok,rv,q⟩
 cases fl with
 |ret u=>
  obtain ⟨v,σ',H',J,rv,q⟩:=hs
  exact fin J rv q
 |next=>
  obtain ⟨σ',H',J,q⟩:=hs
  exact fin (v:=V.non) (u:=Value.none) J rfl q
 |brk=>
  obtain ⟨_,_,_,q⟩:=hs
  exact False.elim q
 |cont=>
  obtain ⟨_,_,_,q⟩:=hs
  exact False.elim q
section
variable {X:Cx}{x:Str}{p pos:Pos}{e:Expr}{es:List Expr}{t:TA}{id T:String}{r:List V→Hp→VK→Prop}
def tCB (r:List V→Hp→VK→Prop)(t:TA):TE:=fun σ H Q=>t σ H fun vs H1=>r vs H1 Q
theorem yao (hc:yfa X (.builtin id) r) (hg:Gl X x) (hm:X.mg x=none) (hv:bootBuiltins x=some (.builtin id)) (ha:PA X (e::es) t) (hn:x ≠ "__name__" := by decide) (hdb:(x == ("__debug__" : Str))=false:=by decide)
 (he:starEach (e::es) X.env=(false,eval e X.env)::starEach es X.env:=by rfl) (hpl:(backTo pos (starEach es X.env)).any (·.1)=false:=by rfl):PE X (.Call (.Name x p) (e::es) [] pos) (tCB r t):=by
 refine⟨?_⟩
 intro pins s σ H Q I h
 refine wpAny_Call_Name_kw (yht I hg hm hv ?_ hn hdb)
 exact PyProof.Rows.callWith_builtin1 (thn (ha pos pins s σ H _ I h) fun us s1 ⟨vs,H1,I1,r1,q1⟩=>hc pins s1 σ H1 vs us Q I1 r1 q1) he hpl
theorem yen (hc:yfa X (.type T) r) (hg:Gl X x) (hm:X.mg x=none) (hv:bootBuiltins x=some (.type T)) (ha:PA X (e::es) t) (hn:x ≠ "__name__" := by decide) (hdb:(x == ("__debug__" : Str))=false:=by decide)
 (he:starEach (e::es) X.env=(false,eval e X.env)::starEach es X.env:=by rfl) (hpl:(backTo pos (starEach es X.env)).any (·.1)=false:=by rfl):PE X (.Call (.Name x p) (e::es) [] pos) (tCB r t):=by
 refine⟨?_⟩
 intro pins s σ H Q I h
 refine wpAny_Call_Name_kw (yht I hg hm hv ?_ hn hdb)
 exact PyProof.Rows.callWith_type1 (thn (ha pos pins s σ H _ I h) fun us s1 ⟨vs,H1,I1,r1,q1⟩=>hc pins s1 σ H1 vs us Q I1 r1 q1) he hpl
end
end L2
namespace HT
open PySem PyProof.Rows
section
open PySem.SeqAt
open PySem.AutoSeq1 (wpAny_loadPart')
open PySem.MeetsSeq PySem.MeetsSeq2 PySem.MeetsSeq3
end
section
variable {prog:Program}{w:World}{A:Around}{E:Value→Shared→Prop}{s:Shared}
def sIx (n d:Nat):Option Int→Nat
 |none=>d
 |some v=>if v<0 then (v+(n:Int)).toNat else min v.toNat n
end
end HT
namespace L2
open PySem PySem.Spec PyProof.Rows
abbrev TO:=St→Hp→(Option Int→Hp→Prop)→Prop
def PO0 (X:Cx)(e:Option Expr)(t:TO):Prop:=
 ∀(pins:List (Addr×Obj)) (s:Shared) (σ:St) (H:Hp) (Q:Option Int→Hp→Prop),Inv X pins σ H s→t σ H Q→
  wpAny (model X.prog X.w) X.A (evalPart e X.env) (fun u s'=>∃o H',Inv X pins σ H' s'∧IsPart u o∧Q o H') X.xe s
structure PO (X:Cx) (e:Option Expr) (t:TO):Prop where
 out:PO0 X e t
instance {X:Cx}{e:Option Expr}{t:TO}:CoeFun (PO X e t) (fun _=>PO0 X e t):=⟨PO.out⟩
def yw9:TO:=fun _ H Q=>Q none H
def zao (t:TE):TO:=fun σ H Q=>t σ H fun x H1=>∃i,x = .int i∧Q (some i) H1
section
variable {X:Cx}{e:Expr}{te:TE}{lo hi:Option Expr}{tl th:TO}{pos p2:Pos}
theorem ynk:PO X none yw9:=by
 refine⟨?_⟩
 intro pins s σ H Q I h
 rw[evalPart_none]
 exact zwp0 ⟨none,H,I,.none,h⟩
theorem ynl (h:PE X e te):PO X (some e) (zao te):=by
 refine⟨?_⟩
 intro pins s σ H Q I hw
 rw[evalPart_some]
 refine thn (h pins s σ H _ I hw) fun u s1 ⟨x,H1,I1,r1,q1⟩=>?_
 obtain ⟨i,rfl,q⟩:=q1
 obtain ⟨t,rfl⟩:=r1
 exact⟨some i,H1,I1,.int i t,q⟩
def SlR (X:Cx)(r:V→Option Int→Option Int→Hp→VK→Prop):Prop:=
 ∀(pins:List (Addr×Obj)) (s:Shared) (σ:St) (H:Hp) (x:V) (v vl vu:Value) (lo hi:Option Int) (sl:Addr) (Q:VK),Inv X pins σ H s→RelV x v→s.heap.IsSliceOf sl vl vu .none→IsPart vl lo→IsPart vu hi→r x lo hi H Q→
  ∃T id,typeLookup (.type T) "__getitem__" = pure (some (.builtin id))∧s.TypeIs v T∧wpAny (model X.prog X.w) X.A (getItem v (.ref sl)) (EP X pins σ Q) X.xe s
def tSl (r:V→Option Int→Option Int→Hp→VK→Prop)(te:TE)(tl th:TO):TE:=fun σ H Q=>te σ H fun x H1=>tl σ H1 fun l H2=>th σ H2 fun u H3=>r x l u H3 Q
theorem ykb {r:V→Option Int→Option Int→Hp→VK→Prop}(hr:SlR X r)(he:PE X e te)(hl:PO X lo tl)(hu:PO X hi th):PE X (.Subscript e (.Slice lo hi none p2) pos) (tSl r te tl th):=by
 refine⟨?_⟩
 intro pins s σ H Q I h
 refine Subscript_ (thn (he pins s σ H _ I h) fun v s1 ⟨x,H1,I1,r1,q1⟩=>?_)
 refine wpAny_Slice (thn (hl pins s1 σ H1 _ I1 q1) fun vl s2 ⟨l,H2,I2,pl,q2⟩=>thn (hu pins s2 σ H2 _ I2 q2) fun vu s3 ⟨u,H3,I3,pu,q3⟩=>?_)
 rw[evalPart_none]
 refine zwp0 ?_
 have I4:Inv X pins σ H3 { s3 with heap:=s3.heap.push { cls:=.type "slice",data:=.fields #[vl,vu,.none] } }:=I3.kept (t':=s3.toks) fun b ob q=>Heap.get?_push_of_some _ q
 obtain ⟨T,id,hT,ht,hg⟩:=hr pins { s3 with heap:=s3.heap.push { cls:=.type "slice",data:=.fields #[vl,vu,.none] } } σ H3 x v vl vu l u s3.heap.objs.size Q I4 r1 (Heap.IsSliceOf.new ..) pl pu q3
 show wpAny (model X.prog X.w) X.A (subscriptTail e (.Slice lo hi none p2) v (.ref s3.heap.objs.size)) (EP X pins σ Q) X.xe { s3 with heap:=s3.heap.push { cls:=.type "slice",data:=.fields #[vl,vu,.none] } }
 exact tail_any (ops:=[.ref s3.heap.objs.size,v]) ht hT hg (by with_unfolding_all rfl)
def yrq (xs:List V)(lo hi:Option Int):List V:=(xs.drop (HT.sIx xs.length 0 lo)).take (HT.sIx xs.length xs.length hi-HT.sIx xs.length 0 lo)
theorem ynm (xs:List V)(lo hi:Option Int):(yrq xs lo hi).length≤xs.length:=by
 unfold yrq
 rw[List.length_take,List.length_drop]
 omega
end
def ixN (n:Nat)(i:Int):Option Nat:=if 0≤i then (if i<n then some i.toNat else none) else if -(n:Int)≤i then some (i+n).toNat else none
def atI {α:Type}(xs:List α)(i:Int):Option α:=(ixN xs.length i).bind fun j=>xs[j]?
theorem yrr {n:Nat}{i:Int}{j:Nat}(h:ixN n i=some j):seqIndex? i n=some j∧j<n∧-(n:Int)≤i∧i<n:=by
 unfold ixN at h
 by_cases h0:0≤i
 ·rw[if_pos h0] at h
  by_cases h1:i<n
  ·rw[if_pos h1] at h
   have e:i.toNat=j:=Option.some.inj h
   exact⟨by rw[seqIndex_of h0 h1,e],by omega,by omega,h1⟩
  ·rw[if_neg h1] at h;cases h
 ·rw[if_neg h0] at h
  by_cases h1:-(n:Int)≤i
  ·rw[if_pos h1] at h
   have e:(i+n).toNat=j:=Option.some.inj h
   exact⟨by rw[seqIndex_neg (by omega) h1,e],by omega,h1,by omega⟩
  ·rw[if_neg h1] at h;cases h
theorem yrs {α:Type}{xs:List α}{i:Int}{v:α}(h:atI xs i=some v):∃j,seqIndex? i xs.length=some j∧xs[j]? = some v∧j<xs.length∧-(xs.length:Int)≤i∧i<xs.length:=by
 unfold atI at h
 cases e:ixN xs.length i with
 |none=>rw[e] at h;cases h
 |some j=>
  rw[e] at h
  obtain ⟨h1,h2,h3,h4⟩:=yrr e
  exact⟨j,h1,h,h2,h3,h4⟩
theorem yfb {α:Type}{xs:List α}{j:Nat}{v:α}(h:xs[j]? = some v):atI xs (j:Int)=some v:=by
 have hj:j<xs.length:=(List.getElem?_eq_some_iff.mp h).1
 have e:ixN xs.length (j:Int)=some j:=by
  unfold ixN
  rw[if_pos (by omega),if_pos (by omega)];simp
 unfold atI;rw[e];exact h
def yxa (b:Expr):Prop:=∀o i,subscripted b false o i=operate [o,i] (getItem o i)
def IxR (X:Cx)(r:R2):Prop:=
 ∀(value slice:Expr) (pins:List (Addr×Obj)) (s:Shared) (σ:St) (H:Hp) (x y:V) (v u:Value) (Q:VK),Inv X pins σ H s→RelV x v→RelV y u→r x y H Q→
  subscripted slice false v u=operate [v,u] (getItem v u)→wpAny (model X.prog X.w) X.A (subscriptTail value slice v u) (EP X pins σ Q) X.xe s
def MtR (X:Cx)(id:String)(r:V→List V→Hp→VK→Prop):Prop:=
 ∀(pins:List (Addr×Obj)) (s:Shared) (σ:St) (H:Hp) (x:V) (xs:List V) (v:Value) (us:List Value) (Q:VK),Inv X pins σ H s→RelV x v→Vals xs us→r x xs H Q→
  wpAny (model X.prog X.w) X.A (call (.builtin id) (v::us)) (EP X pins σ Q) X.xe s
section
variable {X:Cx}{a b:Expr}{ta tb:TE}{pos:Pos}
theorem ya8 {r:R2}(hr:IxR X r)(ha:PE X a ta)(hb:PE X b tb)(hs:yxa b):PE X (.Subscript a b pos) (tOp r ta tb):=by
 refine⟨?_⟩
 intro pins s σ H Q I h
 exact Subscript_ (zal ha hb I h fun v u s2 x y H2 I2 rx ry q=>hr a b pins s2 σ H2 x y v u Q I2 rx ry q (hs _ _))
def zap (K:PySem.W.Frag):R2:=fun x y H Q=>∃p xs i v,x = .ref p∧y = .int i∧SqL K H p xs∧atI xs i=some v∧Q v H
def yxb (K:PySem.W.Frag):R2:=fun x y H Q=>∃p xs i v,x = .ref p∧y = .int i∧SqT K H p xs∧atI xs i=some v∧Q v H
theorem ya3:IxR X (zap X.K):=by
 intro value slice pins s σ H x y v u Q I rx ry h hs
 obtain ⟨p,xs,i,z,rfl,rfl,hq,he,q⟩:=h
 cases rx
 obtain ⟨t,rfl⟩:=ry
 obtain ⟨its,r,pl,hz⟩:=I.list hq
 obtain ⟨j,h1,h2,h3,h4,h5⟩:=yrs he
 obtain ⟨w,ew,rw'⟩:=r.get h2
 have hl:=r.length
 have hn:=yjo
 have fin:EP X pins σ Q w s:=⟨z,H,I,rw',q⟩
 by_cases h0:0≤i
 ·have hj:i.toNat=j:=by
   rw[seqIndex_of h0 h5] at h1
   exact Option.some.inj h1
  exact item_listR pl.isList h0 (by omega) (by rw[hj];simpa using ew) fin hs
 ·have hj:(i+(its.toArray.size:Int)).toNat=j:=by
   rw[seqIndex_neg (by omega) h4] at h1
   rw[List.size_toArray,← hl]
   exact Option.some.inj h1
  exact subscriptTail_builtinR (x:=w) pl.isList.typeIs slot_list_getitem.lookup
   (wpAny_getItem_list_neg (Q:=fun r s'=>r=w∧EP X pins σ Q r s') pl.isList (by omega) (by rw[List.size_toArray] <;> omega) (by omega) (by rw[hj];simpa using ew) ⟨rfl,fin⟩) hs
theorem yca:IxR X (yxb X.K):=by
 intro value slice pins s σ H x y v u Q I rx ry h hs
 obtain ⟨p,xs,i,z,rfl,rfl,hq,he,q⟩:=h
 cases rx
 obtain ⟨t,rfl⟩:=ry
 obtain ⟨its,r,pl,hz⟩:=I.tuple hq
 obtain ⟨j,h1,h2,h3,h4,h5⟩:=yrs he
 obtain ⟨w,ew,rw'⟩:=r.get h2
 have hl:=r.length
 have hn:=yjo
 have fin:EP X pins σ Q w s:=⟨z,H,I,rw',q⟩
 exact subscriptTail_builtinR (x:=w) pl.typeIs slot_tuple_getitem.lookup
  (getItem_tuple (j:=j) (Q:=fun r s'=>r=w∧EP X pins σ Q r s') pl (by omega) (by omega) (by rw[List.size_toArray,← hl];exact h1) (by simpa using ew) ⟨rfl,fin⟩) hs
theorem yp1 (its:List Value) (n j:Nat) (u:Value):Obj.mapSeq (·.setIfInBounds j u) { cls:=.type "list",data:=.seq its.toArray n } = { cls:=.type "list",data:=.seq (its.set j u).toArray n }:=by
 simp [Obj.mapSeq]
theorem Inv.lst {pins:List (Addr×Obj)}{σ:St}{H:Hp}{s:Shared}{p:Addr}{xs:List V}(I:Inv X pins σ H s)(h:H p=some (.lst xs)) :
 ∃(its:List Value) (n:Nat),Vals xs its∧s.heap.get? p=some { cls:=.type "list",data:=.seq its.toArray n }∧xs.length≤sizeLine:=by
 obtain ⟨z,its,n,r,e⟩:=I.hok p _ h
 exact⟨its,n,r,e,z⟩
theorem Inv.lstUpd {pins:List (Addr×Obj)}{σ:St}{H:Hp}{s:Shared}{p:Addr}{xs ys:List V}{its its':List Value}{n n':Nat}{f:Obj→Obj}(I:Inv X pins σ H s)(h:H p=some (.lst xs))
 (ho:s.heap.get? p=some { cls:=.type "list",data:=.seq its.toArray n }) (hf:f { cls:=.type "list",data:=.seq its.toArray n } = { cls:=.type "list",data:=.seq its'.toArray n' }) (r:Vals ys its') (hz:ys.length≤sizeLine) (t:Nat) :
 Inv X pins σ (upd H p (.lst ys)) { s with heap:=s.heap.update p f,toks:=t }:=by
 have e:(s.heap.update p f).get? p=some { cls:=.type "list",data:=.seq its'.toArray n' }:=by
  rw[Heap.get?_update_self f ho (by rw[hf] <;> rfl),hf]
 refine I.write (x:=p) (e:=p) (by rw[h];trivial) (.inl rfl) (fun b u hb q=>(Heap.get?_update_other _ _ (Ne.symm hb)).trans q) ⟨_,e⟩ ?_
 exact⟨hz,its',n',r,e⟩
def zaq:V→V→V→Hp→(Hp→Prop)→Prop:=fun o i v H Q=>∃p xs k j,o = .ref p∧i = .int k∧H p=some (.lst xs)∧ixN xs.length k=some j∧Q (upd H p (.lst (xs.set j v)))
theorem ycp:zah X zaq:=by
 intro pins s σ H o i v ov iv u Q I ro ri rv h
 obtain ⟨p,xs,k,j,rfl,rfl,hp,hj,q⟩:=h
 cases ro
 obtain ⟨t,rfl⟩:=ri
 obtain ⟨its,n,r,ho,hz⟩:=I.lst hp
 obtain ⟨h1,h2,h3,h4⟩:=yrr hj
 have hl:=r.length
 have hn:=yjo
 have I':Inv X pins σ (upd H p (.lst (xs.set j v))) { s with heap:=s.heap.update p (Obj.mapSeq (·.setIfInBounds j u)) }:=
  I.lstUpd hp ho (yp1 its n j u) (r.set rv j) (by rw[List.length_set];exact hz) s.toks
 by_cases h0:0≤k
 ·have hk:k.toNat=j:=by
   rw[seqIndex_of h0 h4] at h1
   exact Option.some.inj h1
  exact PySem.W.ki_setAt ho h0 (by omega) (by rw[List.size_toArray,← hl];exact h4) (by rw[hk];exact⟨_,I',q⟩)
 ·have hk:(k+(its.toArray.size:Int)).toNat=j:=by
   rw[seqIndex_neg (by omega) h3] at h1
   rw[List.size_toArray,← hl]
   exact Option.some.inj h1
  exact PySem.W.ki_setBack ho (by omega) (by rw[List.size_toArray,← hl];exact h3) (by omega) (by rw[hk];exact⟨_,I',q⟩)
theorem ylr (lo hi:Option Int)(n:Nat):(sliceBounds lo hi none n).1=((HT.sIx n 0 lo:Nat):Int)∧(sliceBounds lo hi none n).2.1=((HT.sIx n n hi:Nat):Int)∧(sliceBounds lo hi none n).2.2=1:=by
 refine⟨?_,?_,rfl⟩
 ·cases lo with
  |none=>simp [sliceBounds,HT.sIx]
  |some i=>
   simp only[sliceBounds,HT.sIx,Option.getD_none,show (1:Int) > 0 by decide,if_true]
   by_cases h:i<0
   ·simp only[h,if_true] <;> omega
   ·simp only[h,if_false] <;> omega
 ·cases hi with
  |none=>simp [sliceBounds,HT.sIx]
  |some i=>
   simp only[sliceBounds,HT.sIx,Option.getD_none,show (1:Int) > 0 by decide,if_true]
   by_cases h:i<0
   ·simp only[h,if_true] <;> omega
   ·simp only[h,if_false] <;> omega
theorem ykc (its:List Value)(lo hi:Option Int):slicePick its.toArray lo hi none=((its.drop (HT.sIx its.length 0 lo)).take (HT.sIx its.length its.length hi-HT.sIx its.length 0 lo)).toArray:=by
 obtain ⟨h1,h2,h3⟩:=ylr lo hi its.toArray.size
 unfold slicePick
 rw[h1,h2,h3]
 simp only[sliceRange_one,pick_run,List.size_toArray] <;> rfl
def zbq (K:PySem.W.Frag):V→Option Int→Option Int→Hp→VK→Prop:=fun x lo hi H Q=>∃a xs,x = .ref a∧SqL K H a xs∧∀p,H p=none→Q (.ref p) (upd H p (.lst (yrq xs lo hi)))
theorem ynn:SlR X (zbq X.K):=by
 intro pins s σ H x v vl vu lo hi sl Q I rx hs pl pu h
 obtain ⟨a,xs,rfl,hx,q⟩:=h
 cases rx
 obtain ⟨its,r,ht,hz⟩:=I.list hx
 have hlen:=r.length
 refine⟨"list",_,slot_list_getitem.lookup,ht.isList.typeIs,?_⟩
 refine wpAny_getItem_list_slice ht.isList hs pl pu .none (by simp) ?_ (by rw[List.size_toArray] <;> omega)
 rw[ykc,← hlen]
 refine⟨.ref s.heap.objs.size,_,I.laid (t':=s.toks) (o:=.lst (yrq xs lo hi)) (fun b ob q=>Heap.get?_push_of_some _ q) (Nat.le_refl _) ?_,rfl,q _ (I.hok.fresh (Nat.le_refl _))⟩
 exact⟨Nat.le_trans (ynm xs lo hi) hz,_,0,(r.drop (HT.sIx xs.length 0 lo)).take (HT.sIx xs.length xs.length hi-HT.sIx xs.length 0 lo),Heap.get?_push_size _ rfl⟩
def ygr:V→Bool
 |.non=>true
 |.bl _=>true
 |.int _=>true
 |.str _=>true
 |_=>false
def eqV:V→V→Bool
 |.non,.non=>true
 |.bl a,.bl b=>a == b
 |.bl a,.int b=>(if a then 1 else 0) == b
 |.int a,.bl b=>a == (if b then 1 else 0)
 |.int a,.int b=>a == b
 |.str a,.str b=>a == b
 |_,_=>false
theorem ywf {A:Around}{s:Shared}{y x:V}{u v:Value}(ry:RelV y u)(rx:RelV x v)(fy:ygr y=true)(fx:ygr x=true):SeqAt.EqAt A s u v (eqV y x):=by
 cases y with
 |non=>
  cases ry
  cases x with
  |non=>cases rx;exact SeqAt.EqAt.same _
  |bl b=>cases rx;exact SeqAt.EqAt.none_bool b
  |int b=>obtain ⟨t,rfl⟩:=rx;exact SeqAt.EqAt.none_int b t
  |str b=>obtain ⟨t,rfl⟩:=rx;exact SeqAt.EqAt.none_str b t
  |_=>exact absurd (show false=true from fx) Bool.false_ne_true
 |bl a=>
  cases ry
  cases x with
  |non=>cases rx;exact SeqAt.EqAt.bool_none a
  |bl b=>cases rx;exact SeqAt.EqAt.bool_bool a b
  |int b=>obtain ⟨t,rfl⟩:=rx;exact SeqAt.EqAt.bool_int a b t
  |str b=>obtain ⟨t,rfl⟩:=rx;exact SeqAt.EqAt.bool_str a b t
  |_=>exact absurd (show false=true from fx) Bool.false_ne_true
 |int a=>
  obtain ⟨t',rfl⟩:=ry
  cases x with
  |non=>cases rx;exact SeqAt.EqAt.int_none a t'
  |bl b=>cases rx;exact SeqAt.EqAt.int_bool a t' b
  |int b=>obtain ⟨t,rfl⟩:=rx;exact SeqAt.EqAt.int_int a t' b t
  |str b=>obtain ⟨t,rfl⟩:=rx;exact SeqAt.EqAt.int_str a t' b t
  |_=>exact absurd (show false=true from fx) Bool.false_ne_true
 |str a=>
  obtain ⟨t',rfl⟩:=ry
  cases x with
  |non=>cases rx;exact SeqAt.EqAt.str_none a t'
  |bl b=>cases rx;exact SeqAt.EqAt.str_bool a t' b
  |int b=>obtain ⟨t,rfl⟩:=rx;exact SeqAt.EqAt.str_int a t' b t
  |str b=>obtain ⟨t,rfl⟩:=rx;exact SeqAt.EqAt.str_str a t' b t
  |_=>exact absurd (show false=true from fx) Bool.false_ne_true
 |_=>exact absurd (show false=true from fy) Bool.false_ne_true
def eqU (x:V)(u:Value):Bool:=match u with
 |.none=>eqV .non x
 |.bool b=>eqV (.bl b) x
 |.int i _=>eqV (.int i) x
 |.str z _=>eqV (.str z) x
 |_=>false
theorem yrt {x y:V}{u:Value}(r:RelV y u)(f:ygr y=true):eqU x u=eqV y x:=by
 cases y with
 |non=>cases r;rfl
 |bl b=>cases r;rfl
 |int i=>obtain ⟨t,rfl⟩:=r;rfl
 |str z=>obtain ⟨t,rfl⟩:=r;rfl
 |_=>exact absurd (show false=true from f) Bool.false_ne_true
theorem yot {A:Around}{s:Shared}{x:V}{v:Value}(rx:RelV x v)(fx:ygr x=true):∀{xs:List V}{us:List Value},Vals xs us→xs.all ygr=true→∀u∈us,SeqAt.EqAt A s u v (eqU x u)
 |_,_,.nil,_=>fun u hu=>by cases hu
 |y::xs,u::us,.cons r t,f=>fun u' hu=>by
  rw[List.all_cons,Bool.and_eq_true] at f
  rcases List.mem_cons.mp hu with rfl|hu
  ·rw[yrt r f.1];exact ywf r rx f.1 fx
  ·exact yot rx fx t f.2 u' hu
theorem yau:yfa X (.builtin "len") (fun xs H Q=>∃p ys,xs=[.ref p]∧(SqL X.K H p ys∨SqT X.K H p ys)∧Q (.int ys.length) H):=by
 intro pins s σ H xs us Q I r h
 obtain ⟨p,ys,rfl,hq,q⟩:=h
 obtain ⟨u,rfl,rx⟩:=yy1 r
 cases rx
 have hn:=yjo
 rcases hq with hq|hq
 ·obtain ⟨its,r',pl,hz⟩:=I.list hq
  have hlen:=r'.length
  exact Calls.call_len_list pl.isList (by simp only[List.size_toArray] <;> omega) ⟨.int ys.length,H,I.tok _,⟨s.toks+1,by rw[List.size_toArray,hlen]⟩,q⟩
 ·obtain ⟨its,r',pl,hz⟩:=I.tuple hq
  have hlen:=r'.length
  exact len_tuple pl (by simp only[List.size_toArray] <;> omega) ⟨.int ys.length,H,I.tok _,⟨s.toks+1,by rw[List.size_toArray,hlen]⟩,q⟩
theorem yfc:yfa X (.type "list") (fun xs H Q=>∃p ys,xs=[.ref p]∧(SqL X.K H p ys∨SqT X.K H p ys)∧∀l,H l=none→Q (.ref l) (upd H l (.lst ys))):=by
 intro pins s σ H xs us Q I r h
 obtain ⟨p,ys,rfl,hq,q⟩:=h
 obtain ⟨u,rfl,rx⟩:=yy1 r
 cases rx
 have fin:∀(its:List Value),Vals ys its→ys.length≤sizeLine→∀(h':Heap) (c':Nat),(∀b o',s.heap.get? b=some o'→h'.get? b=some o')→
  h'.get? s.heap.objs.size=some { cls:=.type "list",dict:=none,data:=.seq its.toArray c',slots:=#[] }→EP X pins σ Q (.ref s.heap.objs.size) { s with heap:=h' }:=fun its r' hz h' c' kp e =>
  ⟨.ref s.heap.objs.size,_,I.laid (t':=s.toks) kp (Nat.le_refl _) (show ObjOk X.prog X.w _ h' _ (.lst ys) from ⟨hz,its,c',r',e⟩),rfl,q _ (I.hok.fresh (Nat.le_refl _))⟩
 rcases hq with hq|hq
 ·obtain ⟨its,r',pl,hz⟩:=I.list hq
  have hlen:=r'.length
  obtain ⟨o,ho,hc,n,hd⟩:=pl.isList
  exact call_list_seq p (.inl rfl) ho hc hd (fun h' c' kp e=>fin its r' hz h' c' kp e) (by simp only[List.size_toArray] <;> omega)
 ·obtain ⟨its,r',pl,hz⟩:=I.tuple hq
  have hlen:=r'.length
  obtain ⟨o,ho,hc,n,hd⟩:=pl
  exact call_list_seq p (.inr rfl) ho hc hd (fun h' c' kp e=>fin its r' hz h' c' kp e) (by simp only[List.size_toArray] <;> omega)
def tyV (K:PySem.W.Frag)(T:String)(x:V)(H:Hp):Prop:=match x with
 |.str _=>T = "str"
 |.int _=>T = "int"
 |.ref p=>(T = "list" ∧ ∃xs,SqL K H p xs)∨(T = "tuple" ∧ ∃o,K.lookup p=some o∧o.cls = .type "tuple" ∧ o.dict=none) ∨
  (T = "dict" ∧ ((∃kvs,H p=some (.dK kvs))∨∃kvs,H p=some (.dT kvs)))∨(T = "set" ∧ ∃S n,H p=some (.set S n))
 |_=>False
theorem yy4 {pins:List (Addr×Obj)}{σ:St}{H:Hp}{s:Shared}{T:String}{x:V}{v:Value}(I:Inv X pins σ H s)(r:RelV x v)(ty:tyV X.K T x H) :
 s.TypeIs v T∧∀a,v = .ref a→∃ob,s.heap.get? a=some ob∧ob.dict=none:=by
 cases x with
 |str z=>
  obtain ⟨t,rfl⟩:=r
  cases (show T = "str" from ty)
  exact⟨typeIs_str s z t,fun _ e=>nomatch e⟩
 |int i=>
  obtain ⟨t,rfl⟩:=r
  cases (show T = "int" from ty)
  exact⟨typeIs_int s i t,fun _ e=>nomatch e⟩
 |ref p=>
  cases r
  rcases ty with ⟨rfl,xs,hq⟩ | ⟨rfl,o,hk,hc,hd⟩ | ⟨rfl,hk⟩ | ⟨rfl,S,n,hk⟩
  ·obtain ⟨its,_,pl,_⟩:=I.list hq
   refine⟨pl.isList.typeIs,fun a e=>?_⟩
   cases e
   obtain ⟨o,n,e,c,hd,_⟩:=pl
   exact⟨o,e,hd⟩
  ·refine⟨⟨o,I.kIn p o hk,hc⟩,fun a e=>?_⟩
   cases e
   exact⟨o,I.kIn _ o hk,hd⟩
  ·have z:∃o,s.heap.get? p=some o∧o.ExactDict:=by
    rcases hk with ⟨kvs,hk⟩ | ⟨kvs,hk⟩
    ·obtain ⟨_,_,_,_,o,_,_,e,ex,_⟩:=I.hok p _ hk
     exact⟨o,e,ex⟩
    ·obtain ⟨_,_,_,_,o,_,_,e,ex,_⟩:=I.hok p _ hk
     exact⟨o,e,ex⟩
   obtain ⟨o,e,ex⟩:=z
   refine⟨⟨o,e,ex.1⟩,fun a e2=>?_⟩
   cases e2
   exact⟨o,e,ex.2.1⟩
  ·obtain ⟨o,_,_,_,e,ex,_⟩:=I.hok p _ hk
   refine⟨⟨o,e,ex.1⟩,fun a e2=>?_⟩
   cases e2
   exact⟨o,e,ex.2.1⟩
 |_=>exact False.elim ty
def tBM (K:PySem.W.Frag)(T:String)(r:V→List V→Hp→VK→Prop)(to:TE)(t:TA):TE:=fun σ H Q=>to σ H fun x H1=>tyV K T x H1∧t σ H1 fun xs H2=>r x xs H2 Q
variable {o e:Expr}{es:List Expr}{to:TE}{t:TA}{name:Str}{apos cpos:Pos}{T id:String}{r:V→List V→Hp→VK→Prop}
theorem yno (pa:PlainAttrs T) (slot:Slot T name id) (hty:typeOf (.builtin id)=pure (.type "method_descriptor")) (hm:MtR X id r) (ho:PE X o to) (ha:PA X (e::es) t)
 (hbase:attributeBase o name X.env (eval o X.env)=eval o X.env:=by rfl)
 (hfew:((backTo cpos (starEach (e::es) X.env)).all (fun x=>!x.1)&&(backToKw cpos (keywordEach [] X.env)).all (fun x=>x.1.isSome)
  && decide ((e::es).length+([]:List Keyword).length+(if ([]:List Keyword).isEmpty then 0 else 1)<30))=true:=by rfl)
 (hline:(apos.endLine == cpos.line)=true:=by rfl) (hs:starEach (e::es) X.env=(false,eval e X.env)::starEach es X.env:=by rfl) (hplain:(backTo cpos (starEach es X.env)).any (·.1)=false:=by rfl) :
 PE X (.Call (.Attribute o name apos) (e::es) [] cpos) (tBM X.K T r to t):=by
 refine⟨?_⟩
 intro pins s σ H Q I h
 refine wpAny_Call_method_late hbase hfew hline rfl (thn (ho pins s σ H _ I h) fun v s1 ⟨x,H1,I1,r1,ty,q1⟩=>?_)
 obtain ⟨h1,h2⟩:=yy4 I1 r1 ty
 refine⟨T,id,pa,slot,hty,h1,h2,?_⟩
 have hA:=ha cpos pins s1 σ H1 _ I1 q1
 rw[hs] at hA ⊢
 refine Calls.callWith_builtin (by show (false || (backTo cpos (starEach es X.env)).any (·.1))=false;rw[hplain] <;> rfl) (Calls.evalArgs_plain ?_)
 exact thn hA fun us s2 ⟨vs,H2,I2,r2,q2⟩=>hm pins s2 σ H2 x vs v us Q I2 r1 r2 q2
end
def MtM (X:Cx)(id:String)(r:V→List V→Hp→VK→Prop):Prop:=
 ∀(pins:List (Addr×Obj)) (s:Shared) (σ:St) (H:Hp) (x:V) (xs:List V) (v:Value) (us:List Value) (Q:VK),Inv X pins σ H s→RelV x v→Vals xs us→r x xs H Q→
  wpAny (model X.prog X.w) X.A (call (.builtin id) (v::us)) (EP X pins σ Q) X.xe s
theorem Vals.one:∀{x:V}{us:List Value},Vals [x] us→∃u,us=[u]∧RelV x u
 |_,_,.cons r .nil=>⟨_,rfl,r⟩
theorem Vals.two:∀{x y:V}{us:List Value},Vals [x,y] us→∃u v,us=[u,v]∧RelV x u∧RelV y v
 |_,_,_,.cons r (.cons q .nil)=>⟨_,_,rfl,r,q⟩
theorem Vals.rep {xs:List V}{us:List Value}(h:Vals xs us):∀k:Nat,Vals (List.replicate k xs).flatten (List.replicate k us).flatten
 |0=>.nil
 |k+1=>by
  rw[List.replicate_succ,List.replicate_succ,List.flatten_cons,List.flatten_cons]
  exact Vals.append h (Vals.rep h k)
theorem yls (its:List Value):∀(k:Nat) (acc:List Value),
 List.foldl (fun x1 x2=>x1++x2) acc.toArray (List.replicate k its.toArray)=(acc++(List.replicate k its).flatten).toArray
 |0,acc=>by simp
 |k+1,acc=>by
  have e:acc.toArray++its.toArray=(acc++its).toArray:=by simp
  have e2:(acc++its)++(List.replicate k its).flatten=acc++(List.replicate (k+1) its).flatten:=by
   rw[List.replicate_succ,List.flatten_cons,List.append_assoc]
  rw[← e2,← yls its k (acc++its),← e,List.replicate_succ,List.foldl_cons]
section
variable {X:Cx}{pins:List (Addr×Obj)}{σ:St}{H:Hp}{s:Shared}{l b:Addr}{xs ys zs:List V}
theorem Inv.lset {its its':List Value}{n:Nat}{f:Array Value→Array Value}{t':Nat}(I:Inv X pins σ H s)(hH:H l=some (.lst xs))
 (e:s.heap.get? l=some { cls:=.type "list",data:=.seq its.toArray n }) (hf:f its.toArray=its'.toArray) (hv:Vals ys its') (hz:ys.length≤sizeLine) :
 Inv X pins σ (upd H l (.lst ys)) { s with heap:=s.heap.update l (Obj.mapSeq f),toks:=t' }:=by
 have q:=PySem.IsL.update e f
 rw[hf] at q
 refine I.write (x:=l) (e:=l) (by rw[hH];exact trivial) (.inl rfl) (fun b' u hb hu=>(Heap.get?_update_other s.heap (Obj.mapSeq f) (Ne.symm hb)).trans hu) ⟨_,q⟩ ?_
 exact⟨hz,its',_,hv,q⟩
theorem Inv.lnew {its:List Value}{t':Nat}(I:Inv X pins σ H s)(hv:Vals ys its)(hz:ys.length≤sizeLine) :
 Inv X pins σ (upd H s.heap.objs.size (.lst ys)) { s with heap:=s.heap.push { cls:=.type "list",data:=.seq its.toArray },toks:=t' } :=
 I.laid (fun _ _ q=>Heap.get?_push_of_some _ q) (Nat.le_refl _) ⟨hz,its,0,hv,Heap.get?_push_size _ rfl⟩
theorem Inv.fresh (I:Inv X pins σ H s):H s.heap.objs.size=none:=I.hok.fresh (Nat.le_refl _)
theorem Inv.lstM (I:Inv X pins σ H s) (hH:H l=some (.lst xs)):xs.length≤sizeLine∧∃(its:List Value) (n:Nat),Vals xs its∧xs.length=its.length∧s.heap.get? l=some { cls:=.type "list",data:=.seq its.toArray n }:=by
 obtain ⟨z,its,n,r,e⟩:=I.hok l _ hH
 exact⟨z,its,n,r,r.length,e⟩
theorem yul {n:Nat}(h:n≤sizeLine):Builtin.List.listTooLong n=false:=by
 unfold Builtin.List.listTooLong
 exact decide_eq_false (by omega)
end
section
variable {X:Cx}
def yxc:V→List V→Hp→VK→Prop:=fun x vs H Q=>∃l xs y,x = .ref l∧vs=[y]∧H l=some (.lst xs)∧xs.length<sizeLine∧Q .non (upd H l (.lst (xs++[y])))
theorem yd8:MtM X "list.append" yxc:=by
 intro pins s σ H x vs v us Q I rx rv h
 obtain ⟨l,xs,y,rfl,rfl,hH,hz,q⟩:=h
 cases rx
 obtain ⟨u,rfl,ru⟩:=rv.one
 obtain ⟨z,its,n,r,hl,e⟩:=I.lstM hH
 refine call_meets F.slot_list_append ⟨_,e,rfl⟩ F.entry_list_append (F.args_list_append_2 _ _) (PySem.list_append l its.toArray n u (by rw[List.size_toArray];omega)) ⟨e,?_⟩
 refine⟨.non,_,I.lset (its':=its++[u]) hH e (by simp) (r.append (.cons ru .nil)) ?_,rfl,q⟩
 rw[List.length_append,List.length_singleton]
 omega
def zbr:R2:=fun x y H Q=>∃l b xs zs,x = .ref l∧y = .ref b∧H l=some (.lst xs)∧H b=some (.lst zs)∧xs.length+zs.length≤sizeLine∧∀p,H p=none→Q (.ref p) (upd H p (.lst (xs++zs)))
theorem yru:OpR X (binaryOp .Add) zbr:=by
 intro pins s σ H x y v u Q I rx ry h
 obtain ⟨l,b,xs,zs,rfl,rfl,hH,hB,hz,q⟩:=h
 cases rx
 cases ry
 obtain ⟨z,its,n,r,hl,e⟩:=I.lstM hH
 obtain ⟨z2,its2,n2,r2,hl2,e2⟩:=I.lstM hB
 refine PySem.P.add_list e e2 ?_ (by rw[List.size_toArray,List.size_toArray];omega)
 have ea:its.toArray++its2.toArray=(its++its2).toArray:=by simp
 rw[ea]
 exact⟨.ref _,_,I.lnew (t':=s.toks) (r.append r2) (by rw[List.length_append];omega),rfl,q _ I.fresh⟩
def zbs:R2:=fun x y H Q=>∃l k xs,x = .ref l∧y = .int k∧H l=some (.lst xs)∧-(2 ^ 63)≤k∧k<2 ^ 63∧xs.length*k.toNat≤sizeLine∧
 ∀p,H p=none→Q (.ref p) (upd H p (.lst (List.replicate k.toNat xs).flatten))
theorem yxd {α:Type}(xs:List α)(k:Nat):(List.replicate k xs).flatten.length=k*xs.length:=by
 induction k with
 |zero=>simp
 |succ k ih=>rw[List.replicate_succ,List.flatten_cons,List.length_append,ih,Nat.succ_mul,Nat.add_comm]
theorem yrv:OpR X (binaryOp .Mult) zbs:=by
 intro pins s σ H x y v u Q I rx ry h
 obtain ⟨l,k,xs,rfl,rfl,hH,h1,h2,hz,q⟩:=h
 cases rx
 obtain ⟨t,rfl⟩:=ry
 obtain ⟨z,its,n,r,hl,e⟩:=I.lstM hH
 have hlen:its.toArray.size*k.toNat≤sizeLine:=by rw[List.size_toArray,← hl];exact hz
 have hcap:¬ its.toArray.size*k.toNat > (2 ^ 63-1) / 8:=by
  have:(sizeLine:Nat)≤(2 ^ 63-1) / 8:=by decide
  omega
 have hfit:¬ (!Builtin.List.listFitsIndex k)=true:=by
  rw[fitsIndex_both h1 h2]
  exact Bool.false_ne_true
 have hlong:¬ Builtin.List.listTooLong (its.toArray.size*k.toNat)=true:=by
  rw[yul hlen]
  exact Bool.false_ne_true
 have hnew:List.foldl (fun x1 x2=>x1++x2) #[] (List.replicate (if its.toArray.isEmpty=true then 0 else k.toNat) its.toArray)=(List.replicate k.toNat its).flatten.toArray:=by
  have f0:∀m:Nat,List.foldl (fun x1 x2=>x1++x2) #[] (List.replicate m its.toArray)=(List.replicate m its).flatten.toArray:=fun m=>by
   have:=yls its m []
   rw[List.nil_append] at this
   exact this
  rw[f0]
  cases its with
  |nil=>simp
  |cons a r'=>rw[if_neg (by simp)]
 refine wpAny_binaryOp_repeat_ref (T := "list") (U := "int") (by decide) ⟨_,e,rfl⟩ (fun s'=>typeIs_int s' k t) noFill_list_mul F.fills_int_mul F.slot_int_rmul repeat_list F.slot_int_index.lookup
  (call_meets F.slot_int_rmul (typeIs_int s k t) F.entry_int_rmul (F.args_int_rmul_2 _ _) (int___rmul___int_list k t l its.toArray n)
   ⟨e,rfl,⟨_,e,rfl⟩,call_meets F.slot_list_mul ⟨_,e,rfl⟩ F.entry_list_mul (F.args_list_mul_2 _ _) (AutoListH.list___mul___list_int_3 l its.toArray n k t hfit hcap hlong) ⟨e,?_⟩⟩)
 rw[hnew]
 exact⟨.ref _,_,I.lnew (t':=s.toks) (r.rep k.toNat) (by rw[yxd,Nat.mul_comm];exact hz),rfl,q _ I.fresh⟩
end
section
variable {prog:Program}{w:World}{A:Around}{E:Value→Shared→Prop}{s:Shared}
end
section
variable {X:Cx}
end
end L2
namespace Att
open PySem PySem.W PySem.Calls PyProof.Rows
theorem yhx {P:Params}{h:Heap}:∀(ns:List Int) (vs:List Value),WellAll P h vs (ns.map WData.int)→IntsAre vs ns:=by
 intro ns
 induction ns with
 |nil=>
  intro vs w
  rw[List.map_nil] at w
  cases w
  exact .nil
 |cons n ns ih=>
  intro vs w
  rw[List.map_cons] at w
  cases w with
  |cons a b=>
   cases a
   exact .cons _ _ (ih _ b)
theorem yrw {l:OpenLaw}{n:Nat}(hn:l.most=some n){P:Params}{h:Heap}{args:List WData}{vals:List Value}
 (hpre:l.row.toRowW.claim.pre args=true) (hwl:WellAll P h vals args) :
 ∃a vs ns,vals=[Value.ref a]∧args=[WData.list (ns.map WData.int)]∧h.get? a=some { cls:=.type "list",data:=.seq vs.toArray }∧IntsAre vs ns∧ns.length≤n:=by
 have hsh:WShape.hasAll [] args [.list .int]=true:=(pre_splitW hpre).1
 have hc:l.pre.holds [] { args:=args } = true:=(pre_splitW hpre).2
 obtain ⟨d,r,rfl,h1,h2⟩:=hasAllW_cons hsh
 obtain rfl:=hasAllW_nil h2
 obtain ⟨xs,rfl,h3⟩:=hasW_list h1
 obtain ⟨ns,rfl⟩:=items_int h3
 have hlen:ns.length≤n:=by
  unfold OpenLaw.pre at hc
  have h4:(WTm.not (.lt (.lit (.int (n:Int))) (.len (.arg 0)))).holds [] { args:=[.list (ns.map .int)] } = true:=by
   have h4:=(holds_andW hc).1
   rw[hn] at h4
   exact h4
  have h5:=condW_of h4 (w_not (w_lt w_lit (w_len_list (w_arg rfl))))
  rw[List.length_map] at h5
  refine Nat.le_of_not_lt fun q=>?_
  have q':(n:Int)<((ns.length:Nat):Int):=by omega
  first
   |(rw[decide_eq_true q'] at h5;exact absurd h5 (by decide))
   |(simp at h5;omega)
 cases hwl with
 |cons w1 w2=>
  cases w2
  cases w1 with
  |list ho hall=>exact⟨_,_,ns,rfl,rfl,ho,yhx ns _ hall,hlen⟩
theorem yrx (l:OpenLaw)(args:List WData):l.row.toRowW.claim.post args (.bool true) args=true:=
 postW_of (r:=l.row.toRowW) (X:=(true == true))
  (show WShape.has [] (.bool true) .bool=true by first|rfl|decide|simp [WShape.has,WShape.arms,WShape.armsAll])
  (show (WTm.eq .res (.lit (.bool true))).value [] { args:=args,res:=some (.bool true),after:=args } = some (.bool (true == true)) from w_eq_bool (w_res rfl) w_lit) rfl
theorem attach_call {l:OpenLaw}{n:Nat}{q:Program}{loose:List Str}{XP:(Str→Option Value)→Heap→Prop}{YP:World→Heap→Prop}{d:DefRec}
 (hn:l.most=some n) (hdf:d.params.defaults=[])
 (call:∀(w:World) (s₀ s₁:Shared) (mg mb:Str→Option Value) (fa:Addr) (o:Obj) (pm cd doc:Value) (a:Addr) (vs:List Value) (ns:List Int),
  Ground q loose [] XP w s₀ mg mb s₁.heap→YP w s₁.heap→
  s₁.heap.get? fa=some o→o.data = .func (docDef d.name d.params d.body d.scope pm cd doc)→s₁.heap.CodeRec cd d.name→mg d.name=some (.ref fa)→
  s₁.heap.get? a=some { cls:=.type "list",data:=.seq vs.toArray }→IntsAre vs ns→ns.length≤n→s₁.gens = #[] →
  codeAny (model l.prog w) callerA (.call (.ref fa) ⟨[.ref a],[]⟩) (fun r s'=>r = .ok (.ret (.bool true))∧OldK s₁.heap s'.heap∧s'.os=s₁.os∧AllBare s'.gens) s₁) :
 WalkO q loose XP YP l.row.toRowW d [] (fun f vs=>PySem.call f vs):=by
 intro w s₀ s₁ mg mb G Y fa o pm cd doc dV kV ho hd hcd hD hmg hg args vals as hpre hlay hrd hwl hlo
 obtain rfl:dV = .none:=Dflts.none hD hdf
 obtain rfl:kV = .none:=Dflts.noKw hD
 obtain ⟨a,vs,ns,rfl,rfl,hobj,hints,hlen⟩:=yrw hn hpre hwl
 refine enter_call (codeAny_mono (call w s₀ s₁ mg mb fa o pm cd doc a vs ns G Y ho (fd_plain hd) hcd hmg hobj hints hlen hg) fun r s' hq=>?_)
 obtain ⟨rfl,h2,h3,h4⟩:=hq
 exact⟨.inl ⟨.bool true,.bool true,[],rfl,fun _=>rfl,.bool true,yrx l _,fun _=>⟨List.Pairwise.nil,fun _ hm=>(nomatch hm)⟩⟩,h2,h3,h4⟩
section
variable {prog:Program}{w:World}{A:Around}{E:Value→Shared→Prop}{s:Shared}{K:Frag}
end
end Att
namespace L2
open PySem PySem.Spec PyProof.Rows
theorem ylt:∀{vs:List Value}{ns:List Int},IntsAre vs ns→Vals (ns.map V.int) vs
 |_,_,.nil=>.nil
 |_,_,.cons n t h=>.cons ⟨t,rfl⟩ (ylt h)
def yaq (s:Stmt):Arguments:=match s with
 |.FunctionDef _ a _ _ _ _ _ _ _ _=>a
 |_=>{ posonlyargs:=[],args:=[],vararg:=none,kwonlyargs:=[],kw_defaults:=[],kwarg:=none,defaults:=[] }
def yap (s:Stmt):List Stmt:=match s with
 |.FunctionDef _ _ b _ _ _ _ _ _ _=>b
 |_=>[]
def yaa (s:Stmt):Scope:=match s with
 |.FunctionDef _ _ _ _ _ _ sc _ _ _=>sc
 |_=>{ kind:=.function,names:=[],isGenerator:=false,isCoroutine:=false }
abbrev CX0:CXT:=fun _ _ _ _ _ _=>False
abbrev E0:XK:=fun _ _ _=>False
theorem ya9 {X:Cx}:yjp CX0 X E0:=fun _ _ _ _ _ _ _ h=>h.elim
structure Fun (K:PySem.W.Frag) (x qual:Str) (st:Stmt) (f:Addr) (fd:FuncData):Prop where
 ex:∃(oc:Value) (od:Option Addr) (kV doc pm:Value) (an:Option Addr) (cdv ct:Value) (osl:Array (Option Value)),
  fd=PySem.W.fnOf x qual (yaq st) (yap st) (yaa st) .none kV doc pm an cdv ct∧K.lookup f=some ⟨oc,od,.func fd,osl⟩∧PySem.W.codeIn K cdv qual=true
 kp:PySem.W.keepIn K (.ref f)=true
section
variable {P:Program}{w:World}{K:PySem.W.Frag}{mg:Str→Option Value}{base:Heap}
theorem Fun.ok {x qual:Str}{st:Stmt}{f:Addr}{fd:FuncData}{N ps:List Str}{k:Nat}{sp:Sp}(F:Fun K x qual st f fd)(S:FnScope N ps (yaa st))(len:∀vs H Q E,sp vs H Q E→vs.length=ps.length)
 (hbody:∀(cdv:Value) (A:Around) (outer:List Env) (s:Shared) (H:Hp) (vs:List V) (Q:VK) (E:XK),Room k (A.deeper (envOfC qual (yaa st) s.heap.objs.size f cdv))→sp vs H Q E→
  ∃t,PSs (yq3 CX0 P w K mg base N qual (yaa st) f cdv A outer s H E).nox (yap st) t∧t { nx:=fun _ H'=>Q .non H',rt:=Q } (yi8 N vs) H):FnOk P w K mg base CX0 (k+1) f fd ps sp:=by
 obtain ⟨oc,od,kV,doc,pm,an,cdv,ct,osl,rfl,lk,hcd⟩:=F.ex
 refine yw8 lk hcd S len fun A outer s H vs Q E hr hsp=>?_
 obtain ⟨t,h,q⟩:=hbody cdv A outer s H vs Q E hr hsp
 exact⟨t,h.nox,q⟩
theorem Fun.binds {x qual:Str}{st:Stmt}{f:Addr}{fd:FuncData}{ps:List Str}(F:Fun K x qual st f fd)
 (h:∀(kV doc pm:Value) (an:Option Addr) (cdv ct:Value) (us:List Value),us.length=ps.length→bindArgs (PySem.W.fnOf x qual (yaq st) (yap st) (yaa st) .none kV doc pm an cdv ct) ⟨us,[]⟩=pure (ps.zip us)):Binds K fd ps []:=by
 obtain ⟨oc,od,kV,doc,pm,an,cdv,ct,osl,rfl,lk,hcd⟩:=F.ex
 exact .all (h kV doc pm an cdv ct)
theorem yaz {x qual:Str}{st:Stmt}{f:Addr}{oc:Value}{od an:Option Addr}{osl:Array (Option Value)}{kV doc pm cdv ct:Value}(l:K.lookup f=some ⟨oc,od,.func (PySem.W.fnOf x qual (yaq st) (yap st) (yaa st) .none kV doc pm an cdv ct),osl⟩)
 (c:PySem.W.codeIn K cdv qual=true) (k:PySem.W.keepIn K (.ref f)=true):Fun K x qual st f (PySem.W.fnOf x qual (yaq st) (yap st) (yaa st) .none kV doc pm an cdv ct):=⟨⟨oc,od,kV,doc,pm,an,cdv,ct,osl,rfl,l,c⟩,k⟩
end
theorem yy5 {A:Around}{k:Nat}(hr:Room k A):A.units+1<cLine:=Nat.lt_of_le_of_lt (Nat.add_le_add_left (by decide:1≤64) _) hr.units
theorem yas {n:Nat}(h:n≤1000):n<sizeLine:=Nat.lt_of_le_of_lt h (by decide)
section
variable {X:Cx}
theorem pv (i:Nat) {x:Str}{pos:Pos} (hN:X.N[i]? = some x:=by rfl) (hv:Vis X.env.scope x:=by first|exact Or.inl rfl|exact Or.inr (Or.inl rfl)|exact Or.inr (Or.inr rfl)) (hd:(x == ("__debug__" : Str))=false:=by decide)
 (hcd:(x == ("__classdict__" : Str))=false:=by decide):PE X (.Name x pos) (yck i):=yys hN hv hd hcd
end
theorem ycq {A B:Prop}(h:B):if false=true then A else B:=by
 rw[if_neg Bool.false_ne_true]
 exact h
theorem yeh {A B:Prop}(h:A):if true=true then A else B:=by
 rw[if_pos rfl]
 exact h
theorem yym {c A B:Prop}[Decidable c](h1:c→A)(h2:¬ c→B):if c then A else B:=by
 by_cases h:c
 ·rw[if_pos h]
  exact h1 h
 ·rw[if_neg h]
  exact h2 h
theorem yy6 {c A B:Prop}[Decidable c](hc:c)(h:B):if (!decide c)=true then A else B:=by
 rw[decide_eq_true hc]
 exact ycq h
def Same (H H':Hp):Prop:=∀b o,H b=some o→H' b=some o
theorem Same.refl (H:Hp):Same H H:=fun _ _ h=>h
theorem Same.trans {H H1 H2:Hp}(a:Same H H1)(b:Same H1 H2):Same H H2:=fun c o h=>b c o (a c o h)
theorem Same.free {H H':Hp}(e:Same H H'){l:Addr}(h:H' l=Option.none):H l=Option.none:=by
 cases q:H l with
 |none=>rfl
 |some o=>
  rw[e l o q] at h
  cases h
end L2
set_option maxHeartbeats 4000000
namespace L2
open PySem PySem.Spec PyProof.Rows
theorem yum {P:Program}{w:World}{H:Hp}{h:Heap}{a:Addr}{o:HO}(x:ObjOk P w H h a o):∃ob,h.get? a=some ob:=by
 induction o with
 |lst xs=>obtain ⟨_,_,_,_,e⟩:=x;exact⟨_,e⟩
 |tup xs=>obtain ⟨_,_,_,ob,e,_⟩:=x;exact⟨_,e⟩
 |dK kvs=>obtain ⟨_,_,_,_,o,_,_,e,_⟩:=x;exact⟨_,e⟩
 |dT kvs=>obtain ⟨_,_,_,_,o,_,_,e,_⟩:=x;exact⟨_,e⟩
 |set S n=>obtain ⟨o,_,_,_,e,_⟩:=x;exact⟨_,e⟩
 |ins C dx fs=>obtain ⟨_,_,_,e,_⟩:=x;exact⟨_,e⟩
 |own y=>obtain ⟨_,e⟩:=x;exact⟨_,e⟩
 |xd fs=>obtain ⟨_,⟨_,_,_,e,_⟩,_⟩:=x;exact⟨_,e⟩
 |rng lo hi=>obtain ⟨_,_,_,e⟩:=x;exact⟨_,e⟩
 |frz ob u _=>obtain ⟨e,_⟩:=x;exact⟨_,e⟩
 |tbl ps=>exact⟨_,(show h.get? a=some _ from x)⟩
 |met f y=>exact⟨_,(show h.get? a=some _ from x)⟩
 |ext φ=>obtain ⟨_,e,_⟩:=x;exact e
 |cod q pos=>rcases x with e|⟨_,e,_⟩ <;> exact⟨_,e⟩
structure UnB (fs:List Addr) (H H':Hp) (h B h':Heap):Prop where
 keep:∀b o,h.get? b=some o→H b=none→b ∉ fs→B.get? b=some o
 slot:∀b o,h.get? b=some o→H b=none→b∈fs→∃sl,h'.get? b=some { o with slots:=sl }
 free:∀b o,h.get? b=some o→H b=none→H' b=none
 there:∀b o,h.get? b=some o→b∈fs∨∃o',B.get? b=some o'
 tups:∀b xs,H b=some (.tup xs)→H' b=some (.tup xs)
 frzs:∀b o u,H b=some (.frz o u)→H' b=some (.frz o u)
 tbls:∀b ps,H b=some (.tbl ps)→∃more,H' b=some (.tbl (ps++more))
def CXE (P:Program)(w:World):CXT:=fun outer H s E e s'=>∃(a:Addr) (cls a0:Value) (H':Hp) (B:Heap),e = .ref a∧s'.os=s.os∧AllBare s'.gens∧E cls none H'∧HOk P w H' B∧H' a=none∧s.heap.get? a=none∧
 Heap.FlyingW B outer a cls a0 s'.heap∧UnB (frs outer) H H' s.heap B s'.heap
section
variable {X:Cx}{pins:List (Addr×Obj)}{σ:St}{H:Hp}{s s':Shared}{E:XK}
theorem ylu {CX:CXT}{P:Program}{w:World}{K:PySem.W.Frag}{mg:Str→Option Value}{base:Heap}{N:List Str}{qual:Str}{scope:Scope}{f:Addr}{cd:Value}{A:Around}{outer:List Env}{s₀:Shared}{H₀:Hp}
 {pins:List (Addr×Obj)}{σ:St}{H:Hp}{s:Shared}{h':Heap}{e:Addr}{cls:Value}{args:List Value}
 (I:Inv (yq3 (CXE P w) P w K mg base N qual scope f cd A outer s₀ H₀ E) pins σ H s) (hx:Heap.MadeExcOf s.heap h' e cls args) (hE:E cls none H) :
 (yq3 (CXE P w) P w K mg base N qual scope f cd A outer s₀ H₀ E).xe (.ref e) { s with heap:=h' }:=by
 have hst:=I.stack
 have hlt:=I.lt
 have hnoex:∀b:Addr,b ∉ ([]:List Addr):=fun b z=>nomatch z
 show wpAny (model P w) (A.deeper (envOfC qual scope s₀.heap.objs.size f cd)) (leaving (envOfC qual scope s₀.heap.objs.size f cd) (.ref e)) (fun _ s''=>CXE P w outer H₀ s₀ E (.ref e) s'') (fun e' s''=>CXE P w outer H₀ s₀ E e' s'') { s with heap:=h' }
 refine wpAny_leaves_madeW (base:=PySem.W.hideAll s.heap (frs (envOfC qual scope s₀.heap.objs.size f cd::outer))) (h:=s.heap) (L:=s₀.heap.objs.size) I.ok.frames rfl (fun b o q=>PySem.W.of_hideAll _ q)
  (PySem.W.funFrames_hide hst fun env he b hb=>List.mem_filterMap.mpr ⟨env,he,hb⟩) hx fun h'' t fly _ _ upto=>?_
 have hsub:∀b,b∈frs outer→b∈frs (envOfC qual scope s₀.heap.objs.size f cd::outer):=fun b hb=>by
  obtain ⟨env,he,hf⟩:=List.mem_filterMap.mp hb
  exact List.mem_filterMap.mpr ⟨env,.tail _ he,hf⟩
 have hnot:∀b o,s₀.heap.get? b=some o→b ∉ frs outer→b ∉ frs (envOfC qual scope s₀.heap.objs.size f cd::outer):=fun b o q nb hb=>by
  rcases List.mem_cons.mp (I.stkSub b hb) with z|z
  ·exact absurd (Heap.lt_size q) (by rw[z];exact Nat.lt_irrefl _)
  ·exact nb z
 have hfree:∀b∈frs (envOfC qual scope s₀.heap.objs.size f cd::outer),H b=none:=I.stkFree
 have nohid:∀b u,H b=some u→b ∉ frs (envOfC qual scope s₀.heap.objs.size f cd::outer):=fun b u q hb=>by rw[hfree b hb] at q;cases q
 refine⟨e,cls,.ref t,H,_,rfl,I.os,I.bare,hE,fun b u q=>?_,?_,?_,fly,?_⟩
 ·refine(I.hok b u q).stay (fun c v hc r=>PySem.W.hideAll_get _ r ?_) (fun _ r=>r) fun _ _ r=>r
  rcases hc with z|z
  ·rw[z];exact nohid b u q
  ·exact nohid c _ z
 ·cases q:H e with
  |none=>rfl
  |some u=>
   obtain ⟨ob,e1⟩:=yum (I.hok e u q)
   rw[hx.new] at e1;cases e1
 ·cases q:s₀.heap.get? e with
  |none=>rfl
  |some o=>
   obtain ⟨o',e1⟩:=I.base.there e o q (hnoex e)
   rw[hx.new] at e1;cases e1
 ·refine⟨fun b o q n nb=>PySem.W.hideAll_get _ (I.base.keep b o q n nb (hnoex b)) (hnot b o q nb),fun b o q n hb=>?_,fun b o q n=>I.base.free b o q n (hnoex b),fun b o q=>?_,I.base.tups,I.base.frzs,I.base.tbls⟩
  ·obtain ⟨sl,e1⟩:=I.base.slot b o q n hb (hnoex b)
   obtain ⟨_,ob,e2,nf⟩:=hst.mem (hsub b hb)
   rw[e1] at e2;cases e2
   have e3:=hx.keeps b _ e1
   obtain ⟨sl',e4⟩:=upto b _ e3 nf
   exact⟨sl',e4⟩
  ·by_cases hb:b∈frs outer
   ·exact .inl hb
   ·obtain ⟨o',e1⟩:=I.base.there b o q (hnoex b)
    exact .inr ⟨o',PySem.W.hideAll_get _ e1 (hnot b o q hb)⟩
theorem yez {P:Program}{w:World}{K:PySem.W.Frag}{mg:Str→Option Value}{base:Heap}{N:List Str}{qual:Str}{scope:Scope}{f:Addr}{cd:Value}{A:Around}{outer:List Env}{s₀:Shared}{H₀:Hp}{E E':XK}
 (hE:∀cls H,E' cls none H→E cls none H):yjp (CXE P w) (yq3 (CXE P w) P w K mg base N qual scope f cd A outer s₀ H₀ E) E':=by
 intro pins σ H s e s' I h
 obtain ⟨a,cls,a0,H',B,rfl,hos,hb,hE',hok,hna,hfr,fly,u⟩:=h
 have hnoex:∀b:Addr,b ∉ ([]:List Addr):=fun b z=>nomatch z
 have hsub:∀b,b∈frs outer→b∈frs (envOfC qual scope s₀.heap.objs.size f cd::outer):=fun b hb=>by
  obtain ⟨env,he,hf⟩:=List.mem_filterMap.mp hb
  exact List.mem_filterMap.mpr ⟨env,.tail _ he,hf⟩
 have hnot:∀b o,s₀.heap.get? b=some o→b ∉ frs outer→b ∉ frs (envOfC qual scope s₀.heap.objs.size f cd::outer):=fun b o q nb hb=>by
  rcases List.mem_cons.mp (I.stkSub b hb) with z|z
  ·exact absurd (Heap.lt_size q) (by rw[z];exact Nat.lt_irrefl _)
  ·exact nb z
 show wpAny (model P w) (A.deeper (envOfC qual scope s₀.heap.objs.size f cd)) (leaving (envOfC qual scope s₀.heap.objs.size f cd) (.ref a)) (fun _ s''=>CXE P w outer H₀ s₀ E (.ref a) s'') (fun e' s''=>CXE P w outer H₀ s₀ E e' s'') s'
 refine wpAny_leaves_onW (L:=s₀.heap.objs.size) I.ok.frames rfl fly fun h'' fly' upto=>?_
 refine⟨a,cls,a0,H',B,rfl,hos.trans I.os,hb,hE cls H' hE',hok,hna,?_,fly',?_⟩
 ·cases q:s₀.heap.get? a with
  |none=>rfl
  |some o=>
   obtain ⟨o',e1⟩:=I.base.there a o q (hnoex a)
   rw[hfr] at e1;cases e1
 ·refine⟨fun b o q n nb=>u.keep b o (I.base.keep b o q n nb (hnoex b)) (I.base.free b o q n (hnoex b)) (hnot b o q nb),fun b o q n hb=>?_,fun b o q n=>?_,fun b o q=>?_,fun b xs q=>u.tups b xs (I.base.tups b xs q),fun b o x q=>u.frzs b o x (I.base.frzs b o x q),fun b ps q=>?_⟩
  ·obtain ⟨sl,e1⟩:=I.base.slot b o q n hb (hnoex b)
   obtain ⟨sl',e2⟩:=u.slot b _ e1 (I.base.free b o q n (hnoex b)) (hsub b hb)
   obtain ⟨_,ob,e3,nf⟩:=fly.2.2.1.mem (hsub b hb)
   rw[e2] at e3;cases e3
   obtain ⟨sl'',e4⟩:=upto b _ e2 nf
   exact⟨sl'',e4⟩
  ·obtain ⟨o',e1⟩:=I.base.there b o q (hnoex b)
   exact u.free b o' e1 (I.base.free b o q n (hnoex b))
  ·by_cases hb:b∈frs outer
   ·exact .inl hb
   ·obtain ⟨o',e1⟩:=I.base.there b o q (hnoex b)
    rcases u.there b o' e1 with z|z
    ·exact absurd z (hnot b o q hb)
    ·exact .inr z
  ·obtain ⟨m1,e1⟩:=I.base.tbls b ps q
   obtain ⟨m2,e2⟩:=u.tbls b _ e1
   exact⟨m1++m2,by rw[e2,Array.append_assoc]⟩
end
end L2
namespace L2
open PySem PySem.Spec PyProof.Rows PySem.Builtin.ObjectAttr PySem.Builtin.Getset_descriptor
section
variable {prog:Program}{w:World}{A:Around}{E:Value→Shared→Prop}{K:PySem.W.Frag}{x D:Addr}{s:Shared}
end
end L2
namespace L2
open PySem PySem.Spec PyProof.Rows
theorem yxe {K:PySem.W.Frag}{h:Heap}{C:Addr}{bmB:List Value}{newId:String}(X:K.In h)(q:PySem.W.excIn K C bmB newId=true) :
 ∃bm N nm qn bs hd sn sub ab col dd k0 k1 k2 k3 k5 mN,h.get? C=some (excClassObj nm qn C N bs bm hd sn sub ab col dd k0 k1 k2 k3 k5 newId)∧h.Ns N mN∧mN "__init__" = none∧OwnTail h bmB bm:=by
 unfold PySem.W.excIn at q
 split at q
 ·rename_i dd cd sl look
  split at q
  ·rename_i C2 bm k0 k1 k2 k3 n k5 hmro hsl
   simp only[Bool.and_eq_true,beq_iff_eq,Bool.not_eq_true'] at q
   obtain ⟨⟨⟨⟨⟨rfl,rfl⟩,hde⟩,htl⟩,hns⟩,hin⟩:=q
   obtain ⟨nm,bs,mro,ns,qn,hd,sn,sub,ab,col,del⟩:=cd
   dsimp only at hmro hde hns hin
   subst hmro hde
   have es:sl = #[k0,k1,k2,k3,some (.builtin n),k5]:=by
    obtain ⟨ls⟩:=sl
    have e1:ls=[k0,k1,k2,k3,some (.builtin n),k5]:=hsl
    rw[e1]
   subst es
   exact⟨bm,ns,nm,qn,bs,hd,sn,sub,ab,col,dd,k0,k1,k2,k3,k5,_,X _ _ look,.of_isNs (PySem.W.isNs_of_in X hns),PySem.W.nsMap_none_of_in X hns hin,PySem.W.tail_of_in X htl⟩
  ·cases q
 ·cases q
section
variable {X:Cx}
def yy7 (C:Addr)(E:XK)(t:TA):TS:=fun D σ H=>t σ H fun vs H1=>vs.length≤sizeLine∧E (.ref C) none H1
def yy8 (X:Cx)(E:XK):Prop:=∀(pins:List (Addr×Obj)) (σ:St) (H:Hp) (s:Shared) (h':Heap) (e:Addr) (cls:Value) (args:List Value),Inv X pins σ H s→Heap.MadeExcOf s.heap h' e cls args→E cls none H→X.xe (.ref e) { s with heap:=h' }
theorem yf9 {P:Program}{w:World}{K:PySem.W.Frag}{mg:Str→Option Value}{base:Heap}{N:List Str}{qual:Str}{scope:Scope}{f:Addr}{cd:Value}{A:Around}{outer:List Env}{s₀:Shared}{H₀:Hp}{E:XK} :
 yy8 (yq3 (CXE P w) P w K mg base N qual scope f cd A outer s₀ H₀ E) E:=fun _ _ _ _ _ _ _ _ I hx hE=>ylu (CX:=CXE P w) I hx hE
theorem ydz {x:Str}{C:Addr}{B newId initId:String}{bmB:List Value}{e₀:Expr}{rest:List Expr}{np cpos pos:Pos}{t:TA}{E:XK}(hg:Gl X x)(hm:X.mg x=some (.ref C))(hq:PySem.W.excIn X.K C bmB newId=true)
 (FB:ExcBaseFacts B newId initId bmB) (hcalm:X.calm=true) (hxe:yy8 X E) (ha:PA X (e₀::rest) t) (hd:(x == ("__debug__" : Str))=false:=by decide)
 (he:starEach (e₀::rest) X.env=(false,eval e₀ X.env)::starEach rest X.env:=by rfl) (hpl:(backTo cpos (starEach rest X.env)).any (·.1)=false:=by rfl) :
 PS X (.Raise (some (.Call (.Name x np) (e₀::rest) [] cpos)) none pos) (yy7 C E t):=by
 refine⟨?_⟩
 intro pins s σ H D I h
 obtain ⟨bm,N,nm,qn,bs,hdd,sn,sub,ab,col,dd,k0,k1,k2,k3,k5,mN,hC,hN,hni,T⟩:=yxe (bmB:=bmB) I.mod.kin hq
 refine wpAny_Raise_call_subT (C:=C) (N:=N) (bm:=bm) (nm:=nm) (q:=qn) (bs:=bs) (hdct:=hdd) (sn:=sn) (sub:=sub) (ab:=ab) (col:=col) (dd:=dd) (k0:=k0) (k1:=k1) (k2:=k2) (k3:=k3) (k5:=k5) FB (mN:=mN) (T.hasType FB.hasBase) (I.ok.hd hcalm)
  (by rw[he];show (false || (backTo cpos (starEach rest X.env)).any (·.1))=false;rw[hpl];rfl) hni (ynj I hg hm ⟨rfl,?_⟩ hd)
 have h1:=ha cpos pins s σ H _ I h
 rw[he] at h1 ⊢
 refine Calls.evalArgs_plain (thn h1 fun us s1 ⟨vs,H1,I1,r1,q1⟩=>?_)
 exact⟨rfl,(by rw[← r1.length];exact q1.1),I1.bk _ _ hC,hN.keeps I1.bk,T.keeps I1.bk,fun h' e hx=>hxe pins σ H1 s1 h' e _ _ I1 hx q1.2⟩
theorem Inv.track {pins:List (Addr×Obj)}{σ:St}{H:Hp}{s:Shared}{a:Addr}{o:HO}(I:Inv X pins σ H s)(hs:X.s₀.heap.get? a=none)(hn:H a=none)(hL:a≠X.env.locals)(hc:∀x c,X.env.cells.lookup x=some c→c≠a)
 (hp:∀p∈X.pn++pins,p.1≠a) (new:ObjOk X.prog X.w (upd H a o) s.heap a o):Inv X pins σ (upd H a o) s:=by
 have ne:∀b ob,X.s₀.heap.get? b=some ob→b≠a:=fun b ob e z=>by rw[z,hs] at e;cases e
 have nt:∀b u,H b=some u→b≠a:=fun b u e z=>by rw[z,hn] at e;cases e
 refine⟨I.ok,I.os,I.bare,⟨I.base.keep,I.base.slot,fun b ob e n hx=>by rw[yak (ne b ob e)];exact I.base.free b ob e n hx,I.base.there,fun b xs e=>?_,fun b ob xs e=>?_,fun b ps e=>?_⟩,I.loc,I.cell,by rw[yak hL.symm];exact I.free,fun x c e=>by rw[yak (hc x c e)];exact I.freeC x c e,fun p hp'=>?_,fun b u e=>?_,I.len⟩
 ·have e1:=I.base.tups b xs e
  rw[yak (nt b _ e1)];exact e1
 ·have e1:=I.base.frzs b ob xs e
  rw[yak (nt b _ e1)];exact e1
 ·obtain ⟨more,e1⟩:=I.base.tbls b ps e
  exact⟨more,by rw[yak (nt b _ e1)];exact e1⟩
 ·obtain ⟨e,n,r⟩:=I.pin p hp'
  exact⟨e,by rw[yak (hp p hp')];exact n,r⟩
 ·by_cases z:b=a
  ·subst z
   rw[yab] at e
   cases e
   exact new
  ·rw[yak z] at e
   exact(I.hok b u e).stay (fun _ _ _ q=>q) (fun c q=>by rw[yak (nt c _ q)];exact q) fun c xs q=>by rw[yak (nt c _ q)];exact q
end
def ygo (env:Env):List (Str×NameKind)→List (Str×Addr)→List (Str×Addr)
 |[],cs=>cs
 |(n,k)::r,cs=>ygo env r (if k == .free then (n,(env.cells.lookup n).getD 0)::cs else cs)
theorem yga {scope:Scope}{env:Env}(h:∀y∈scope.names,y.2 = .free→∃c,env.cells.lookup y.1=some c):closureFor scope env=pure (ygo env scope.names []):=by
 have all:∀(l:List (Str×NameKind)) (cs:List (Str×Addr)),(∀y∈l,y.2 = .free→∃c,env.cells.lookup y.1=some c)→
  (forIn l cs fun (x:Str×NameKind) r=>(if (x.2 == NameKind.free)=true then do let a ← cellOf env x.1;pure (ForInStep.yield ((x.1,a)::r)) else pure (ForInStep.yield r):Sem (ForInStep (List (Str×Addr)))))=pure (ygo env l cs):=by
  intro l
  induction l with
  |nil=>intro cs _;rfl
  |cons x r ih=>
   intro cs hl
   obtain ⟨n,k⟩:=x
   rw[List.forIn_cons]
   by_cases hk:(k == NameKind.free)=true
   ·obtain ⟨c,hc⟩:=hl (n,k) (.head _) (by simpa using hk)
    have e:cellOf env n=pure c:=by unfold cellOf;rw[show env.cells.lookup n=some c from hc]
    simp only[hk,if_true,e,pure_bind]
    rw[ih _ fun y hy=>hl y (.tail _ hy)]
    show _=pure (ygo env r (if k == .free then _ else _))
    rw[if_pos hk,show env.cells.lookup n=some c from hc]
    rfl
   ·simp only[hk,Bool.false_eq_true,if_false,pure_bind]
    rw[ih _ fun y hy=>hl y (.tail _ hy)]
    show _=pure (ygo env r (if k == .free then _ else _))
    rw[if_neg hk]
 unfold closureFor
 have:=all scope.names [] h
 simp only[bind_pure] at this ⊢
 exact this
theorem ykd {env:Env}:∀(l:List (Str×NameKind)) (cs:List (Str×Addr)) {p:Str×Addr},p∈ygo env l cs→p∈cs∨((p.1,NameKind.free)∈l∧p.2=(env.cells.lookup p.1).getD 0)
 |[],cs,p,h=>.inl h
 |(n,k)::r,cs,p,h=>by
  unfold ygo at h
  rcases ykd r _ h with z|⟨z1,z2⟩
  ·split at z
   ·rename_i hk
    have hk':k = .free:=by simpa using hk
    rcases List.mem_cons.mp z with rfl|z
    ·exact .inr ⟨by rw[hk'];exact .head _,rfl⟩
    ·exact .inl z
   ·exact .inl z
  ·exact .inr ⟨.tail _ z1,z2⟩
theorem yjq {env:Env}:∀(l:List (Str×NameKind)) (cs:List (Str×Addr)) {p:Str×Addr},p∈cs→p∈ygo env l cs
 |[],cs,p,h=>h
 |(n,k)::r,cs,p,h=>by
  unfold ygo
  refine yjq r _ ?_
  split
  ·exact .tail _ h
  ·exact h
theorem ygb {env:Env}:∀(l:List (Str×NameKind)) (cs:List (Str×Addr)) {x:Str},(x,NameKind.free)∈l→(x,(env.cells.lookup x).getD 0)∈ygo env l cs
 |(n,k)::r,cs,x,h=>by
  unfold ygo
  rcases List.mem_cons.mp h with e|h
  ·cases e
   refine yjq r _ ?_
   rw[if_pos (by decide)]
   exact .head _
  ·exact ygb r _ h
theorem yc5 {α:Type}:∀{l:List (Str×α)}{x:Str}{v:α},(x,v)∈l→∃u,l.lookup x=some u
 |(n,k)::r,x,v,h=>by
  by_cases e:x=n
  ·exact⟨k,by rw[List.lookup_cons,e];simp⟩
  ·rcases List.mem_cons.mp h with z|z
   ·cases z;exact absurd rfl e
   ·obtain ⟨u,hu⟩:=yc5 z
    exact⟨u,by rw[List.lookup_cons];rw[show (x == n)=false from by simpa using e];exact hu⟩
def yat (X:Cx)(N':List Str)(scope:Scope)(C:Addr)(s:Shared)(H:Hp)(fp:List Addr):Cx where
 prog:=X.prog
 w:=X.w
 K:=X.K
 mg:=X.mg
 base:=X.base
 A:=X.A
 N:=N'
 s₀:=s
 H₀:=H
 env:=compEnvC scope (ygo X.env scope.names []) C X.env
 outer:=X.stack
 stack:=X.stack
 ex:=fp
 fn:=fun _=>false
 calm:=true
 pn:=[]
 xe:=fun _ _=>False
structure CompScope (X:Cx) (N':List Str) (ix:List (Option Nat)) (scope:Scope):Prop where
 kind:scope.kind = .function
 nocell:∀y∈scope.names,y.2≠.cell
 loc:∀y∈scope.names,y.2 = .local→scope.names.lookup y.1=some .local
 nd:N'.Nodup
 len:ix.length=N'.length
 free:∀y∈scope.names,y.2 = .free→X.env.kindOf y.1=some .cell
 out:∀(k j:Nat) (x:Str),N'[k]? = some x→ix[k]? = some (some j)→X.N[j]? = some x∧(x,NameKind.free)∈scope.names∧(relabel scope X.env).names.lookup x=some .cell
def ybe (ix:List (Option Nat))(σ:St):St:=ix.map fun o=>o.bind fun j=>(σ[j]?).join
theorem yhc {scope:Scope}{env:Env}{x:Str}{k:NameKind}(hc:∀y∈scope.names,y.2≠.cell)(h:(relabel scope env).names.lookup x=some k)(hk:k = .cell∨k = .free):(x,NameKind.free)∈scope.names:=by
 have m:=PySem.mem_of_lookup h
 unfold relabel at m
 obtain ⟨⟨n,k0⟩,h1,h2⟩:=List.mem_map.mp m
 dsimp only at h2
 split at h2
 ·rename_i q
  cases h2
  have:k0 = .free:=by
   simp only[Bool.and_eq_true,beq_iff_eq] at q
   exact q.1.1
  rw[this] at h1
  exact h1
 ·cases h2
  rcases hk with rfl|rfl
  ·exact absurd rfl (hc _ h1)
  ·exact h1
section
variable {X:Cx}{N':List Str}{ix:List (Option Nat)}{scope:Scope}
theorem yfo {pins:List (Addr×Obj)}{σ:St}{H:Hp}{s:Shared}(I:Inv X pins σ H s)(S:CompScope X N' ix scope){x:Str}{c:Addr}(h:(ygo X.env scope.names []).lookup x=some c):X.env.cells.lookup x=some c:=by
 rcases ykd _ _ (PySem.mem_of_lookup h) with z|⟨z1,z2⟩
 ·cases z
 ·obtain ⟨c',hc⟩:=I.ok.has x (.inl (S.free _ z1 rfl))
  dsimp only at z2
  rw[hc] at z2
  rw[hc,z2]
  rfl
theorem ygc {pins:List (Addr×Obj)}{σ:St}{H:Hp}{s:Shared}{h':Heap}{tk:Nat}{fp:List Addr}(I:Inv X pins σ H s)(hcalm:X.calm=true)(S:CompScope X N' ix scope)(hf:∀b∈fp,ye8 X pins H b)(hlt:∀b∈fp,b<s.heap.objs.size)
 (hns:h'.Ns s.heap.objs.size (fun _=>none)) (hk:∀b o,s.heap.get? b=some o→h'.get? b=some o):Inv (yat X N' scope s.heap.objs.size s H fp) [] (ybe ix σ) H { s with heap:=h',toks:=tk }:=by
 have noL:H s.heap.objs.size=none:=I.hok.fresh (Nat.le_refl _)
 refine⟨⟨I.ok.mod,S.kind,I.ok.glob,I.ok.blt,Nat.le_refl _,fun x y c h1 h2=>I.ok.inj x y c (yfo I S h1) (yfo I S h2),fun x hx=>?_,(fun x c z=>nomatch z),fun _=>I.ok.hd hcalm,I.ok.frames,.inl rfl,fun b hb=>⟨Nat.ne_of_lt (hlt b hb),fun x c h=>?_⟩,I.bs,Nat.le_trans I.ok.bsz I.sz,fun b o q hb=>?_,fun b hb=>?_,I.stack,I.stkFree⟩,
  rfl,I.bare,Un.kept hk,⟨_,hns,fun k x v h1 h2 h3=>?_⟩,fun x c h=>?_,noL,fun x c h=>I.freeC x c (yfo I S h),(fun p hp=>absurd (show p∈([]:List (Addr×Obj)) from hp) (by simp)),I.hok.kept hk,?_⟩
 ·have hx':(relabel scope X.env).names.lookup x=some .cell∨(relabel scope X.env).names.lookup x=some .free:=hx
  have m:(x,NameKind.free)∈scope.names:=by
   rcases hx' with z|z
   ·exact yhc S.nocell z (.inl rfl)
   ·exact yhc S.nocell z (.inr rfl)
  exact yc5 (ygb (env:=X.env) scope.names [] m)
 ·exact(hf b hb).2.2.2.2.1 x c (yfo I S h)
 ·rcases (hf b hb).2.2.2.1 with z|z
  ·exact I.ok.noex b o q z
  ·exact absurd (Nat.lt_of_lt_of_le (Heap.lt_size (I.ok.bs b o q).1) z) (Nat.lt_irrefl _)
 ·intro z
  rcases List.mem_cons.mp (I.stkSub b z) with e|e
  ·exact(hf b hb).2.1 e
  ·exact(hf b hb).2.2.1 e
 ·have e2:(ybe ix σ)[k]? = some (some v):=h2
  unfold ybe at e2
  rw[List.getElem?_map] at e2
  cases e3:ix[k]? with
  |none=>rw[e3] at e2;cases e2
  |some o=>
   rw[e3] at e2
   cases o with
   |none=>cases e2
   |some j=>
    obtain ⟨n1,n2,n3⟩:=S.out k j x h1 e3
    have e4:σ[j]? = some (some v):=by
     have:(σ[j]?).join=some v:=Option.some.inj e2
     cases e5:σ[j]? with
     |none=>rw[e5] at this;cases this
     |some w=>rw[e5] at this;exact congrArg some this
    have kc:=S.free _ n2 rfl
    obtain ⟨m,hn,hl⟩:=I.loc
    obtain ⟨u,r,l⟩:=hl j x v n1 e4 (.inr (.inl kc))
    refine⟨u,r,?_⟩
    rcases l with ⟨z,_⟩ | ⟨_,c,hc,hcell⟩
    ·dsimp only at kc
     rw[kc] at z;cases z
    ·obtain ⟨c',hc'⟩:=yc5 (ygb (env:=X.env) scope.names [] n2)
     have ec:=yfo I S hc'
     rw[hc] at ec
     cases ec
     exact .inr ⟨.inl n3,c,hc',hcell.keeps hk⟩
 ·obtain ⟨v,q⟩:=I.cell x c (yfo I S h)
  exact⟨v,q.keeps hk⟩
 ·unfold ybe
  rw[List.length_map]
  exact S.len
end
def yy9 (X:Cx)(ifs:List Expr)(t:TT):Prop:=
 ∀(pins:List (Addr×Obj)) (s:Shared) (σ:St) (H:Hp) (Q:Bool→Hp→Prop),Inv X pins σ H s→t σ H Q→
  wpAny (model X.prog X.w) X.A (forIn ifs true fun c r=>if r=true then do let ok ← isTrue c X.env (eval c X.env);pure (ForInStep.yield ok) else pure (ForInStep.yield r)) (TP X pins σ Q) X.xe s
structure PIfs (X:Cx) (ifs:List Expr) (t:TT):Prop where
 out:yy9 X ifs t
instance {X:Cx}{ifs:List Expr}{t:TT}:CoeFun (PIfs X ifs t) (fun _=>yy9 X ifs t):=⟨PIfs.out⟩
def yho:TT:=fun _ H Q=>Q true H
theorem ybo {X:Cx}:PIfs X [] yho:=⟨fun pins s σ H Q I h=>zwp0 ⟨H,I,h⟩⟩
theorem yhp {X:Cx}{c:Expr}{t:TT}(h:PT X c t):PIfs X [c] t:=⟨fun pins s σ H Q I q=>wpAny_tests_one (h pins s σ H Q I q)⟩
def yxf (ix:List (Option Nat))(wi:TI)(g:TG)(ti:TT)(te:TE):TE:=fun σ H Q=>wi σ H fun J H1=>∀D,H1 D=none→∃W:Nat→Nat→Hp→Prop,(∃m,W 0 m (upd H1 D (.lst [])))∧∀i m H,W i m H→
 (J.stop i H∧Q (.ref D) H)∨(J.go i H∧∀x H',J.yld i H x H'→g x (ybe ix σ) H' fun σ2 H2=>(∀(k:Nat) v,(ybe ix σ)[k]? = some (some v)→σ2[k]? = some (some v))∧ti σ2 H2 fun b H3=>
  if b=true then te σ2 H3 fun y H4=>∃zs,H4 D=some (.lst zs)∧zs.length<sizeLine∧∃m',m' < m∧W (i+1) m' (upd H4 D (.lst (zs++[y]))) else ∃m',m' < m∧W (i+1) m' H3)
section
variable {X:Cx}{N':List Str}{ix:List (Option Nat)}{scope:Scope}{elt tg iter:Expr}{ifs:List Expr}{pos:Pos}{wi:TI}{g:TG}{ti:TT}{te:TE}
def yhy (X:Cx)(pins:List (Addr×Obj))(σ:St)(Q:VK)(acc:Value)(C:Addr)(r:Result)(s':Shared):Prop:=
 ∃D H',acc = .ref D∧(∃f,r = .ok f)∧Inv X pins σ H' s'∧ye8 X pins H' C∧(∃m,s'.heap.Ns C m)∧Q (.ref D) H'
theorem yry {X':Cx}{σ₀:St}{H:Hp}{s:Shared}{Q:VK}{it D:Addr}{fp:List Addr}{tn:Nat→Heap→Prop}{J:It}{W:Nat→Nat→Hp→Prop}{m0:Nat}(I:Inv X' [] σ₀ H s)(hcalm:X'.calm=true)(hxe:X'.xe=fun _ _=>False)
 (T:Turn X'.prog X'.w X'.K tg J fp it tn) (st:tn 0 s.heap) (hf:∀b∈fp,ye8 X' [] H b) (hg:PG X' tg g) (hi:PIfs X' ifs ti) (he:PE X' elt te) (w0:W 0 m0 H)
 (turn:∀i m H,W i m H→(J.stop i H∧Q (.ref D) H)∨(J.go i H∧∀x H',J.yld i H x H'→g x σ₀ H' fun σ2 H2=>(∀(k:Nat) v,σ₀[k]? = some (some v)→σ2[k]? = some (some v))∧ti σ2 H2 fun b H3=>
  if b=true then te σ2 H3 fun y H4=>∃zs,H4 D=some (.lst zs)∧zs.length<sizeLine∧∃m',m' < m∧W (i+1) m' (upd H4 D (.lst (zs++[y]))) else ∃m',m' < m∧W (i+1) m' H3)) :
 codeAny (model X'.prog X'.w) X'.A (.compStart (.ListComp elt [⟨tg,iter,ifs,0⟩] scope pos) 0 (.ref it) (.ref D) X'.env) (fun r s'=>(∃f,r = .ok f)∧∃H',Inv X' [] σ₀ H' s'∧Q (.ref D) H') s:=by
 have stat:∀{H':Hp},(∀b∈fp,H' b=none)→∀b∈fp,ye8 X' [] H' b:=fun hn b hb=>⟨hn b hb,(hf b hb).2⟩
 have loop:codeAny (model X'.prog X'.w) X'.A (.compLoop (.ListComp elt [⟨tg,iter,ifs,0⟩] scope pos) 0 (.ref it) (.ref D) X'.env) (fun r s'=>(∃f,r = .ok f)∧∃H',Inv X' [] σ₀ H' s'∧Q (.ref D) H') s:=by
  refine codeAny_loop rfl (fun n s'=>∃i H',Inv X' [] σ₀ H' s'∧tn i s'.heap∧(∀b∈fp,H' b=none)∧W i n H') ?_ m0 ⟨0,H,I,st,fun b hb=>(hf b hb).1,w0⟩
  rintro n s1 ⟨i,H1,I1,st1,fr1,w1⟩
  show wpAny _ X'.A ((compTurn (.ListComp elt [⟨tg,iter,ifs,0⟩] scope pos) 0 (.ref it) (.ref D) X'.env).onRaise (fun x=>do noteFrame x X'.env;theTreesLotGoes x)) _ _ s1
  refine wpAny_noted ?_
  have noE:∀{α:Type}{t:Sem α}{P:α→Shared→Prop}{F:Value→Shared→Prop}{s:Shared},wpAny (model X'.prog X'.w) X'.A t P X'.xe s→wpAny (model X'.prog X'.w) X'.A t P F s:=fun h=>wpAny_mono h (fun _ _ x=>x) fun e s' x=>by rw[hxe] at x;exact x.elim
  rw[compTurn_list]
  refine zwb0 (wpAny_standAt (zwb0 ?_))
  rcases turn i n H1 w1 with ⟨stop,qn⟩ | ⟨go,step⟩
  ·refine thn (T.done X' rfl rfl rfl hcalm i [] s1 σ₀ H1 _ I1 (stat fr1) st1 stop) fun r s2 ⟨hr,I2⟩=>?_
   subst hr
   exact zwp0 ⟨⟨_,rfl⟩,H1,I2,qn⟩
  ·refine thn (T.item X' rfl rfl rfl hcalm i [] s1 σ₀ H1 _ I1 (stat fr1) st1 go) fun r s2 ⟨u,hr,h2⟩=>?_
   subst hr
   refine zwb0 (thn h2 fun _ s3 ⟨x,H3,I3,r3,y3,st3,fr3⟩=>?_)
   have I3':=I3.pinned (stat fr3) (T.obj _ _ st3)
   refine zwb0 (noE (thn (hg _ s3 σ₀ H3 x u _ I3' r3 (step x H3 y3)) fun _ s4 ⟨σ4,H4,I4,hk4,q4⟩=>?_))
   refine zwb0 (noE (thn (hi _ s4 σ4 H4 _ I4 q4) fun ok s5 ⟨H5,I5,q5⟩=>?_))
   have again':∀{s7:Shared}{H7:Hp}{m':Nat},Inv X' ([]++yf0 fp s3.heap) σ4 H7 s7→m' < n→W (i+1) m' H7→∃m,m<n∧∃i H',Inv X' [] σ₀ H' s7∧tn i s7.heap∧(∀b∈fp,H' b=none)∧W i m H':=fun {s7 H7 m'} I7 hm w7=>by
    refine⟨m',hm,i+1,H7,I7.unpinned.weak (by rw[I3.len,I7.len]) hk4,T.keep _ _ _ st3 fun b hb o e=>(I7.pin (b,o) (List.mem_append_right _ (List.mem_append_right _ (yba hb e)))).1,fun b hb=>?_,w7⟩
    obtain ⟨o,e,d⟩:=T.obj _ _ st3 b hb
    exact(I7.pin (b,o) (List.mem_append_right _ (List.mem_append_right _ (yba hb e)))).2.1
   cases ok with
   |false=>
    obtain ⟨m',hm,w7⟩:=q5
    exact zwp0 ⟨rfl,again' I5 hm w7⟩
   |true=>
    refine zwb0 (zwb0 (noE (thn (he _ s5 σ4 H5 _ I5 q5) fun y s6 ⟨yv,H6,I6,r6,zs,hD,hz,m',hm,w7⟩=>?_)))
    refine zwb0 (noE (thn (yd8 (X:=X') _ s6 σ4 H6 (.ref D) [yv] (.ref D) [y] (fun v H7=>H7=upd H6 D (.lst (zs++[yv]))) I6 rfl (.cons r6 .nil) ⟨D,zs,yv,rfl,rfl,hD,hz,rfl⟩) fun v s7 ⟨vv,H7,I7,_,e7⟩=>?_))
    subst e7
    exact zwp0 (zwp0 ⟨rfl,again' I7 hm w7⟩)
 refine codeAny_compStart_list loop (T.self _ 0 s _ _ st loop)
theorem yjr {pins:List (Addr×Obj)}{σ:St}{H:Hp}{s:Shared}{Q:VK}{it:Addr}{fp:List Addr}{tn:Nat→Heap→Prop}{J:It}{E:Value→Shared→Prop}(I:Inv X pins σ H s)(hcalm:X.calm=true)(S:CompScope X N' ix scope)
 (T:Turn X.prog X.w X.K tg J fp it tn) (st:tn 0 s.heap) (hf:∀b∈fp,ye8 X pins H b)
 (hg:∀C s H fp,PG (yat X N' scope C s H fp) tg g) (hi:∀C s H fp,PIfs (yat X N' scope C s H fp) ifs ti) (he:∀C s H fp,PE (yat X N' scope C s H fp) elt te)
 (h:∀D,H D=none→∃W:Nat→Nat→Hp→Prop,(∃m,W 0 m (upd H D (.lst [])))∧∀i m H,W i m H→
  (J.stop i H∧Q (.ref D) H)∨(J.go i H∧∀x H',J.yld i H x H'→g x (ybe ix σ) H' fun σ2 H2=>(∀(k:Nat) v,(ybe ix σ)[k]? = some (some v)→σ2[k]? = some (some v))∧ti σ2 H2 fun b H3=>
   if b=true then te σ2 H3 fun y H4=>∃zs,H4 D=some (.lst zs)∧zs.length<sizeLine∧∃m',m' < m∧W (i+1) m' (upd H4 D (.lst (zs++[y]))) else ∃m',m' < m∧W (i+1) m' H3)) :
 wpAny (model X.prog X.w) X.A (newList []) (fun acc s3=>wpAny (model X.prog X.w) X.A (newFunctionEnv scope X.env.globals (ygo X.env scope.names []) [] X.env.qual none .none (some X.env)) (fun cenv s4=>
  codeAny (model X.prog X.w) X.A (.compStart (.ListComp elt [⟨tg,iter,ifs,0⟩] scope pos) 0 (.ref it) acc { cenv with scope:=relabel scope X.env }) (yhy X pins σ Q acc cenv.locals) s4) E s3) E s:=by
 refine wpAny_newList ?_
 have fresh0:H s.heap.objs.size=none:=I.hok.fresh (Nat.le_refl _)
 have I3:Inv X pins σ (upd H s.heap.objs.size (.lst [])) { s with heap:=s.heap.push { cls:=.type "list",data:=.seq ([]:List Value).toArray } } :=
  I.laid (t':=s.toks) (fun b u e=>Heap.get?_push_of_some _ e) (Nat.le_refl _) ⟨by show 0≤sizeLine;exact Nat.zero_le _,[],0,.nil,Heap.get?_push_size _ rfl⟩
 obtain ⟨W,⟨m0,w0⟩,turn⟩:=h s.heap.objs.size fresh0
 generalize hD:s.heap.objs.size=D at *
 have lt0:∀b∈fp,b<s.heap.objs.size:=fun b hb=>by obtain ⟨o,e,_⟩:=T.obj 0 _ st b hb;exact Heap.lt_size e
 have hf3:∀b∈fp,ye8 X pins (upd H D (.lst [])) b:=fun b hb=>by
  have nb:b≠D:=by rw[← hD];exact Nat.ne_of_lt (lt0 b hb)
  obtain ⟨f0,fr⟩:=hf b hb
  exact⟨by rw[yak nb];exact f0,fr⟩
 have st3:tn 0 (s.heap.push { cls:=.type "list",data:=.seq ([]:List Value).toArray }):=T.keep _ _ _ st fun b hb o e=>Heap.get?_push_of_some _ e
 revert I3 st3
 generalize (s.heap.push { cls:=.type "list",data:=.seq ([]:List Value).toArray })=h3
 intro I3 st3
 have lt3:∀b∈fp,b<h3.objs.size:=fun b hb=>by obtain ⟨o,e,_⟩:=T.obj 0 _ st3 b hb;exact Heap.lt_size e
 refine wpAny_newFunctionEnv S.nocell (fun x hx=>nomatch hx) (fun h4 hns hsb=>?_) S.kind
 have k4:∀b o,h3.get? b=some o→h4.get? b=some o:=fun b o e=>(hsb.2 b (Nat.ne_of_lt (Heap.lt_size e))).trans (Heap.get?_push_of_some _ e)
 have J4:Inv (yat X N' scope h3.objs.size { s with heap:=h3 } (upd H D (.lst [])) fp) [] (ybe ix σ) (upd H D (.lst [])) { s with heap:=h4,toks:=s.toks+([]:List (Str×Value)).length }:=
  ygc (s:={ s with heap:=h3 }) (tk:=s.toks+([]:List (Str×Value)).length) I3 hcalm S hf3 lt3 hns k4
 have st4:tn 0 ({ s with heap:=h4,toks:=s.toks+([]:List (Str×Value)).length }:Shared).heap:=T.keep _ _ _ st3 fun b hb o e=>k4 b o e
 have fr4:∀b∈fp,upd H D (.lst []) b=none:=fun b hb=>(hf3 b hb).1
 revert J4 st4
 generalize ({ s with heap:=h4,toks:=s.toks+([]:List (Str×Value)).length }:Shared)=s4
 intro J4 st4
 have hf4:∀b∈fp,ye8 (yat X N' scope h3.objs.size { s with heap:=h3 } (upd H D (.lst [])) fp) [] (upd H D (.lst [])) b:=fun b hb=>
  ⟨fr4 b hb,Nat.ne_of_lt (lt3 b hb),J4.ok.exfs b hb,.inl hb,fun x c e=>(J4.ok.exf b hb).2 x c e,fun p hp=>nomatch hp⟩
 refine codeAny_mono (yry (X':=yat X N' scope h3.objs.size { s with heap:=h3 } (upd H D (.lst [])) fp) (Q:=Q) (D:=D) J4 rfl rfl T st4 hf4 (hg _ _ _ _) (hi _ _ _ _) (he _ _ _ _) w0 turn) fun r s' ⟨hr,H',J',q'⟩=>?_
 refine⟨D,H',rfl,hr,I3.call' J'.os J'.base J'.hok J'.bare fun b hb=>?_,?_,?_,q'⟩
 ·obtain ⟨_,f1,_,f3,f4,f5⟩:=hf3 b hb
  exact⟨f3,f1,f4,f5⟩
 ·exact I3.fpOk (H':=H') (Nat.le_refl _) J'.free
 ·obtain ⟨m,hn,_⟩:=J'.loc
  exact⟨m,hn⟩
end
section
variable {X:Cx}{N':List Str}{ix:List (Option Nat)}{scope:Scope}{elt tg iter:Expr}{ifs:List Expr}{pos:Pos}{wi:TI}{g:TG}{ti:TT}{te:TE}
theorem ycv {pins:List (Addr×Obj)}{σ:St}{H:Hp}{s:Shared}(I:Inv X pins σ H s)(S:CompScope X N' ix scope):closureFor scope X.env=pure (ygo X.env scope.names []):=
 yga fun y hy e=>I.ok.has y.1 (.inl (S.free y hy e))
theorem yem (hcalm:X.calm=true)(S:CompScope X N' ix scope)(hit:PI X tg iter wi)
 (hg:∀C s H fp,PG (yat X N' scope C s H fp) tg g) (hi:∀C s H fp,PIfs (yat X N' scope C s H fp) ifs ti) (he:∀C s H fp,PE (yat X N' scope C s H fp) elt te)
 (hs:∀x,foldedSetIterable iter X.env x=pure x:=by intro _;rfl):PE X (.ListComp elt [⟨tg,iter,ifs,0⟩] scope pos) (yxf ix wi g ti te):=by
 refine⟨?_⟩
 intro pins s σ H Q I h
 rw[eval_ListComp]
 refine wpAny_comprehension_free (use:=none) rfl hs (ycv I S) S.kind S.loc (thn (hit pins s σ H _ I h) fun v s1 h1=>thn h1 fun itv s2 h2=>?_)
 obtain ⟨it,fp,tn,J,H2,rfl,I2,T,st2,f2,q2⟩:=h2
 refine thn (yjr (E:=X.xe) (elt:=elt) (iter:=iter) (pos:=pos) I2 hcalm S T st2 f2 hg hi he q2) fun acc s3 h3=>thn h3 fun cenv s4 h4=>codeAny_mono h4 fun r s' hr=>?_
 obtain ⟨D,H',rfl,⟨f,rfl⟩,I',⟨g0,g1,_,g3,g4,g5⟩,⟨m,hm⟩,q'⟩:=hr
 exact⟨m,hm,fun h' hsb=>⟨.ref D,H',I'.turned (t':=s'.toks) (fun b o hb e=>(hsb.2 b hb).trans e) g0 g1 g3 g4 g5,rfl,q'⟩⟩
theorem ycw {i:Nat}{y:Str}{py spos:Pos}(hN:X.N.Nodup)(hy:X.N[i]? = some y)(hly:Loc X.env.scope y)(hcalm:X.calm=true)(S:CompScope X N' ix scope)(hit:PI X tg iter wi)
 (hg:∀C s H fp,PG (yat X N' scope C s H fp) tg g) (hi:∀C s H fp,PIfs (yat X N' scope C s H fp) ifs ti) (he:∀C s H fp,PE (yat X N' scope C s H fp) elt te)
 (hsw:swapsWith (.ListComp elt [⟨tg,iter,ifs,0⟩] scope pos) (some (.Name y py)) spos.line X.env=pure true:=by rfl) (hs:∀x,foldedSetIterable iter X.env x=pure x:=by intro _;rfl)
 (hf:X.fn y=true∨X.env.scope.names.lookup y=some .local:=by first|exact .inl rfl|exact .inr rfl|assumption) :
 PS X (.Assign [.Name y py] (.ListComp elt [⟨tg,iter,ifs,0⟩] scope pos) spos) (zai (yxf ix wi g ti te) (ybc i)):=by
 refine⟨?_⟩
 intro pins s σ H D I h
 rw[exec_Assign_Name_used _ _ _ _ hsw]
 refine zwb0 (wpAny_standAt (zwb0 ?_))
 show wpAny _ X.A (do let _ ← comprehension (.ListComp elt [⟨tg,iter,ifs,0⟩] scope pos) scope X.env _ (newList []) false (eval iter X.env) (some (assign (.Name y py) X.env))) _ _ s
 refine zwb0 (thn (wpAny_comprehension_free (use:=some (assign (.Name y py) X.env)) (Q:=fun _ s'=>SP X pins D .next s') rfl hs (ycv I S) S.kind S.loc (thn (hit pins s σ H _ I h) fun v s1 h1=>thn h1 fun itv s2 h2=>?_)) fun _ s' hq=>zwp0 (zwp0 hq))
 obtain ⟨it,fp,tn,J,H2,rfl,I2,T,st2,f2,q2⟩:=h2
 refine thn (yjr (E:=X.xe) (Q:=fun x H1=>ybc i x σ H1 D.nx) (elt:=elt) (iter:=iter) (pos:=pos) I2 hcalm S T st2 f2 hg hi he q2) fun acc s3 h3=>thn h3 fun cenv s4 h4=>codeAny_mono h4 fun r s' hr=>?_
 obtain ⟨A,H',rfl,⟨f,rfl⟩,I',⟨g0,g1,g2,g3,g4,g5⟩,⟨m,hm⟩,q'⟩:=hr
 show wpAny _ X.A (assign (.Name y py) X.env (.ref A)) _ _ _
 refine wpAny_assign_Name (yll I' hN hy hly (v:=.ref A) rfl (fun s5 I5 ⟨a,hsb,ha⟩=>?_) hf)
 have na:cenv.locals≠a:=by
  rcases ha with z|z
  ·rw[z];exact g1
  ·exact(g4 y a z).symm
 exact⟨m,hm.sameBut hsb na,fun h' hsb'=>⟨_,H',I5.turned (t':=s5.toks) (fun b o hb e=>(hsb'.2 b hb).trans e) g0 g1 g3 g4 g5,q'⟩⟩
end
end L2
namespace L2
open PySem PySem.Spec PyProof.Rows PySem.Builtin.SmallTypes
def SqI (h:Heap)(b:Bool)(it a:Addr)(k:Nat):Prop:=match b with
 |true=>h.IsListIter it a k
 |false=>h.IsTupleIter it a k
def SqH (h:Heap)(b:Bool)(a:Addr)(its:Array Value):Prop:=match b with
 |true=>h.IsList a its
 |false=>h.IsTuple a its
theorem SqI.ext {h h':Heap}{b:Bool}{it a c:Addr}{k:Nat}(x:SqI h b it a k)(e:Heap.ExtBut c h h')(n:it≠c):SqI h' b it a k:=by
 cases b with
 |true=>exact Heap.IsListIter.at (h:=h) x fun o q=>e it o n q
 |false=>exact Heap.IsTupleIter.at (h:=h) x fun o q=>e it o n q
theorem SqI.keep {h h':Heap}{b:Bool}{it a:Addr}{k:Nat}(x:SqI h b it a k)(e:∀o,h.get? it=some o→h'.get? it=some o):SqI h' b it a k:=by
 cases b with
 |true=>exact Heap.IsListIter.at (h:=h) x e
 |false=>exact Heap.IsTupleIter.at (h:=h) x e
theorem SqH.ext {h h':Heap}{b:Bool}{a c:Addr}{its:Array Value}(x:SqH h b a its)(e:Heap.ExtBut c h h')(n:a≠c):SqH h' b a its:=by
 cases b with
 |true=>exact Heap.IsList.at (h:=h) x fun o q=>e a o n q
 |false=>
  obtain ⟨o,h1,h2⟩:=(show h.IsTuple a its from x)
  exact(show h'.IsTuple a its from ⟨o,e a o n h1,h2⟩)
theorem SqI.obj {h:Heap}{b:Bool}{it a:Addr}{k:Nat}(x:SqI h b it a k):∃o,h.get? it=some o∧∃vs,o.data = .fields vs:=by
 cases b with
 |true=>obtain ⟨o,h1,_,h3⟩:=(show h.IsListIter it a k from x);exact⟨o,h1,_,h3⟩
 |false=>obtain ⟨o,h1,_,h3⟩:=(show h.IsTupleIter it a k from x);exact⟨o,h1,_,h3⟩
section
variable {prog:Program}{w:World}{A:Around}{E:Value→Shared→Prop}{s:Shared}
theorem yp2 {it t:Addr}{i:Nat}{its:Array Value}{x:Value}{Q:Value→Shared→Prop}(hi:s.heap.IsTupleIter it t i)(ht:s.heap.IsTuple t its)(hx:its[i]? = some x)
 (hq:∀h',h'.IsTupleIter it t (i+1)→Heap.SameBut it s.heap h'→Q x { s with heap:=h' }):wpAny (model prog w) A (nextOf (.ref it)) Q E s:=by
 obtain ⟨oi,e1,ec,ed⟩:=id hi
 obtain ⟨ot,e2,_,nt,et⟩:=ht
 (unfold nextOf;refine zwb0 (wpAny_callSpecial?_slot (name:=Str.ofString "__next__") hi.typeIs F.slot_tuple_iterator_next (wpAny_call_entry F.slot_tuple_iterator_next hi.typeIs F.entry_tuple_iterator_next ?_ (F.args_tuple_iterator_next_1 _))))
 (show wpAny _ _ (field (.ref it) 0 >>= _) _ _ s;refine zwb0 (wpAny_field e1 ed (x:=.ref t) rfl ?_))
 (show wpAny _ _ (if (Value.ref t == Value.none)=true then _ else _) _ _ s;rw[if_neg (show ¬ ((Value.ref t == Value.none)=true) from Bool.false_ne_true)])
 (show wpAny _ _ (field (.ref it) 1 >>= _) _ _ s;refine zwb0 (wpAny_field e1 ed (x:=.int i 0) rfl ?_))
 (show wpAny _ _ (seqItems? (.ref t) >>= _) _ _ s;refine zwb0 (wpAny_seqItems e2 et ?_))
 simp only[Int.toNat_natCast,hx]
 refine zwb0 (wpAny_setField e1 ed (by simp) (zwp0 ⟨x,rfl,zwp0 (hq _ ?_ (Heap.SameBut.update ..))⟩))
 exact⟨_,Heap.get?_update_self _ e1 (Obj.isFreed_of_fields (Obj.data_mapFields ed _)),(Obj.cls_mapFields ..).trans ec,by rw[Obj.data_mapFields ed];simp [rawInt]⟩
theorem yrz {it t:Addr}{i:Nat}{its:Array Value}{Q:Value→Shared→Prop}(hh:A.handled=none)(hi:s.heap.IsTupleIter it t i)(ht:s.heap.IsTuple t its)(hx:its[i]? = none)
 (hE:∀h' e,Heap.ExtBut it s.heap h'→(∃o,h'.get? e=some o∧o.cls = .type "StopIteration")→E (.ref e) { s with heap:=h' }):wpAny (model prog w) A (nextOf (.ref it)) Q E s:=by
 obtain ⟨oi,e1,ec,ed⟩:=id hi
 obtain ⟨ot,e2,_,nt,et⟩:=ht
 (unfold nextOf;refine zwb0 (wpAny_callSpecial?_slot (name:=Str.ofString "__next__") hi.typeIs F.slot_tuple_iterator_next (wpAny_call_entry F.slot_tuple_iterator_next hi.typeIs F.entry_tuple_iterator_next ?_ (F.args_tuple_iterator_next_1 _))))
 (show wpAny _ _ (field (.ref it) 0 >>= _) _ _ s;refine zwb0 (wpAny_field e1 ed (x:=.ref t) rfl ?_))
 (show wpAny _ _ (if (Value.ref t == Value.none)=true then _ else _) _ _ s;rw[if_neg (show ¬ ((Value.ref t == Value.none)=true) from Bool.false_ne_true)])
 (show wpAny _ _ (field (.ref it) 1 >>= _) _ _ s;refine zwb0 (wpAny_field e1 ed (x:=.int i 0) rfl ?_))
 (show wpAny _ _ (seqItems? (.ref t) >>= _) _ _ s;refine zwb0 (wpAny_seqItems e2 et ?_))
 simp only[Int.toNat_natCast,hx]
 refine zwb0 (wpAny_rule (zwb0 (wpAny_setField e1 ed (by simp) ?_)))
 (show wpAny _ _ (newExc (.type "StopIteration") [] >>= _) _ _ _;refine zwb0 ?_)
 (simp only[newExc,newTuple];refine zwb0 (wpAny_newObj_type ?_ (by size_fits)))
 refine zwb0 (m:=firstArgMember _ _) (wpAny_of_eq (a:=Value.none) (by rfl) ?_)
 refine wpAny_newObj_type ?_ (by size_fits)
 (simp only[raiseNew];refine zwb0 (wpAny_handled ?_))
 rw[show A.in1.handled=none from hh]
 refine zwb0 (zwp0 (wpAny_throw ?_))
 exact hE _ _ (((Heap.SameBut.update ..).extBut.push _).push _) ⟨_,Heap.get?_push_size _ rfl,rfl⟩
theorem ynp {b:Bool}{it a:Addr}{i:Nat}{its:Array Value}{x:Value}{Q:Value→Shared→Prop}(hi:SqI s.heap b it a i)(ha:SqH s.heap b a its)(hx:its[i]? = some x)
 (hq:∀h',SqI h' b it a (i+1)→Heap.SameBut it s.heap h'→Q x { s with heap:=h' }):wpAny (model prog w) A (nextOf (.ref it)) Q E s:=by
 cases b with
 |true=>exact wpAny_nextOf_list_item hi ha hx hq
 |false=>exact yp2 hi ha hx hq
theorem ywg {b:Bool}{it a:Addr}{i:Nat}{its:Array Value}{Q:Value→Shared→Prop}(hh:A.handled=none)(hi:SqI s.heap b it a i)(ha:SqH s.heap b a its)(hx:its[i]? = none)
 (hE:∀h' e,Heap.ExtBut it s.heap h'→(∃o,h'.get? e=some o∧o.cls = .type "StopIteration")→E (.ref e) { s with heap:=h' }):wpAny (model prog w) A (nextOf (.ref it)) Q E s:=by
 cases b with
 |true=>exact wpAny_nextOf_list_end hh hi ha hx hE
 |false=>exact yrz hh hi ha hx hE
variable {z TI TO i1 i2 l1 l2:Addr}{b1 b2:Bool}{k1 k2:Nat}{xs ys:Array Value}{x y a b:Value}
theorem yr0 {Q:Value→Shared→Prop}(D:ZipApart z TI TO i1 i2 l1 l2)(hz:IsZip s.heap z TI TO .none)(hTI:IsPair s.heap TI (.ref i1) (.ref i2))(hTO:IsPair s.heap TO a b)
 (h1:SqI s.heap b1 i1 l1 k1) (h2:SqI s.heap b2 i2 l2 k2) (hl1:SqH s.heap b1 l1 xs) (hl2:SqH s.heap b2 l2 ys) (hx:xs[k1]? = some x) (hy:ys[k2]? = some y)
 (hq:∀h',IsZip h' z TI TO (rawInt s.heap.objs.size)→IsPair h' TO x y→SqI h' b1 i1 l1 (k1+1)→SqI h' b2 i2 l2 (k2+1)→IsPair h' s.heap.objs.size x y→h'.objs.size=s.heap.objs.size+1→
  (∀c o,c≠z→c≠TO→c≠i1→c≠i2→s.heap.get? c=some o→h'.get? c=some o)→Q (.ref s.heap.objs.size) { s with heap:=h' }) :
 wpAny (model prog w) A (Builtin.«zip.__next__» ⟨[.ref z],[]⟩) (fun fin s'=>∃v,fin = .done (.ret v)∧Q v s') E s:=by
 (show wpAny _ _ (field (.ref z) 2 >>= _) _ _ _;refine zwb0 (wpAny_field hz rfl (x:=.bool false) rfl ?_))
 (show wpAny _ _ (field (.ref z) 3 >>= _) _ _ _;refine zwb0 (wpAny_field hz rfl (x:=.ref TI) rfl (zwb0 (wpAny_seqItems hTI rfl ?_))))
 (show wpAny _ _ (ownedTupleIsFree (.ref z) >>= _) _ _ _;refine zwb0 ?_)
 (unfold ownedTupleIsFree;refine zwb0 (wpAny_field hz rfl (x:=.none) rfl (zwp0 ?_)))
 (simp only[if_true];refine zwb0 (wpAny_rule (zwb0 (wpAny_field hz rfl (x:=.ref TO) rfl ?_))))
 refine zwb0 (wpAny_setField_rec hz (by simp) fun g1 z1 s1=>?_)
 replace z1:IsZip g1 z TI TO .ellipsis:=z1
 (refine zwb0 ?_;simp only[List.zipIdx_cons,List.zipIdx_nil,List.forIn_cons,List.forIn_nil])
 (refine zwb0 (zwb0 (wpAny_onRaise ?_));show wpAny _ _ (nextOf (.ref i1) >>= _) _ _ _)
 refine zwb0 (ynp (h1.ext s1.extBut D.i1z) (hl1.ext s1.extBut D.l1z) hx fun g2 p2 s2=>zwp0 ?_)
 have t2:IsPair g2 TO a b:=s2.extBut _ _ D.TOi1 (s1.extBut _ _ D.TOz hTO)
 refine zwb0 (wpAny_seqItems t2 rfl (zwb0 (wpAny_updateSeq_pair t2 fun g3 t3 s3=>?_)))
 replace t3:IsPair g3 TO x b:=t3
 (refine zwb0 (wpAny_letGo (zwp0 ?_));refine zwb0 (zwb0 (wpAny_onRaise ?_));show wpAny _ _ (nextOf (.ref i2) >>= _) _ _ _)
 refine zwb0 (ynp (((h2.ext s1.extBut D.i2z).ext s2.extBut D.i12.symm).ext s3.extBut D.TOi2.symm) (((hl2.ext s1.extBut D.l2z).ext s2.extBut D.l2i1).ext s3.extBut D.l2TO) hy fun g4 p4 s4=>zwp0 ?_)
 have t4:IsPair g4 TO x b:=s4.extBut _ _ D.TOi2 t3
 refine zwb0 (wpAny_seqItems t4 rfl (zwb0 (wpAny_updateSeq_pair t4 fun g5 t5 s5=>?_)))
 replace t5:IsPair g5 TO x y:=t5
 (refine zwb0 (wpAny_letGo (zwp0 (zwp0 ?_)));refine zwb0 (wpAny_seqItems t5 rfl (zwb0 (wpAny_newTuple ?_))))
 have ez:g5.objs.size=s.heap.objs.size:=by rw[s5.1,s4.1,s3.1,s2.1,s1.1]
 have z5:IsZip g5 z TI TO .ellipsis:=s5.extBut _ _ D.TOz.symm (s4.extBut _ _ D.i2z.symm (s3.extBut _ _ D.TOz.symm (s2.extBut _ _ D.i1z.symm z1)))
 have kp:∀c o,c≠z→c≠TO→c≠i1→c≠i2→s.heap.get? c=some o→g5.get? c=some o:=fun c o c1 c2 c3 c4 e=>s5.extBut _ _ c2 (s4.extBut _ _ c4 (s3.extBut _ _ c2 (s2.extBut _ _ c3 (s1.extBut _ _ c1 e))))
 have p1:SqI g5 b1 i1 l1 (k1+1):=((p2.ext s3.extBut D.TOi1.symm).ext s4.extBut D.i12).ext s5.extBut D.TOi1.symm
 have p5:SqI g5 b2 i2 l2 (k2+1):=p4.ext s5.extBut D.TOi2.symm
 have q1:i1<g5.objs.size:=let ⟨_,e,_⟩:=p1.obj;Heap.lt_size e
 have q2:i2<g5.objs.size:=let ⟨_,e,_⟩:=p5.obj;Heap.lt_size e
 (show wpAny _ _ (ownedTupleHandOut (.ref z) (.ref g5.objs.size) >>= _) _ _ _;refine zwb0 ?_;unfold ownedTupleHandOut)
 have z6:IsZip (g5.push { cls:=.type "tuple",data:=.seq #[x,y] }) z TI TO .ellipsis:=Heap.get?_push_of_some _ z5
 refine zwb0 (wpAny_setField_rec z6 (by simp) fun g7 z7 s7=>?_)
 replace z7:IsZip g7 z TI TO (rawInt g5.objs.size):=z7
 refine wpAny_setField_rec z7 (by simp) fun g8 z8 s8=>?_
 replace z8:IsZip g8 z TI TO (rawInt g5.objs.size):=z8
 have up:∀c o,c≠z→g5.get? c=some o→g8.get? c=some o:=fun c o c1 e=>s8.extBut _ _ c1 (s7.extBut _ _ c1 (Heap.get?_push_of_some _ e))
 have nT:g5.objs.size≠z:=Nat.ne_of_gt (Heap.lt_size z5)
 have T8:IsPair g8 g5.objs.size x y:=s8.extBut _ _ nT (s7.extBut _ _ nT (Heap.get?_push_size _ rfl))
 have e8:g8.objs.size=g5.objs.size+1:=by rw[s8.1,s7.1,Heap.size_push]
 refine zwp0 ⟨_,rfl,?_⟩
 rw[ez] at z8 T8 e8 ⊢
 exact hq g8 z8 (up _ _ D.TOz t5) (p1.keep fun o e=>up _ o D.i1z e) (p5.keep fun o e=>up _ o D.i2z e) T8 e8 fun c o c1 c2 c3 c4 e=>up c o c1 (kp c o c1 c2 c3 c4 e)
theorem yun {Q:Fin→Shared→Prop}(hh:A.handled=none)(D:ZipApart z TI TO i1 i2 l1 l2)(hz:IsZip s.heap z TI TO .none)(hTI:IsPair s.heap TI (.ref i1) (.ref i2))(hTO:IsPair s.heap TO a b)
 (h1:SqI s.heap b1 i1 l1 k1) (h2:SqI s.heap b2 i2 l2 k2) (hl1:SqH s.heap b1 l1 xs) (hl2:SqH s.heap b2 l2 ys) (hend:xs[k1]? = none∨ys[k2]? = none)
 (hE:∀h' e,(∀c o,c≠z→c≠TO→c≠i1→c≠i2→s.heap.get? c=some o→h'.get? c=some o)→(∃o,h'.get? e=some o∧o.cls = .type "StopIteration")→E (.ref e) { s with heap:=h' }) :
 wpAny (model prog w) A (Builtin.«zip.__next__» ⟨[.ref z],[]⟩) Q E s:=by
 (show wpAny _ _ (field (.ref z) 2 >>= _) _ _ _;refine zwb0 (wpAny_field hz rfl (x:=.bool false) rfl ?_))
 (show wpAny _ _ (field (.ref z) 3 >>= _) _ _ _;refine zwb0 (wpAny_field hz rfl (x:=.ref TI) rfl (zwb0 (wpAny_seqItems hTI rfl ?_))))
 (show wpAny _ _ (ownedTupleIsFree (.ref z) >>= _) _ _ _;refine zwb0 ?_)
 (unfold ownedTupleIsFree;refine zwb0 (wpAny_field hz rfl (x:=.none) rfl (zwp0 ?_)))
 (simp only[if_true];refine zwb0 (wpAny_rule (zwb0 (wpAny_field hz rfl (x:=.ref TO) rfl ?_))))
 refine zwb0 (wpAny_setField_rec hz (by simp) fun g1 z1 s1=>?_)
 replace z1:IsZip g1 z TI TO .ellipsis:=z1
 (refine zwb0 ?_;simp only[List.zipIdx_cons,List.zipIdx_nil,List.forIn_cons,List.forIn_nil])
 (refine zwb0 (zwb0 (wpAny_onRaise ?_));show wpAny _ _ (nextOf (.ref i1) >>= _) _ _ _)
 cases ex:xs[k1]? with
 |none=>
  refine zwb0 (ywg hh (h1.ext s1.extBut D.i1z) (hl1.ext s1.extBut D.l1z) ex fun g2 e s2 ⟨oe,he,ce⟩=>?_)
  have z2:IsZip g2 z TI TO .ellipsis:=s2 _ _ D.i1z.symm z1
  have nez:e≠z:=fun q=>by subst q;rw[z2] at he;cases he;simp at ce
  exact wpAny_setField_rec z2 (by simp) fun g3 _ s3=>hE g3 e (fun c o c1 _ c3 _ q=>s3.extBut _ _ c1 (s2 _ _ c3 (s1.extBut _ _ c1 q))) ⟨oe,s3.extBut _ _ nez he,ce⟩
 |some x=>
  have ey:ys[k2]? = none:=by rcases hend with q|q;rw[ex] at q;cases q;exact q
  refine zwb0 (ynp (h1.ext s1.extBut D.i1z) (hl1.ext s1.extBut D.l1z) ex fun g2 p2 s2=>zwp0 ?_)
  have t2:IsPair g2 TO a b:=s2.extBut _ _ D.TOi1 (s1.extBut _ _ D.TOz hTO)
  refine zwb0 (wpAny_seqItems t2 rfl (zwb0 (wpAny_updateSeq_pair t2 fun g3 t3 s3=>?_)))
  (refine zwb0 (wpAny_letGo (zwp0 ?_));refine zwb0 (zwb0 (wpAny_onRaise ?_));show wpAny _ _ (nextOf (.ref i2) >>= _) _ _ _)
  refine zwb0 (ywg hh (((h2.ext s1.extBut D.i2z).ext s2.extBut D.i12.symm).ext s3.extBut D.TOi2.symm) (((hl2.ext s1.extBut D.l2z).ext s2.extBut D.l2i1).ext s3.extBut D.l2TO) ey fun g4 e s4 ⟨oe,he,ce⟩=>?_)
  have z4:IsZip g4 z TI TO .ellipsis:=s4 _ _ D.i2z.symm (s3.extBut _ _ D.TOz.symm (s2.extBut _ _ D.i1z.symm z1))
  have nez:e≠z:=fun q=>by subst q;rw[z4] at he;cases he;simp at ce
  exact wpAny_setField_rec z4 (by simp) fun g5 _ s5=>hE g5 e (fun c o c1 c2 c3 c4 q=>s5.extBut _ _ c1 (s4 _ _ c4 (s3.extBut _ _ c2 (s2.extBut _ _ c3 (s1.extBut _ _ c1 q))))) ⟨oe,s5.extBut _ _ nez he,ce⟩
end
def yr1:Bool→String
 |true => "list_iterator"
 |false => "tuple_iterator"
abbrev zg1 (h:Heap)(b1:Bool)(l1:Addr):Heap:=h.push { cls:=.type (yr1 b1),data:=.fields #[.ref l1,.int 0 0] }
abbrev zg2 (h:Heap)(b1 b2:Bool)(l1 l2:Addr):Heap:=(zg1 h b1 l1).push { cls:=.type (yr1 b2),data:=.fields #[.ref l2,.int 0 0] }
abbrev zg3 (h:Heap) (b1 b2:Bool) (l1 l2:Addr):Heap:=(zg2 h b1 b2 l1 l2).push { cls:=.type "tuple",data:=.seq #[.ref h.objs.size,.ref (zg1 h b1 l1).objs.size] }
abbrev zg4 (h:Heap) (b1 b2:Bool) (l1 l2:Addr):Heap:=(zg3 h b1 b2 l1 l2).push { cls:=.type "tuple",data:=.seq #[.none,.none] }
abbrev zg5 (h:Heap) (b1 b2:Bool) (l1 l2:Addr):Heap:=(zg4 h b1 b2 l1 l2).push { cls:=.type "zip",data:=.fields #[.none,.bool false,.bool false,.ref (zg2 h b1 b2 l1 l2).objs.size,.ref (zg3 h b1 b2 l1 l2).objs.size] }
theorem yuo (b1 b2:Bool)(l1 l2:Addr)(xs ys:Array Value) :
 Meets (Builtin.«zip.__new__» ⟨[.type "zip",.ref l1,.ref l2],[]⟩) (fun _ R s=>SqH s.heap b1 l1 xs∧SqH s.heap b2 l2 ys ∧
  R (.ok (.ret (.ref (zg4 s.heap b1 b2 l1 l2).objs.size))) { s with heap:=zg5 s.heap b1 b2 l1 l2 }):=
 .of_wp fun prog w A R s h=>by
  obtain ⟨hp,g,d,tk,os⟩:=s;obtain ⟨q1,q2,h⟩:=h
  have hsub:=sub_zip
  cases b1 with
  |true=>
   have g1:Heap.IsList (Shared.heap ⟨hp,g,d,tk,os⟩) l1 xs:=q1
   cases b2 with
   |true=>
    have g2:Heap.IsList (Shared.heap ⟨hp.push { cls:=.type "list_iterator",data:=.fields #[.ref l1,.int 0 0] },g,d,tk,os⟩) l2 ys:=Heap.IsList.push (show hp.IsList l2 ys from q2) _
    wp_walk using wpAny_pyIter_list g1,wpAny_pyIter_list g2
    exact⟨_,rfl,h⟩
   |false=>
    have g2:Heap.IsTuple (Shared.heap ⟨hp.push { cls:=.type "list_iterator",data:=.fields #[.ref l1,.int 0 0] },g,d,tk,os⟩) l2 ys:=Heap.IsTuple.push (show hp.IsTuple l2 ys from q2) _
    wp_walk using wpAny_pyIter_list g1,wpAny_pyIter_tuple g2
    exact⟨_,rfl,h⟩
  |false=>
   have g1:Heap.IsTuple (Shared.heap ⟨hp,g,d,tk,os⟩) l1 xs:=q1
   cases b2 with
   |true=>
    have g2:Heap.IsList (Shared.heap ⟨hp.push { cls:=.type "tuple_iterator",data:=.fields #[.ref l1,.int 0 0] },g,d,tk,os⟩) l2 ys:=Heap.IsList.push (show hp.IsList l2 ys from q2) _
    wp_walk using wpAny_pyIter_tuple g1,wpAny_pyIter_list g2
    exact⟨_,rfl,h⟩
   |false=>
    have g2:Heap.IsTuple (Shared.heap ⟨hp.push { cls:=.type "tuple_iterator",data:=.fields #[.ref l1,.int 0 0] },g,d,tk,os⟩) l2 ys:=Heap.IsTuple.push (show hp.IsTuple l2 ys from q2) _
    wp_walk using wpAny_pyIter_tuple g1,wpAny_pyIter_tuple g2
    exact⟨_,rfl,h⟩
theorem yr2 {h:Heap}{b:Bool}{it a:Addr}(e:h.get? it=some { cls:=.type (yr1 b),data:=.fields #[.ref a,.int 0 0] }):SqI h b it a 0:=by
 cases b with
 |true=>exact(show h.IsListIter it a 0 from ⟨_,e,rfl,rfl⟩)
 |false=>exact(show h.IsTupleIter it a 0 from ⟨_,e,rfl,rfl⟩)
section
variable {prog:Program}{w:World}{A:Around}{E:Value→Shared→Prop}{s:Shared}
theorem yr3 {b1 b2:Bool}{l1 l2:Addr}{xs ys:Array Value}{Q:Value→Shared→Prop}(q1:SqH s.heap b1 l1 xs)(q2:SqH s.heap b2 l2 ys)
 (hq:∀h',IsZip h' (s.heap.objs.size+4) (s.heap.objs.size+2) (s.heap.objs.size+3) .none→IsPair h' (s.heap.objs.size+2) (.ref s.heap.objs.size) (.ref (s.heap.objs.size+1))→IsPair h' (s.heap.objs.size+3) .none .none→
  SqI h' b1 s.heap.objs.size l1 0→SqI h' b2 (s.heap.objs.size+1) l2 0→(∀c o,s.heap.get? c=some o→h'.get? c=some o)→Q (.ref (s.heap.objs.size+4)) { s with heap:=h' }) :
 wpAny (model prog w) A (call (.type "zip") [.ref l1,.ref l2]) Q E s:=by
 refine callType_new F.called_zip (by decide) (F.typeCall_zip_2 _ _) (F.newCall_zip_2 _ _) (fun obj=>F.args_object_init_3 obj _ _) F.entry_zip_new (yuo b1 b2 l1 l2 xs ys) ⟨q1,q2,?_⟩
 have n1:(zg1 s.heap b1 l1).objs.size=s.heap.objs.size+1:=Heap.size_push ..
 have n2:(zg2 s.heap b1 b2 l1 l2).objs.size=s.heap.objs.size+2:=by rw[Heap.size_push,n1]
 have n3:(zg3 s.heap b1 b2 l1 l2).objs.size=s.heap.objs.size+3:=by rw[Heap.size_push,n2]
 have n4:(zg4 s.heap b1 b2 l1 l2).objs.size=s.heap.objs.size+4:=by rw[Heap.size_push,n3]
 have p5:(zg5 s.heap b1 b2 l1 l2).get? (zg4 s.heap b1 b2 l1 l2).objs.size=some _:=Heap.get?_push_size _ rfl
 have p4:(zg5 s.heap b1 b2 l1 l2).get? (zg3 s.heap b1 b2 l1 l2).objs.size=some _:=Heap.get?_push_of_some _ (Heap.get?_push_size _ rfl)
 have p3:(zg5 s.heap b1 b2 l1 l2).get? (zg2 s.heap b1 b2 l1 l2).objs.size=some _:=Heap.get?_push_of_some _ (Heap.get?_push_of_some _ (Heap.get?_push_size _ rfl))
 have p2:(zg5 s.heap b1 b2 l1 l2).get? (zg1 s.heap b1 l1).objs.size=some _:=Heap.get?_push_of_some _ (Heap.get?_push_of_some _ (Heap.get?_push_of_some _ (Heap.get?_push_size _ rfl)))
 have p1:(zg5 s.heap b1 b2 l1 l2).get? s.heap.objs.size=some _:=Heap.get?_push_of_some _ (Heap.get?_push_of_some _ (Heap.get?_push_of_some _ (Heap.get?_push_of_some _ (Heap.get?_push_size _ rfl))))
 rw[n2,n3,n4] at p5
 rw[n1,n2] at p3
 rw[n3] at p4
 rw[n1] at p2
 show _∧_
 rw[n4]
 exact⟨⟨_,p5,rfl⟩,hq _ p5 p3 p4 (yr2 p1) (yr2 p2) fun c o e=>Heap.get?_push_of_some _ (Heap.get?_push_of_some _ (Heap.get?_push_of_some _ (Heap.get?_push_of_some _ (Heap.get?_push_of_some _ e))))⟩
variable {z TI TO i1 i2 l1 l2:Addr}{b1 b2:Bool}{k1 k2:Nat}{xs ys:Array Value}{x y a b:Value}
theorem ylv {Q:Option Value→Shared→Prop}(D:ZipApart z TI TO i1 i2 l1 l2)(hz:IsZip s.heap z TI TO .none)(hTI:IsPair s.heap TI (.ref i1) (.ref i2))(hTO:IsPair s.heap TO a b)
 (h1:SqI s.heap b1 i1 l1 k1) (h2:SqI s.heap b2 i2 l2 k2) (hl1:SqH s.heap b1 l1 xs) (hl2:SqH s.heap b2 l2 ys) (hx:xs[k1]? = some x) (hy:ys[k2]? = some y)
 (hq:∀h',IsZip h' z TI TO (rawInt s.heap.objs.size)→IsPair h' TO x y→SqI h' b1 i1 l1 (k1+1)→SqI h' b2 i2 l2 (k2+1)→IsPair h' s.heap.objs.size x y→
  (∀c o,c≠z→c≠TO→c≠i1→c≠i2→s.heap.get? c=some o→h'.get? c=some o)→Q (some (.ref s.heap.objs.size)) { s with heap:=h' }):wpAny (model prog w) A (pyNext (.ref z)) Q E s:=by
 have ty:s.TypeIs (.ref z) "zip" := ⟨_,hz,rfl⟩
 (unfold pyNext;exact zwb0 (wpAny_attempt (wpAny_callSpecial?_slot (name:=Str.ofString "__next__") ty F.slot_zip_next (wpAny_call_entry F.slot_zip_next ty F.entry_zip_next (yr0 D hz hTI hTO h1 h2 hl1 hl2 hx hy fun h' a1 a2 a3 a4 a5 _ a7=>zwp0 (hq h' a1 a2 a3 a4 a5 a7)) (F.args_zip_next_1 _)))))
theorem ynq {Q:Option Value→Shared→Prop}(hh:A.handled=none)(D:ZipApart z TI TO i1 i2 l1 l2)(hz:IsZip s.heap z TI TO .none)(hTI:IsPair s.heap TI (.ref i1) (.ref i2))(hTO:IsPair s.heap TO a b)
 (h1:SqI s.heap b1 i1 l1 k1) (h2:SqI s.heap b2 i2 l2 k2) (hl1:SqH s.heap b1 l1 xs) (hl2:SqH s.heap b2 l2 ys) (hend:xs[k1]? = none∨ys[k2]? = none)
 (hq:∀h',(∀c o,c≠z→c≠TO→c≠i1→c≠i2→s.heap.get? c=some o→h'.get? c=some o)→Q none { s with heap:=h' }):wpAny (model prog w) A (pyNext (.ref z)) Q E s:=by
 have ty:s.TypeIs (.ref z) "zip" := ⟨_,hz,rfl⟩
 (unfold pyNext;refine zwb0 (wpAny_attempt (wpAny_callSpecial?_slot (name:=Str.ofString "__next__") ty F.slot_zip_next (wpAny_call_entry F.slot_zip_next ty F.entry_zip_next (yun hh D hz hTI hTO h1 h2 hl1 hl2 hend fun h' e hk ⟨o,ho,hc⟩=>?_) (F.args_zip_next_1 _)))))
 exact zwb0 (wpAny_isInstance (T := "StopIteration") (b:=true) ⟨o,ho,hc⟩ isSubtype_stop (zwp0 (hq _ hk)))
end
end L2
namespace L2
open PySem PySem.Spec PyProof.Rows
def SqB (K:PySem.W.Frag)(H:Hp)(b:Bool)(a:Addr)(xs:List V):Prop:=match b with
 |true=>SqL K H a xs
 |false=>SqT K H a xs
section
variable {X:Cx}{pins:List (Addr×Obj)}{σ:St}{H:Hp}{s:Shared}
theorem Inv.sqB {b:Bool}{a:Addr}{xs:List V}(I:Inv X pins σ H s)(h:SqB X.K H b a xs):∃its:List Value,Vals xs its∧SqH s.heap b a its.toArray:=by
 cases b with
 |true=>obtain ⟨its,r,p,_⟩:=I.list h;exact⟨its,r,p.isList⟩
 |false=>obtain ⟨its,r,p,_⟩:=I.tuple h;exact⟨its,r,p⟩
theorem Inv.sqB_inj {b:Bool}{a:Addr}{xs ys:List V}(I:Inv X pins σ H s)(h:SqB X.K H b a xs)(h':SqB X.K H b a ys):xs=ys:=by
 cases b with
 |true=>exact I.list_inj h h'
 |false=>exact I.tuple_inj h h'
theorem Inv.turnedL {h':Heap}{t':Nat}{ch:List Addr}(I:Inv X pins σ H s)(hf:∀b∈ch,ye8 X pins H b)(k:∀b o,b ∉ ch→s.heap.get? b=some o→h'.get? b=some o):Inv X pins σ H { s with heap:=h',toks:=t' }:=by
 have nt:∀b u,H b=some u→b ∉ ch:=fun b u e z=>by rw[(hf b z).1] at e;cases e
 have hL:X.env.locals ∉ ch:=fun z=>(hf _ z).2.1 rfl
 refine I.step (g':=s.gens) (d':=s.drawn) (ch:=ch) (fun b hb=>⟨(hf b hb).2.2.2.1,(hf b hb).2.1,(hf b hb).2.2.2.2.1,(hf b hb).2.2.2.2.2⟩) (fun b o _ _ hc e _=>k b o hc e) (fun b o _ _ hc e _=>⟨o.slots,k b o hc e⟩) (fun _ _ _ _ n=>n)
  (fun b o hc e=>⟨o,k b o hc e⟩) (fun _ _ e=>e) (fun _ _ _ e=>e) (fun b ps e=>⟨#[],by rw[e];simp⟩) (fun m hm=>?_) (fun b u e=>?_) I.bare
 ·obtain ⟨o,es,ep,ho,r⟩:=hm
  exact⟨o,es,ep,k _ o hL ho,r⟩
 ·refine(I.hok b u e).stay (fun c v hc q=>k c v ?_ q) (fun _ q=>q) fun _ _ q=>q
  rcases hc with z|z
  ·rw[z];exact nt b u e
  ·exact nt c _ z
theorem Inv.trackNew {h':Heap}{t':Nat}{a:Addr}{o:HO}(I0:Inv X pins σ H s)(I:Inv X pins σ H { s with heap:=h',toks:=t' })(ha:s.heap.objs.size≤a)(new:ObjOk X.prog X.w (upd H a o) h' a o):Inv X pins σ (upd H a o) { s with heap:=h',toks:=t' }:=by
 refine I.track (Heap.get?_none_of_le (Nat.le_trans I0.sz ha)) (I0.hok.fresh ha) (Nat.ne_of_gt (Nat.lt_of_lt_of_le I0.lt ha)) (fun x c e z=>?_) (fun p hp z=>?_) new
 ·obtain ⟨v,q⟩:=I0.cell x c e
  exact absurd (Nat.lt_of_lt_of_le q.lt (by rw[z];exact ha)) (Nat.lt_irrefl _)
 ·exact absurd (Nat.lt_of_lt_of_le (Heap.lt_size (I0.pin p hp).1) (by rw[z];exact ha)) (Nat.lt_irrefl _)
end
def Itz (K:PySem.W.Frag)(b1 b2:Bool)(l1 l2:Addr):It:=
 ⟨fun i H=>∃xs ys x y,SqB K H b1 l1 xs∧SqB K H b2 l2 ys∧xs[i]? = some x∧ys[i]? = some y,
  fun i H v H'=>∃p x y,v = .ref p∧H p=none∧H' = upd H p (.tup [x,y])∧∀xs ys,SqB K H b1 l1 xs→SqB K H b2 l2 ys→xs[i]? = some x∧ys[i]? = some y,
  fun i H=>∃xs ys,SqB K H b1 l1 xs∧SqB K H b2 l2 ys∧(xs.length≤i∨ys.length≤i)⟩
def zar (z TI TO i1 i2 l1 l2:Addr)(b1 b2:Bool)(i:Nat)(h:Heap):Prop:=IsZip h z TI TO .none∧IsPair h TI (.ref i1) (.ref i2)∧(∃a b,IsPair h TO a b)∧SqI h b1 i1 l1 i∧SqI h b2 i2 l2 i
theorem yup {P:Program}{w:World}{K:PySem.W.Frag}{es:List Expr}{x1:Nat}{tp:Pos}{z TI TO i1 i2 l1 l2:Addr}{b1 b2:Bool}(D:ZipApart z TI TO i1 i2 l1 l2) :
 Turn P w K (.Tuple es x1 tp) (Itz K b1 b2 l1 l2) [z,TI,TO,i1,i2] z (zar z TI TO i1 i2 l1 l2 b1 b2) where
 mem:=by simp
 obj:=fun i h ⟨t1,t2,⟨a,b,t3⟩,t4,t5⟩ c hc=>by
  simp only[List.mem_cons,List.not_mem_nil,or_false] at hc
  rcases hc with rfl|rfl|rfl|rfl|rfl
  ·exact⟨_,t1,fun v q=>by cases q⟩
  ·exact⟨_,t2,fun v q=>by cases q⟩
  ·exact⟨_,t3,fun v q=>by cases q⟩
  ·obtain ⟨o,e,vs,d⟩:=t4.obj;exact⟨o,e,fun v q=>by rw[d] at q;cases q⟩
  ·obtain ⟨o,e,vs,d⟩:=t5.obj;exact⟨o,e,fun v q=>by rw[d] at q;cases q⟩
 keep:=fun i h h' ⟨t1,t2,⟨a,b,t3⟩,t4,t5⟩ k=>⟨k z (by simp) _ t1,k TI (by simp) _ t2,⟨a,b,k TO (by simp) _ t3⟩,t4.keep fun o e=>k i1 (by simp) o e,t5.keep fun o e=>k i2 (by simp) o e⟩
 item:=by
  intro X hP hw hK hc i pins s σ H E I hf st hg
  subst hP hw hK
  obtain ⟨t1,t2,⟨a,b,t3⟩,t4,t5⟩:=st
  obtain ⟨xs,ys,x,y,q1,q2,e1,e2⟩:=hg
  obtain ⟨us,r1,p1⟩:=I.sqB q1
  obtain ⟨vs,r2,p2⟩:=I.sqB q2
  obtain ⟨u,eu,ru⟩:=r1.get e1
  obtain ⟨v,ev,rv⟩:=r2.get e2
  refine ylv (x:=u) (y:=v) D t1 t2 t3 t4 t5 p1 p2 (by simpa using eu) (by simpa using ev) fun h' a1 a2 a3 a4 a5 a7=>?_
  refine⟨_,rfl,wpAny_letOwnedTupleGo_zip a1 fun h'' c1 c2=>?_⟩
  have nz:s.heap.objs.size≠z:=Nat.ne_of_gt (Heap.lt_size t1)
  have I1:Inv X pins σ H { s with heap:=h'',toks:=s.toks }:=I.turnedL hf fun c o hc q=>by
   simp only[List.mem_cons,List.not_mem_nil,or_false,not_or] at hc
   exact c2.extBut c o hc.1 (a7 c o hc.1 hc.2.2.1 hc.2.2.2.1 hc.2.2.2.2 q)
  have I2:=I.trackNew (t':=s.toks) (o:=.tup [x,y]) I1 (Nat.le_refl _) ⟨by show 2≤sizeLine;decide,[u,v],.cons ru (.cons rv .nil),⟨_,c2.extBut _ _ nz a5,rfl,_,rfl⟩⟩
  have fr:H s.heap.objs.size=none:=I.hok.fresh (Nat.le_refl _)
  refine⟨.ref s.heap.objs.size,_,I2,rfl,⟨s.heap.objs.size,x,y,rfl,fr,rfl,fun xs' ys' q1' q2'=>⟨by rw[I.sqB_inj q1' q1];exact e1,by rw[I.sqB_inj q2' q2];exact e2⟩⟩,⟨c1,c2.extBut _ _ D.TIz (a7 TI _ D.TIz D.TITO D.TIi1 D.TIi2 t2),⟨u,v,c2.extBut _ _ D.TOz a2⟩,a3.ext c2.extBut D.i1z,a4.ext c2.extBut D.i2z⟩,fun c hc=>?_⟩
  obtain ⟨o,eo⟩ : ∃o,s.heap.get? c=some o:=by
   simp only[List.mem_cons,List.not_mem_nil,or_false] at hc
   rcases hc with rfl|rfl|rfl|rfl|rfl
   ·exact⟨_,t1⟩
   ·exact⟨_,t2⟩
   ·exact⟨_,t3⟩
   ·obtain ⟨o,e,_⟩:=t4.obj;exact⟨o,e⟩
   ·obtain ⟨o,e,_⟩:=t5.obj;exact⟨o,e⟩
  rw[yak (Nat.ne_of_lt (Heap.lt_size eo))]
  exact(hf c hc).1
 done:=by
  intro X hP hw hK hc i pins s σ H E I hf st hg
  subst hP hw hK
  obtain ⟨t1,t2,⟨a,b,t3⟩,t4,t5⟩:=st
  obtain ⟨xs,ys,q1,q2,hl⟩:=hg
  obtain ⟨us,r1,p1⟩:=I.sqB q1
  obtain ⟨vs,r2,p2⟩:=I.sqB q2
  have n1:=r1.length
  have n2:=r2.length
  refine ynq (I.ok.hd hc) D t1 t2 t3 t4 t5 p1 p2 ?_ fun h' kk=>⟨rfl,I.turnedL (t':=s.toks) hf fun c o hc q=>?_⟩
  ·rcases hl with z|z
   ·exact .inl (by simp;omega)
   ·exact .inr (by simp;omega)
  ·simp only[List.mem_cons,List.not_mem_nil,or_false,not_or] at hc
   exact kk c o hc.1 hc.2.2.1 hc.2.2.2.1 hc.2.2.2.2 q
 self:=fun _ _ _ _ _ st h=>wpAny_pyIter_zip st.1 h
section
variable {X:Cx}{es:List Expr}{x1:Nat}{tp:Pos}
def zba (K:PySem.W.Frag)(ta:TA):TI:=fun σ H R=>ta σ H fun vs H1=>∃b1 b2 l1 l2 xs ys,vs=[.ref l1,.ref l2]∧SqB K H1 b1 l1 xs∧SqB K H1 b2 l2 ys∧R (Itz K b1 b2 l1 l2) H1
theorem you {a b:Expr}{ta:TA}{p pos:Pos} (hg:Gl X "zip") (hm:X.mg "zip" = none) (ha:PA X [a,b] ta) (hs:starEach [a,b] X.env=[(false,eval a X.env),(false,eval b X.env)]:=by rfl) (hs2:starEach [b] X.env=[(false,eval b X.env)]:=by rfl) :
 PI X (.Tuple es x1 tp) (.Call (.Name "zip" p) [a,b] [] pos) (zba X.K ta):=by
 refine⟨?_⟩
 intro pins s σ H R I h
 refine Call_ (yht I hg hm boot_zip (PyProof.Rows.callWith_type1 (thn (ha pos pins s σ H _ I h) fun us s1 ⟨vs,H1,I1,r1,q1⟩=>?_) (by rw[hs,hs2]) (by rw[hs2];rfl)))
 obtain ⟨b1,b2,l1,l2,xs,ys,rfl,q1,q2,q⟩:=q1
 obtain ⟨u,v,rfl,ru,rv⟩:=r1.two
 cases ru;cases rv
 obtain ⟨us1,_,p1⟩:=I1.sqB q1
 obtain ⟨us2,_,p2⟩:=I1.sqB q2
 have n1:l1<s1.heap.objs.size:=by
  cases b1 with
  |true=>obtain ⟨o,e,_⟩:=(show s1.heap.IsList l1 _ from p1);exact Heap.lt_size e
  |false=>obtain ⟨o,e,_⟩:=(show s1.heap.IsTuple l1 _ from p1);exact Heap.lt_size e
 have n2:l2<s1.heap.objs.size:=by
  cases b2 with
  |true=>obtain ⟨o,e,_⟩:=(show s1.heap.IsList l2 _ from p2);exact Heap.lt_size e
  |false=>obtain ⟨o,e,_⟩:=(show s1.heap.IsTuple l2 _ from p2);exact Heap.lt_size e
 refine yr3 p1 p2 fun h' a1 a2 a3 a4 a5 kk=>?_
 refine wpAny_pyIter_zip a1 ?_
 have I2:Inv X pins σ H1 { s1 with heap:=h',toks:=s1.toks }:=I1.kept kk
 refine⟨_,[s1.heap.objs.size+4,s1.heap.objs.size+2,s1.heap.objs.size+3,s1.heap.objs.size,s1.heap.objs.size+1],_,_,H1,rfl,I2,yup (zipApart_new n1 n2),⟨a1,a2,⟨_,_,a3⟩,a4,a5⟩,fun c hc=>?_,q⟩
 have hge:s1.heap.objs.size≤c:=by
  simp only[List.mem_cons,List.not_mem_nil,or_false] at hc
  rcases hc with rfl|rfl|rfl|rfl|rfl <;> omega
 exact I1.fpOk (H':=H1) hge (I1.hok.fresh hge)
end
section
variable {X:Cx}
theorem yjs:∀{bs:List Bool}{us:List Value},Vals (bs.map V.bl) us→us=bs.map Value.bool
 |[],_,.nil=>rfl
 |b::r,_,.cons x t=>by rw[show _=Value.bool b from x,yjs t];rfl
theorem yr4 {bs:List Bool}:(List.range bs.length).all (fun i=>bs.getD i false)=bs.all id:=by
 rw[Bool.eq_iff_iff,List.all_eq_true,List.all_eq_true]
 constructor
 ·intro h b hb
  obtain ⟨i,hi,rfl⟩:=List.mem_iff_getElem.mp hb
  have:=h i (List.mem_range.mpr hi)
  simpa [List.getD_eq_getElem?_getD,hi] using this
 ·intro h i hi
  have hi':=List.mem_range.mp hi
  have:=h _ (List.getElem_mem hi')
  simpa [List.getD_eq_getElem?_getD,hi'] using this
theorem yuq {bs:List Bool}{i:Nat}{v:Value}(h:(bs.map Value.bool).toArray[i]? = some v):v = .bool (bs.getD i false):=by
 have h':(bs.map Value.bool)[i]? = some v:=by simpa using h
 rw[List.getElem?_map] at h'
 cases e:bs[i]? with
 |none=>rw[e] at h';cases h'
 |some b=>
  rw[e] at h'
  rw[List.getD_eq_getElem?_getD,e]
  exact(Option.some.inj h').symm
theorem ygd (hc:X.calm=true):yfa X (.builtin "all") (fun xs H Q=>∃(p:Addr) (bs:List Bool),xs=[.ref p]∧SqL X.K H p (bs.map V.bl)∧Q (.bl (bs.all id)) H):=by
 intro pins s σ H xs us Q I r h
 obtain ⟨p,bs,rfl,hq,q⟩:=h
 obtain ⟨u,rfl,ru⟩:=r.one
 cases ru
 obtain ⟨its,rv,pl,hz⟩:=I.list hq
 have e:=yjs rv
 subst e
 have nl:p≠s.heap.objs.size:=by obtain ⟨o,e,_⟩:=pl.isList;exact Nat.ne_of_lt (Heap.lt_size e)
 refine call_all_walk (wpAny_pyIter_list pl.isList ?_)
 refine⟨s.heap.objs.size,_,_,_,_,_,fun i=>bs.getD i false,rfl,Walks.list (A:=X.A.in1) (I.ok.hd hc) s.heap.objs.size p nl (bs.map Value.bool).toArray,⟨⟨_,Heap.get?_push_size _ rfl,rfl,rfl⟩,pl.isList.push _⟩,?_,fun h' tk k=>?_⟩
 ·intro i v s' Q' E' hP hq'
  rw[yuq hP]
  exact zwp0 hq'
 ·have e2:(bs.map Value.bool).toArray.size=bs.length:=by simp
  rw[e2,yr4]
  refine⟨.bl _,H,I.kept (t':=tk) (h':=h') fun b o e=>k b o ?_ (Heap.get?_push_of_some _ e),rfl,q⟩
  intro z
  have z':b=s.heap.objs.size:=by simpa using z
  exact absurd (Heap.lt_size e) (by rw[z'];exact Nat.lt_irrefl _)
def yr5:V→List V→Hp→VK→Prop:=fun x vs H Q=>∃l xs y j,x = .ref l∧vs=[y]∧H l=some (.lst xs)∧ygr y=true∧xs.all ygr=true∧(∃z,xs[j]? = some z∧eqV z y=true)∧(∀m z,m<j→xs[m]? = some z→eqV z y=false)∧Q (.int (j:Nat)) H
theorem yov:MtM X "list.index" yr5:=by
 intro pins s σ H x vs v us Q I rx rv h
 obtain ⟨l,xs,y,j,rfl,rfl,hH,fy,fs,⟨zj,ej,hj⟩,hno,q⟩:=h
 cases rx
 obtain ⟨u,rfl,ru⟩:=rv.one
 obtain ⟨z,its,n,r,hl,e⟩:=I.lstM hH
 have fl:∀(m:Nat) w,xs[m]? = some w→ygr w=true:=fun m w em=>List.all_eq_true.mp fs w (List.mem_of_getElem? em)
 obtain ⟨uj,euj,ruj⟩:=r.get ej
 obtain ⟨hlt,eget⟩:=List.getElem?_eq_some_iff.mp euj
 have hs63:(sizeLine:Nat)<2 ^ 62:=by decide
 refine call_meets F.slot_list_index ⟨_,e,rfl⟩ F.entry_list_index (F.args_list_index_2 _ _)
  (SeqAt.list_indexAt l its.toArray n none #[] u (eqU y) j (by simpa using hlt) (by omega) ?_ ?_) ⟨e,fun w hw=>yot ru fy r fs w (by simpa using hw),⟨.int _,H,I.tok _,⟨_,rfl⟩,q⟩⟩
 ·show eqU y (its.toArray[j]'(by simpa using hlt))=true
  rw[List.getElem_toArray,eget,yrt ruj (fl j zj ej)]
  exact hj
 ·intro m hm hmj
  have hm':m<xs.length:=by rw[hl];simpa using hm
  have em:xs[m]? = some xs[m]:=List.getElem?_eq_getElem hm'
  obtain ⟨um,eum,rum⟩:=r.get em
  obtain ⟨hlt',eget'⟩:=List.getElem?_eq_some_iff.mp eum
  rw[List.getElem_toArray,eget',yrt rum (fl m _ em)]
  exact hno m _ hmj em
def zas (i j:Int):Prop:=0<j∧j<18446744073709551616
theorem yow:OpR X (binaryOp .FloorDiv) (rI zas fun i j=>.int (i / j)):=opI fun i j _ _ _ _ _ hc q=>by
 have hj:j.natAbs.log2<9000:=by
  have h0:j.natAbs≠0:=by have:=hc.1;omega
  have h1:j.natAbs<2 ^ 64:=by
   have h2:=hc.1
   have h3:j<2 ^ 64:=hc.2
   omega
  have:=(Nat.log2_lt h0).mpr h1
  omega
 have e:i / j=i.fdiv j:=(Int.fdiv_eq_ediv_of_nonneg i (Int.le_of_lt hc.1)).symm
 rw[e] at q
 exact floordiv_int (by have:=hc.1;omega) q (.inl (PyProof.noPylong_of_log2 hj))
def zaa:V→Option Value
 |.ty n=>some (.type n)
 |.ref a=>some (.ref a)
 |_=>none
theorem yox {c:V}{u w:Value}(r:RelV c u)(h:zaa c=some w):u=w:=by
 cases c with
 |ty n=>cases h;exact r
 |ref a=>cases h;exact r
 |_=>cases h
def zbt (K:PySem.W.Frag):List V→Hp→VK→Prop:=fun xs H Q=>∃x c t w b,xs=[x,c]∧zaa c=some w∧TyOf K H x t∧PySem.W.kitOne K t w=some b∧Q (.bl b) H
theorem ydk:yfa X (.builtin "isinstance") (zbt X.K):=by
 intro pins s σ H xs us Q I r h
 obtain ⟨x,c,t,w,b,rfl,hw,ty,e,q⟩:=h
 obtain ⟨u,v,rfl,ru,rv⟩:=r.two
 rw[yox rv hw]
 exact yrm I ru ty e fun tk=>⟨.bl b,H,I.tok tk,rfl,q⟩
end
section
variable {X:Cx}{pins:List (Addr×Obj)}{σ:St}{H:Hp}{s:Shared}
theorem yur {x:V}{u t:Value} (I:Inv X pins σ H s) (rx:RelV x u) (ty:TyOf X.K H x t):∃φ:Heap→Prop,PySem.W.KitX X.K u t φ∧φ s.heap∧u≠.builtin "__main__.__loader__#opaque" := by
 cases ty with
 |non=>cases (show u=Value.none from rx);exact⟨_,PySem.W.kitx_none,True.intro,(fun z=>nomatch z)⟩
 |bl y=>cases (show u=Value.bool y from rx);exact⟨_,PySem.W.kitx_bool,True.intro,(fun z=>nomatch z)⟩
 |int i=>obtain ⟨t,q⟩:=(show ∃t,u=Value.int i t from rx);cases q;exact⟨_,PySem.W.kitx_int,True.intro,(fun z=>nomatch z)⟩
 |str y=>obtain ⟨t,q⟩:=(show ∃t,u=Value.str y t from rx);cases q;exact⟨_,PySem.W.kitx_str,True.intro,(fun z=>nomatch z)⟩
 |flt y=>obtain ⟨t,q⟩:=(show ∃t,u=Value.float y t from rx);cases q;exact⟨_,PySem.W.kitx_float,True.intro,(fun z=>nomatch z)⟩
 |@lst a xs ea=>
  cases (show u=Value.ref a from rx)
  obtain ⟨_,_,n,_,h1⟩:=(show ObjOk X.prog X.w H s.heap a (.lst xs) from I.hok a _ ea)
  exact⟨_,PySem.W.kitx_list,⟨_,h1,rfl⟩,(fun z=>nomatch z)⟩
 |@frz a ob xs ea=>
  cases (show u=Value.ref a from rx)
  obtain ⟨_,_,_,n,_,h1⟩:=(show ObjOk X.prog X.w H s.heap a (.frz ob (.lst xs)) from I.hok a _ ea)
  exact⟨_,PySem.W.kitx_list,⟨_,h1,rfl⟩,(fun z=>nomatch z)⟩
 |@tup a xs ea=>
  cases (show u=Value.ref a from rx)
  obtain ⟨_,_,_,p⟩:=(show ObjOk X.prog X.w H s.heap a (.tup xs) from I.hok a _ ea)
  obtain ⟨o,h1,h2,_⟩:=p
  exact⟨_,PySem.W.kitx_tuple,⟨o,h1,h2⟩,(fun z=>nomatch z)⟩
 |@dK a kvs ea=>
  cases (show u=Value.ref a from rx)
  obtain ⟨_,_,vs,_,p⟩:=(show ObjOk X.prog X.w H s.heap a (.dK kvs) from I.hok a _ ea)
  obtain ⟨o,es,ep,h1,h2,_⟩:=p
  exact⟨_,PySem.W.kitx_dict,⟨o,h1,h2.1⟩,(fun z=>nomatch z)⟩
 |@dT a kvs ea=>
  cases (show u=Value.ref a from rx)
  obtain ⟨_,_,xs,_,o,es,ep,h1,h2,_⟩:=(show ObjOk X.prog X.w H s.heap a (.dT kvs) from I.hok a _ ea)
  exact⟨_,PySem.W.kitx_dict,⟨o,h1,h2.1⟩,(fun z=>nomatch z)⟩
 |@ins a C dx fs ea cl ha hn htk hm=>
  cases (show u=Value.ref a from rx)
  obtain ⟨mA,O,_⟩:=yrl I.hok ea
  obtain ⟨od,J,_⟩:=O.look
  exact⟨_,PySem.W.kitx_own (cl.get _) cl.hd ha hn htk hm,J,(fun z=>nomatch z)⟩
theorem yr6:∀{cs:List V}{us ws:List Value},Vals cs us→cs.map zaa=ws.map some→us=ws
 |[],_,[],.nil,_=>rfl
 |c::cs,_,w::ws,.cons r t,e=>by
  rw[List.map_cons,List.map_cons] at e
  injection e with e1 e2
  rw[yox r e1,yr6 t e2]
def zbu (K:PySem.W.Frag):List V→Hp→VK→Prop:=fun xs H Q=>∃x p cs t ws b,xs=[x,.ref p]∧H p=some (.tup cs)∧cs.map zaa=ws.map some∧TyOf K H x t∧PySem.W.kitAny K t ws=some b∧Q (.bl b) H
theorem yoy:yfa X (.builtin "isinstance") (zbu X.K):=by
 intro pins s σ H xs us Q I r h
 obtain ⟨x,p,cs,t,ws,b,rfl,hp,hc,ty,e,q⟩:=h
 obtain ⟨u,v,rfl,ru,rv⟩:=r.two
 cases rv
 obtain ⟨φ,Z,hφ,hne⟩:=yur I ru ty
 obtain ⟨_,its,rs,⟨ob,h1,h2,n,h3⟩⟩:=(show ObjOk X.prog X.w H s.heap p (.tup cs) from I.hok p _ hp)
 have ei:=yr6 rs hc
 subst ei
 obtain ⟨oc,od,dt,sl⟩:=ob
 dsimp only at h2 h3
 subst h2 h3
 exact PySem.W.kia_tup Z I.kIn hφ h1 e hne fun tk=>⟨.bl b,H,I.tok tk,rfl,q⟩
end
inductive EqD (H:Hp):Nat→V→V→Prop
 |flat {n:Nat}{v:V} (h:ygr v=true):EqD H n v v
 |tup {n:Nat}{p q:Addr}{xs ys:List V} (h1:H p=some (.tup xs)) (h2:H q=some (.tup ys)) (hl:xs.length=ys.length) (hs:xs.length≤1000) (h:∀(i:Nat) x y,xs[i]? = some x→ys[i]? = some y→EqD H n x y):EqD H (n+1) (.ref p) (.ref q)
 |lst {n:Nat}{p q:Addr}{xs ys:List V} (h1:H p=some (.lst xs)) (h2:H q=some (.lst ys)) (hl:xs.length=ys.length) (hs:xs.length≤1000) (h:∀(i:Nat) x y,xs[i]? = some x→ys[i]? = some y→EqD H n x y):EqD H (n+1) (.ref p) (.ref q)
theorem EqD.same {H H':Hp}(s:Same H H'):∀{n:Nat}{v u:V},EqD H n v u→EqD H' n v u:=by
 intro n v u h
 induction h with
 |flat h=>exact .flat h
 |tup h1 h2 hl hs _ ih=>exact .tup (s _ _ h1) (s _ _ h2) hl hs fun i x y a b=>ih i x y a b
 |lst h1 h2 hl hs _ ih=>exact .lst (s _ _ h1) (s _ _ h2) hl hs fun i x y a b=>ih i x y a b
theorem yae {H:Hp}{p:Addr}(h:H p=none)(o:HO):Same H (upd H p o):=fun b u q=>by rw[yak (yam q h)];exact q
def ywh:Expr→Bool
 |.Starred ..=>false
 |_=>true
theorem yp3 {e:Expr}{es:List Expr}{env:Env}(h:ywh e=true):starEach (e::es) env=(false,eval e env)::starEach es env:=by
 cases e <;> first|rfl|cases h
theorem yal {X:Cx}{e:Expr}{es:List Expr}{te:TE}{t:TA}(ha:PE X e te)(hr:PA X es t)(hn:ywh e=true:=by rfl):PA X (e::es) (ybp te t):=yw7 ha hr (yp3 hn)
inductive EqB (K:PySem.W.Frag) (H:Hp):Nat→V→V→Bool→Prop
 |flat {n:Nat}{x y:V} (hx:ygr x=true) (hy:ygr y=true):EqB K H n x y (eqV x y)
 |same {n:Nat}{p:Addr}:EqB K H n (.ref p) (.ref p) true
 |tup {n:Nat}{a b:Addr}{xs ys:List V} (e:Nat→Bool) (hn:a≠b) (h1:SqT K H a xs) (h2:SqT K H b ys) (he:∀j x y,xs[j]? = some x→ys[j]? = some y→EqB K H n x y (e j)):EqB K H (n+1) (.ref a) (.ref b) ((List.range (min xs.length ys.length)).all e&&xs.length == ys.length)
 |lst {n:Nat}{a b:Addr}{xs ys:List V} (e:Nat→Bool) (hn:a≠b) (hl:xs.length=ys.length) (h1:SqL K H a xs) (h2:SqL K H b ys) (he:∀j x y,xs[j]? = some x→ys[j]? = some y→EqB K H n x y (e j)):EqB K H (n+1) (.ref a) (.ref b) ((List.range xs.length).all e)
 |lsn {n:Nat}{a b:Addr}{xs ys:List V} (hl:xs.length≠ys.length) (h1:SqL K H a xs) (h2:SqL K H b ys):EqB K H (n+1) (.ref a) (.ref b) false
theorem yge {A:Around}:A.in1.units=A.units+1:=rfl
section
variable {X:Cx}{pins:List (Addr×Obj)}{σ:St}{H:Hp}{s:Shared}
theorem ygs {A:Around}{n:Nat}{xs ys:List V}{us vs:List Value}{e:Nat→Bool}(rx:Vals xs us)(ry:Vals ys vs)(h:∀j x y u v,xs[j]? = some x→ys[j]? = some y→RelV x u→RelV y v→SeqAt.EqAt A s u v (e j)) :
 ∀j (h1:j<us.toArray.size) (h2:j<vs.toArray.size),SeqAt.EqAt A s us.toArray[j] vs.toArray[j] (e j):=fun j h1 h2=>by
 have l1:=rx.length
 have l2:=ry.length
 have g1:j<xs.length:=by simp at h1;omega
 have g2:j<ys.length:=by simp at h2;omega
 obtain ⟨u,eu,ru⟩:=rx.get (List.getElem?_eq_getElem g1)
 obtain ⟨v,ev,rv⟩:=ry.get (List.getElem?_eq_getElem g2)
 have e1:us.toArray[j]=u:=by
  have:=List.getElem?_eq_some_iff.mp eu
  obtain ⟨_,e⟩:=this
  simpa using e
 have e2:vs.toArray[j]=v:=by
  have:=List.getElem?_eq_some_iff.mp ev
  obtain ⟨_,e⟩:=this
  simpa using e
 rw[e1,e2]
 exact h j _ _ u v (List.getElem?_eq_getElem g1) (List.getElem?_eq_getElem g2) ru rv
theorem EqB.eqAt (I:Inv X pins σ H s){n:Nat}{x y:V}{b:Bool}(h:EqB X.K H n x y b):∀(A:Around) (u v:Value),A.units+n<cLine→RelV x u→RelV y v→SeqAt.EqAt A s u v b:=by
 induction h with
 |flat hx hy=>exact fun A u v _ rx ry=>ywf rx ry hx hy
 |same=>intro A u v _ rx ry;cases rx;cases ry;exact SeqAt.EqAt.same _
 |@tup n a b xs ys e hn h1 h2 he ih=>
  intro A u v hu rx ry
  cases rx;cases ry
  obtain ⟨us,r1,p1,_⟩:=I.tuple h1
  obtain ⟨vs,r2,p2,_⟩:=I.tuple h2
  refine SeqAt.EqAt.of_refs hn ?_
  have:=SeqAt.RcAt.tuples (s:=s) (A:=A) (e:=e) p1 p2 (by omega) (ygs (n:=n) r1 r2 fun j x y u v e1 e2 ru rv=>ih j x y e1 e2 A.in1 u v (by rw[yge];omega) ru rv)
  have l1:=r1.length
  have l2:=r2.length
  simpa [l1,l2] using this
 |@lst n a b xs ys e hn hl h1 h2 he ih=>
  intro A u v hu rx ry
  cases rx;cases ry
  obtain ⟨us,r1,p1,_⟩:=I.list h1
  obtain ⟨vs,r2,p2,_⟩:=I.list h2
  have l1:=r1.length
  have l2:=r2.length
  refine SeqAt.EqAt.of_refs hn ?_
  have:=SeqAt.RcAt.lists (s:=s) (A:=A) (e:=e) p1.isList p2.isList (by simp;omega) (by omega) (ygs (n:=n) r1 r2 fun j x y u v e1 e2 ru rv=>ih j x y e1 e2 A.in1 u v (by rw[yge];omega) ru rv)
  simpa [l1,l2] using this
 |@lsn n a b xs ys hl h1 h2=>
  intro A u v hu rx ry
  cases rx;cases ry
  have hn:a≠b:=fun z=>by subst z;exact hl (by rw[I.list_inj h1 h2])
  obtain ⟨us,r1,p1,_⟩:=I.list h1
  obtain ⟨vs,r2,p2,_⟩:=I.list h2
  have l1:=r1.length
  have l2:=r2.length
  refine SeqAt.EqAt.of_refs hn ?_
  exact SeqAt.RcAt.lists_lengths (s:=s) (A:=A) p1.isList p2.isList (by simp;omega) (by omega)
def yxg (K:PySem.W.Frag)(neg:Bool):R2:=fun x y H Q=>∃a b xs ys,x = .ref a∧y = .ref b∧SqL K H a xs∧SqL K H b ys∧
 ((xs.length≠ys.length∧Q (.bl neg) H)∨(xs.length=ys.length∧∃(n:Nat) (e:Nat→Bool),n≤32∧(∀j x y,xs[j]? = some x→ys[j]? = some y→EqB K H n x y (e j))∧Q (.bl (neg != (List.range xs.length).all e)) H))
theorem ywi (hu:X.A.units+64<cLine):OpR X (compareOp .NotEq) (yxg X.K true):=by
 intro pins s σ H x y v u Q I rx ry h
 obtain ⟨a,b,xs,ys,rfl,rfl,h1,h2,h⟩:=h
 cases rx;cases ry
 obtain ⟨us,r1,p1,_⟩:=I.list h1
 obtain ⟨vs,r2,p2,_⟩:=I.list h2
 have l1:=r1.length
 have l2:=r2.length
 rcases h with ⟨hl,q⟩ | ⟨hl,n,e,hn,he,q⟩
 ·exact SeqAt.RcNeAt.lists_lengths (s:=s) (A:=X.A) p1.isList p2.isList (by simp;omega) (by omega) _ _ _ _ ⟨.bl _,H,I,rfl,q⟩
 ·refine SeqAt.RcNeAt.lists (s:=s) (A:=X.A) (e:=e) p1.isList p2.isList (by simp;omega) (by omega) (ygs (n:=n) r1 r2 fun j x y u v e1 e2 ru rv=>(he j x y e1 e2).eqAt I _ u v (by rw[yge];omega) ru rv) _ _ _ _ ⟨.bl _,H,I,rfl,?_⟩
  simpa [l1] using q
end
structure Cal (P:Program) (w:World) (K:PySem.W.Frag) (mg:Str→Option Value) (base:Heap) (CX:CXT) (k:Nat) (x:Str) (ps:List Str) (sp:Sp):Prop where
 ex:∃(f:Addr) (fd:FuncData),FnOk P w K mg base CX k f fd ps sp∧Binds K fd ps []∧PySem.W.keepIn K (.ref f)=true∧mg x=some (.ref f)
theorem yan {X:Cx}{CX:CXT}{k j:Nat}{ps:List Str}{sp:Sp}{E:XK}{x:Str}{p pos:Pos}{e:Expr}{es:List Expr}{t:TA}(F:Cal X.prog X.w X.K X.mg X.base CX k x ps sp)(hr:Room j X.A)(hg:Gl X x)(hx:yjp CX X E)(ha:PA X (e::es) t)
 (hk:k≤j:=by decide) (hdb:(x == ("__debug__" : Str))=false:=by decide) (he:starEach (e::es) X.env=(false,eval e X.env)::starEach es X.env:=by rfl) (hpl:(backTo pos (starEach es X.env)).any (·.1)=false:=by rfl) :
 PE X (.Call (.Name x p) (e::es) [] pos) (yi7 sp [] E t):=by
 obtain ⟨f,fd,h1,h2,h3,h4⟩:=F.ex
 exact yro (h1.mono hk) hr hg h4 h3 h2 .nil hx ha hdb he hpl
def Ite (K:PySem.W.Frag)(l:Addr):It:=
 ⟨fun i H=>∃xs x,SqL K H l xs∧xs[i]? = some x,
  fun i H v H'=>∃p x,v = .ref p∧H p=none∧H' = upd H p (.tup [.int i,x])∧∀xs,SqL K H l xs→xs[i]? = some x,
  fun i H=>∃xs,SqL K H l xs∧xs.length≤i⟩
def zat (e it l:Addr)(i:Nat)(h:Heap):Prop:=(∃old,IsEnum h e it i old)∧h.IsListIter it l i
theorem yr7 {P:Program}{w:World}{K:PySem.W.Frag}{es:List Expr}{x1:Nat}{tp:Pos}{e it l:Addr}(ne:e≠it):Turn P w K (.Tuple es x1 tp) (Ite K l) [e,it] e (zat e it l) where
 mem:=by simp
 obj:=fun i h ⟨⟨old,t1⟩,t2⟩ c hc=>by
  simp only[List.mem_cons,List.not_mem_nil,or_false] at hc
  rcases hc with rfl|rfl
  ·exact⟨_,t1,fun v q=>by cases q⟩
  ·obtain ⟨o,h1,_,h3⟩:=t2;exact⟨o,h1,fun v q=>by rw[h3] at q;cases q⟩
 keep:=fun i h h' ⟨⟨old,t1⟩,t2⟩ k=>⟨⟨old,k e (by simp) _ t1⟩,Heap.IsListIter.at (h:=h) t2 fun o q=>k it (by simp) o q⟩
 item:=by
  intro X hP hw hK hc i pins s σ H E I hf st hg
  subst hP hw hK
  obtain ⟨⟨old,t1⟩,t2⟩:=st
  obtain ⟨xs,x,q1,e1⟩:=hg
  obtain ⟨us,r1,p1,_⟩:=I.list q1
  obtain ⟨u,eu,ru⟩:=r1.get e1
  refine wpAny_pyNext_enum_item t1 t2 p1.isList (x:=u) (by simpa using eu) ne fun h' a1 a2 a3 a4 a5=>?_
  refine⟨_,rfl,wpAny_letOwnedTupleGo_enum a1 fun h'' c1 c2=>?_⟩
  have nz:s.heap.objs.size≠e:=Nat.ne_of_gt (Heap.lt_size t1)
  have I1:Inv X pins σ H { s with heap:=h'',toks:=s.toks+1 }:=I.turnedL hf fun c o hc q=>by
   simp only[List.mem_cons,List.not_mem_nil,or_false,not_or] at hc
   exact c2.extBut c o hc.1 (a5 c o hc.1 hc.2 q)
  have I2:=I.trackNew (t':=s.toks+1) (o:=.tup [.int i,x]) I1 (Nat.le_refl _) ⟨by show 2≤sizeLine;decide,[.int i s.toks,u],.cons ⟨_,rfl⟩ (.cons ru .nil),⟨_,c2.extBut _ _ nz a3,rfl,_,rfl⟩⟩
  have fr:H s.heap.objs.size=none:=I.hok.fresh (Nat.le_refl _)
  refine⟨.ref s.heap.objs.size,_,I2,rfl,⟨s.heap.objs.size,x,rfl,fr,rfl,fun xs' q1'=>by rw[I.list_inj q1' q1];exact e1⟩,⟨⟨_,c1⟩,Heap.IsListIter.at (h:=h') a2 fun o q=>c2.extBut it o (Ne.symm ne) q⟩,fun c hc=>?_⟩
  obtain ⟨o,eo⟩ : ∃o,s.heap.get? c=some o:=by
   simp only[List.mem_cons,List.not_mem_nil,or_false] at hc
   rcases hc with rfl|rfl
   ·exact⟨_,t1⟩
   ·obtain ⟨o,h1,_⟩:=t2;exact⟨o,h1⟩
  rw[yak (Nat.ne_of_lt (Heap.lt_size eo))]
  exact(hf c hc).1
 done:=by
  intro X hP hw hK hc i pins s σ H E I hf st hg
  subst hP hw hK
  obtain ⟨⟨old,t1⟩,t2⟩:=st
  obtain ⟨xs,q1,hl⟩:=hg
  obtain ⟨us,r1,p1,_⟩:=I.list q1
  have n1:=r1.length
  refine wpAny_pyNext_enum_end (I.ok.hd hc) t1 t2 p1.isList (by simp;omega) fun h' kk=>⟨rfl,I.turnedL (t':=s.toks) hf fun c o hc q=>?_⟩
  simp only[List.mem_cons,List.not_mem_nil,or_false,not_or] at hc
  exact kk c o hc.2 q
 self:=fun _ _ _ _ _ st h=>by
  obtain ⟨⟨old,t1⟩,_⟩:=st
  exact wpAny_pyIter_enum t1 h
section
variable {X:Cx}{es:List Expr}{x1:Nat}{tp:Pos}
def zbv (K:PySem.W.Frag)(ta:TA):TI:=fun σ H R=>ta σ H fun vs H1=>∃l xs,vs=[.ref l]∧SqL K H1 l xs∧R (Ite K l) H1
theorem yr8 {a:Expr}{ta:TA}{p pos:Pos} (hg:Gl X "enumerate") (hm:X.mg "enumerate" = none) (ha:PA X [a] ta) (hs:starEach [a] X.env=[(false,eval a X.env)]:=by rfl) :
 PI X (.Tuple es x1 tp) (.Call (.Name "enumerate" p) [a] [] pos) (zbv X.K ta):=by
 refine⟨?_⟩
 intro pins s σ H R I h
 refine Call_ (yht I hg hm boot_enumerate (PyProof.Rows.callWith_type1 (thn (ha pos pins s σ H _ I h) fun us s1 ⟨vs,H1,I1,r1,q1⟩=>?_) hs rfl))
 obtain ⟨l,xs,rfl,q1,q⟩:=q1
 cases r1 with
 |cons r rr=>
  cases rr
  cases r
  obtain ⟨us1,_,p1,_⟩:=I1.list q1
  refine call_enumerate_list p1.isList fun h' a1 a2 _ kk=>?_
  refine wpAny_pyIter_enum a1 ?_
  have I2:Inv X pins σ H1 { s1 with heap:=h',toks:=s1.toks }:=I1.kept kk
  refine⟨_,[s1.heap.objs.size+1,s1.heap.objs.size],_,_,H1,rfl,I2,yr7 (Nat.succ_ne_self _),⟨⟨_,a1⟩,a2⟩,fun c hc=>?_,q⟩
  have hge:s1.heap.objs.size≤c:=by
   simp only[List.mem_cons,List.not_mem_nil,or_false] at hc
   rcases hc with rfl|rfl <;> omega
  exact I1.fpOk (H':=H1) hge (I1.hok.fresh hge)
theorem yr9 {K:PySem.W.Frag}{b1 b2:Bool}{a b:Addr}{xs ys:List V}{g:TG}{tb:TS}{D:Ends}{σ:St}{H:Hp}(Pv:Nat→St→Hp→Prop)(h0:Pv 0 σ H)(hl:∀i σ H,i≤min xs.length ys.length→Pv i σ H→SqB K H b1 a xs∧SqB K H b2 b ys)
 (hs:∀i x y σ H p,xs[i]? = some x→ys[i]? = some y→Pv i σ H→H p=none→g (.ref p) σ (upd H p (.tup [x,y])) fun σ2 H2=>tb { D with nx:=Pv (i+1),ct:=Pv (i+1),bk:=D.nx } σ2 H2) (hd:∀σ H,Pv (min xs.length ys.length) σ H→D.nx σ H) :
 ∃W:Nat→Nat→St→Hp→Prop,(∃m,W 0 m σ H)∧∀i m σ H,W i m σ H→
  ((Itz K b1 b2 a b).stop i H∧D.nx σ H)∨((Itz K b1 b2 a b).go i H∧∃N:St→Hp→Prop,(∀σ' H',N σ' H'→∃m',m' < m∧W (i+1) m' σ' H')∧∀x H',(Itz K b1 b2 a b).yld i H x H'→g x σ H' fun σ2 H2=>tb { D with nx:=N,ct:=N,bk:=D.nx } σ2 H2):=by
 refine⟨fun i m σ H=>m=min xs.length ys.length-i∧i≤min xs.length ys.length∧Pv i σ H,⟨min xs.length ys.length,by simp,Nat.zero_le _,h0⟩,?_⟩
 rintro i m σ H ⟨rfl,hi,p⟩
 obtain ⟨q1,q2⟩:=hl i σ H hi p
 by_cases hlt:i<min xs.length ys.length
 ·refine .inr ⟨⟨xs,ys,xs[i]'(by omega),ys[i]'(by omega),q1,q2,by simp,by simp⟩,Pv (i+1),fun σ' H' p'=>⟨min xs.length ys.length-(i+1),by omega,rfl,hlt,p'⟩,fun x H' y=>?_⟩
  obtain ⟨c,x',y',rfl,hc,rfl,y⟩:=y
  obtain ⟨e1,e2⟩:=y xs ys q1 q2
  exact hs i x' y' σ _ c e1 e2 p hc
 ·have e:i=min xs.length ys.length:=by omega
  subst e
  exact .inl ⟨⟨xs,ys,q1,q2,by omega⟩,hd σ H p⟩
end
def yoz (scope D:Scope):List (Str×NameKind):=scope.names.map fun (n,k)=>if (k == .free&&D.kind == .function&&D.names.lookup n == some .cell) then (n,.cell) else (n,k)
def ywj (N N':List Str)(ix:List (Option Nat))(scope D:Scope):Bool:=
 (scope.kind == .function)&&(scope.names.all fun y=>(y.2 == .local&&scope.names.lookup y.1 == some .local) || (y.2 == .free&&D.names.lookup y.1 == some .cell) || (y.2 != .local&&y.2 != .free&&y.2 != .cell))&&decide N'.Nodup&&(ix.length == N'.length) &&
 ((List.range N'.length).all fun k=>match ix[k]?,N'[k]? with
  |some (some j),some x=>N[j]? == some x&&scope.names.contains (x,.free)&&(yoz scope D).lookup x == some .cell
  |_,_=>true)
theorem yav {X:Cx}{N':List Str}{ix:List (Option Nat)}{scope:Scope}{N:List Str}{D:Scope}(h:ywj N N' ix scope D=true)(hN:X.N=N:=by rfl)(hD:X.env.scope=D:=by rfl):CompScope X N' ix scope:=by
 unfold ywj at h
 simp only[Bool.and_eq_true,decide_eq_true_eq] at h
 obtain ⟨⟨⟨⟨h1,h2⟩,h3⟩,h4⟩,h5⟩:=h
 have hall:=List.all_eq_true.mp h2
 refine⟨by simpa using h1,fun y hy=>?_,fun y hy e=>?_,h3,by simpa using h4,fun y hy e=>?_,fun k j x e1 e2=>?_⟩
 ·have:=hall y hy
  intro z
  rw[z] at this
  simp at this
 ·have:=hall y hy
  rw[e] at this
  simpa using this
 ·have:=hall y hy
  rw[e] at this
  have q:D.names.lookup y.1=some .cell:=by simpa using this
  show X.env.scope.names.lookup y.1=some .cell
  rw[hD];exact q
 ·have hk:k<N'.length:=(List.getElem?_eq_some_iff.mp e1).1
  have:=List.all_eq_true.mp h5 k (List.mem_range.mpr hk)
  rw[e1,e2] at this
  simp only[Bool.and_eq_true,beq_iff_eq] at this
  obtain ⟨⟨a1,a2⟩,a3⟩:=this
  refine⟨by rw[hN];exact a1,by simpa using a2,?_⟩
  show (yoz scope X.env.scope).lookup x=some .cell
  rw[hD];exact a3
section
variable {X:Cx}
end
section
variable {K:PySem.W.Frag}{c d:Addr}{b:Bool}{v:Value}
end
theorem Fun.okE {P:Program}{w:World}{K:PySem.W.Frag}{mg:Str→Option Value}{base:Heap}{x qual:Str}{st:Stmt}{f:Addr}{fd:FuncData}{N ps:List Str}{k:Nat}{sp:Sp}(F:Fun K x qual st f fd)(S:FnScope N ps (yaa st))
 (len:∀vs H Q E,sp vs H Q E→vs.length=ps.length)
 (hbody:∀(cdv:Value) (A:Around) (outer:List Env) (s:Shared) (H:Hp) (vs:List V) (Q:VK) (E:XK),Room k (A.deeper (envOfC qual (yaa st) s.heap.objs.size f cdv))→sp vs H Q E→
  ∃t,PSs (yq3 (CXE P w) P w K mg base N qual (yaa st) f cdv A outer s H E) (yap st) t∧t { nx:=fun _ H'=>Q .non H',rt:=Q } (yi8 N vs) H):FnOk P w K mg base (CXE P w) (k+1) f fd ps sp:=by
 obtain ⟨oc,od,kV,doc,pm,an,cdv,ct,osl,rfl,lk,hcd⟩:=F.ex
 exact yw8 lk hcd S len fun A outer s H vs Q E hr hsp=>hbody cdv A outer s H vs Q E hr hsp
theorem yxh {t u:TS}{D:Ends}{σ:St}{H:Hp}(R:St→Hp→Prop)(h1:∀D':Ends,(∀σ' H',R σ' H'→D'.nx σ' H')→D'.rt=D.rt→t D' σ H)(h2:∀σ' H',R σ' H'→u D σ' H'):zaf t u D σ H:=h1 { D with nx:=u D } h2 rfl
structure Bn (mg:Str→Option Value):Prop where
 len:mg "len" = none
 list:mg "list" = none
 isi:mg "isinstance" = none
 bool:mg "bool" = none
 int:mg "int" = none
 str:mg "str" = none
 tuple:mg "tuple" = none
 all:mg "all" = none
 any:mg "any" = none
 zip:mg "zip" = none
 range:mg "range" = none
 max:mg "max" = none
 min:mg "min" = none
 enumerate:mg "enumerate" = none
 sum:mg "sum" = none
 sorted:mg "sorted" = none
 verr:mg "ValueError" = none
def KeepBut (a:Addr)(H H':Hp):Prop:=∀b o,b≠a→H b=some o→H' b=some o
theorem KeepBut.refl {a:Addr}{H:Hp}:KeepBut a H H:=fun _ _ _ h=>h
theorem KeepBut.trans {a:Addr}{H H1 H2:Hp}(x:KeepBut a H H1)(y:KeepBut a H1 H2):KeepBut a H H2:=fun b o n h=>y b o n (x b o n h)
theorem KeepBut.upd {a:Addr}{H H1:Hp}{o:HO}(x:KeepBut a H H1):KeepBut a H (L2.upd H1 a o):=fun b u n h=>by rw[yak n];exact x b u n h
theorem KeepBut.new {a p:Addr}{H H1:Hp}{o:HO}(x:KeepBut a H H1)(hp:H1 p=none):KeepBut a H (L2.upd H1 p o):=fun b u n h=>by
 have:=x b u n h
 rw[yak (yam this hp)];exact this
theorem KeepBut.young {a p:Addr}{H H1:Hp}{o:HO}(x:KeepBut a H H1)(hp:H p=none):KeepBut a H (L2.upd H1 p o):=fun b u n h=>by
 rw[yak (yam h hp)];exact x b u n h
theorem KeepBut.none {a p:Addr}{H H':Hp}(k:KeepBut a H H')(n:p≠a)(h:H' p=Option.none):H p=Option.none:=by
 cases q:H p with
 |none=>rfl
 |some o=>rw[k p o n q] at h;cases h
theorem Same.young {p:Addr}{H H1:Hp}{o:HO}(x:Same H H1)(hp:H p=none):Same H (L2.upd H1 p o):=fun b u h=>by
 rw[yak (yam h hp)];exact x b u h
def zbb (H:Hp)(a c:Addr)(ns:List Int)(i x y z:Int):Prop:=H a=some (.lst [.ref c,.int i,.int x,.int y,.int z])∧H c=some (.lst (ns.map V.int))∧c≠a∧0≤i∧0≤y∧y<1000000007
def DrawAt (H:Hp)(a c:Addr):Prop:=∃ns i x y z,zbb H a c ns i x y z
theorem DrawAt.new {H:Hp}{a c p:Addr}{o:HO}(d:DrawAt H a c)(hp:H p=none):DrawAt (L2.upd H p o) a c:=by
 obtain ⟨ns,i,x,y,z,h1,h2,r⟩:=d
 exact⟨ns,i,x,y,z,by rw[yak (yam h1 hp)];exact h1,by rw[yak (yam h2 hp)];exact h2,r⟩
theorem DrawAt.upd {H:Hp}{a c p:Addr}{o:HO}(d:DrawAt H a c)(na:p≠a)(nc:p≠c):DrawAt (L2.upd H p o) a c:=by
 obtain ⟨ns,i,x,y,z,h1,h2,r⟩:=d
 exact⟨ns,i,x,y,z,by rw[yak na.symm];exact h1,by rw[yak nc.symm];exact h2,r⟩
theorem DrawAt.same {H H':Hp}{a c:Addr}(d:DrawAt H a c)(s:Same H H'):DrawAt H' a c:=by
 obtain ⟨ns,i,x,y,z,h1,h2,r⟩:=d
 exact⟨ns,i,x,y,z,s _ _ h1,s _ _ h2,r⟩
theorem DrawAt.there {H:Hp}{a c:Addr}(d:DrawAt H a c):∃o,H a=some o:=by
 obtain ⟨ns,i,x,y,z,h1,_⟩:=d
 exact⟨_,h1⟩
theorem DrawAt.ne {H:Hp}{a c p:Addr}(d:DrawAt H a c)(hp:H p=none):p≠a:=by
 obtain ⟨o,e⟩:=d.there
 exact(yam e hp).symm
theorem DrawAt.nc {H:Hp}{a c p:Addr}(d:DrawAt H a c)(hp:H p=none):p≠c:=by
 obtain ⟨ns,i,x,y,z,_,h2,_⟩:=d
 exact(yam h2 hp).symm
theorem DrawAt.neT {H:Hp}{a c p:Addr}{xs:List V}(d:DrawAt H a c)(hp:H p=some (.tup xs)):p≠a:=by
 obtain ⟨_,_,_,_,_,h,_⟩:=d
 exact yi5 hp h (by intro z;cases z)
def ynr (K:PySem.W.Frag):Sp:=fun vs H Q _=>∃(a:Addr) (ns:List Int),vs=[.ref a]∧SqL K H a (ns.map V.int)∧ns.length≤63∧∀l c H',H l=none→H c=none→Same H H'→DrawAt H' l c→Q (.ref l) H'
def ylw:Sp:=fun vs H Q _=>∃(a c:Addr) (m:Int),vs=[.ref a,.int m]∧DrawAt H a c∧0<m∧m<18446744073709551616∧∀r H',0≤r→r<m→DrawAt H' a c→KeepBut a H H'→Q (.int r) H'
def ysa:Sp:=fun vs H Q _=>∃a c:Addr,vs=[.ref a]∧DrawAt H a c∧∀r H',0≤r→r≤400→DrawAt H' a c→KeepBut a H H'→Q (.int r) H'
theorem yus (ns:List Int)(lo hi:Option Int):∃ms:List Int,yrq (ns.map V.int) lo hi=ms.map V.int∧ms.length≤ns.length:=by
 unfold yrq
 rw[← List.map_drop,← List.map_take]
 exact⟨_,rfl,by rw[List.length_take,List.length_drop];omega⟩
theorem ydl {xs:List V}{r:Int}{v:V}(h0:0≤r)(h:xs[r.toNat]? = some v):atI xs r=some v:=by
 have:=yfb (xs:=xs) (j:=r.toNat) (v:=v) h
 rw[show ((r.toNat:Nat):Int)=r by omega] at this
 exact this
def Rows (H:Hp)(a:Addr)(rs:List (List Int)):Prop:=∃ps:List Addr,H a=some (.lst (ps.map V.ref))∧ps.length=rs.length∧∀(i:Nat) p r,ps[i]? = some p→rs[i]? = some r→H p=some (.tup (r.map V.int))
theorem Rows.same {H H':Hp}{a:Addr}{rs:List (List Int)}(h:Rows H a rs)(s:Same H H'):Rows H' a rs:=by
 obtain ⟨ps,h1,h2,h3⟩:=h
 exact⟨ps,s _ _ h1,h2,fun i p r e1 e2=>s _ _ (h3 i p r e1 e2)⟩
theorem Rows.keep {H H':Hp}{a l c:Addr}{rs:List (List Int)}(h:Rows H a rs)(n:a≠l)(d:DrawAt H l c)(k:KeepBut l H H'):Rows H' a rs:=by
 obtain ⟨ps,h1,h2,h3⟩:=h
 exact⟨ps,k _ _ n h1,h2,fun i p r e1 e2=>k _ _ (d.neT (h3 i p r e1 e2)) (h3 i p r e1 e2)⟩
theorem Rows.there {H:Hp}{a:Addr}{rs:List (List Int)}(h:Rows H a rs):∃o,H a=some o:=by
 obtain ⟨ps,h1,_⟩:=h
 exact⟨_,h1⟩
theorem Rows.get {H:Hp}{a:Addr}{rs:List (List Int)}(h:Rows H a rs):∃xs:List V,H a=some (.lst xs)∧xs.length=rs.length∧∀(i:Nat) x,xs[i]? = some x→∃p r,x = .ref p∧rs[i]? = some r∧H p=some (.tup (r.map V.int)):=by
 obtain ⟨ps,h1,h2,h3⟩:=h
 refine⟨_,h1,by rw[List.length_map,h2],fun i x e=>?_⟩
 rw[List.getElem?_map] at e
 cases q:ps[i]? with
 |none=>rw[q] at e;cases e
 |some p=>
  rw[q] at e
  have hi:=(List.getElem?_eq_some_iff.mp q).1
  have hr:rs[i]? = some (rs[i]'(by omega)):=List.getElem?_eq_getElem (by omega)
  exact⟨p,_,(Option.some.inj e).symm,hr,h3 i p _ q hr⟩
theorem Rows.push {H:Hp}{a p:Addr}{rs:List (List Int)}{xs:List V}{r:List Int}(h:Rows H a rs)(hx:H a=some (.lst xs))(hp:H p=none):Rows (L2.upd (L2.upd H p (.tup (r.map V.int))) a (.lst (xs++[.ref p]))) a (rs++[r]):=by
 obtain ⟨ps,h1,h2,h3⟩:=h
 rw[hx] at h1
 cases h1
 refine⟨ps++[p],by rw[yab,List.map_append];rfl,by rw[List.length_append,List.length_append,h2];rfl,fun i q r' e1 e2=>?_⟩
 by_cases hi:i<ps.length
 ·rw[List.getElem?_append_left hi] at e1
  rw[List.getElem?_append_left (by omega)] at e2
  have:=h3 i q r' e1 e2
  rw[yak (yi5 this hx (by intro z;cases z)),yak (yam this hp)]
  exact this
 ·have hi':i=ps.length:=by
   have:=(List.getElem?_eq_some_iff.mp e1).1
   rw[List.length_append,List.length_singleton] at this
   omega
  subst hi'
  rw[List.getElem?_append_right (Nat.le_refl _),Nat.sub_self] at e1
  rw[h2,List.getElem?_append_right (Nat.le_refl _),Nat.sub_self] at e2
  cases e1
  cases e2
  rw[yak (yam hx hp).symm,yab]
theorem Rows.nil {H:Hp}{a:Addr}(h:H a=some (.lst [])):Rows H a []:=⟨[],h,rfl,fun i p r e=>by cases e⟩
def LotIn (lo n sc:Int)(r:List Int):Prop:=∃d c u:Int,r=[d,c,u]∧lo≤d∧d<lo+n∧1≤c∧c≤sc∧1≤u∧u≤1000000
def OutIn (lo n sc:Int)(r:List Int):Prop:=∃d c:Int,r=[d,c]∧lo≤d∧d<lo+n∧1≤c∧c≤sc
def ysb:Sp:=fun vs H Q _=>∃a c:Addr,vs=[.ref a]∧DrawAt H a c∧∀p lo n H',H p=none→1≤lo→6≤n→lo+n≤1000→DrawAt H' a c→KeepBut a H H'→H' p=some (.tup [.int lo,.int n])→Q (.ref p) H'
def ysc:Sp:=fun vs H Q _=>∃(a c p:Addr) (m lo n sc:Int),vs=[.ref a,.int m,.ref p,.int sc]∧DrawAt H a c∧0≤m∧m≤900∧H p=some (.tup [.int lo,.int n])∧1≤n∧n≤999∧1≤sc∧sc≤10000000000∧
 ∀l rs H',H l=none→(∀r∈rs,LotIn lo n sc r)→(rs.length:Int)≤m→DrawAt H' a c→KeepBut a H H'→Rows H' l rs→Q (.ref l) H'
def ysd:Sp:=fun vs H Q _=>∃(a c p:Addr) (m lo n sc:Int),vs=[.ref a,.int m,.ref p,.int sc]∧DrawAt H a c∧0≤m∧m≤900∧H p=some (.tup [.int lo,.int n])∧1≤n∧n≤999∧1≤sc∧sc≤10000000000∧
 ∀l rs H',H l=none→(∀r∈rs,OutIn lo n sc r)→(rs.length:Int)≤m→DrawAt H' a c→KeepBut a H H'→Rows H' l rs→Q (.ref l) H'
def yse:Sp:=fun vs H Q _=>∃(a c:Addr) (m:Int),vs=[.ref a,.int m]∧DrawAt H a c∧0≤m∧m≤900∧
 ∀(q l o:Addr) (tm lo n sc:Int) ls os H',H l=none→H o=none→l≠o→0≤tm→tm≤400→1≤lo→6≤n→lo+n≤1000→1≤sc→sc≤10000000000→(∀r∈ls,LotIn lo n sc r)→(∀r∈os,OutIn lo n sc r)→(ls.length:Int)≤m→(os.length:Int)≤m→
  DrawAt H' a c→KeepBut a H H'→Rows H' l ls→Rows H' o os→H' q=some (.tup [.ref l,.ref o,.int tm])→Q (.ref q) H'
end L2
namespace K13
open PySem L2
def top (i:Nat):Stmt:=PySem.Challenge.pw_drawback_k13_whole_all_that_is_taken_goe.main.body.getD i (.Pass ⟨0,0,0,0⟩)
abbrev ygt:Stmt:=top 56
abbrev yxi:List Str:=["_law_script"]
abbrev yhz:List Str:=["_law_script"]
theorem yut:FnScope yxi yhz (yaa ygt):=⟨rfl,rfl,rfl,by decide +kernel,rfl,by decide +kernel,by decide +kernel⟩
abbrev yjt:Stmt:=top 57
abbrev yza:List Str:=["_law_draw","_law_many","_law_cell","_law_got"]
abbrev yju:List Str:=["_law_draw","_law_many"]
theorem sc_pick:FnScope yza yju (yaa yjt):=⟨rfl,rfl,rfl,by decide +kernel,rfl,by decide +kernel,by decide +kernel⟩
abbrev yjv:Stmt:=top 58
abbrev yzb:List Str:=["_law_draw","_law_span_here"]
abbrev ylx:List Str:=["_law_draw"]
theorem sc_span:FnScope yzb ylx (yaa yjv):=⟨rfl,rfl,rfl,by decide +kernel,rfl,by decide +kernel,by decide +kernel⟩
abbrev ydc:Stmt:=top 59
abbrev yns:List Str:=["_law_draw"]
abbrev yd9:List Str:=["_law_draw"]
theorem yly:FnScope yns yd9 (yaa ydc):=⟨rfl,rfl,rfl,by decide +kernel,rfl,by decide +kernel,by decide +kernel⟩
abbrev ydd:Stmt:=top 60
abbrev ynt:List Str:=["_law_draw","_law_most","_law_days","_law_scale","_law_dear","_law_found","_law_k","_law_day","_law_count"]
abbrev yea:List Str:=["_law_draw","_law_most","_law_days","_law_scale"]
theorem sc_some_lots:FnScope ynt yea (yaa ydd):=⟨rfl,rfl,rfl,by decide +kernel,rfl,by decide +kernel,by decide +kernel⟩
abbrev yde:Stmt:=top 61
abbrev ynu:List Str:=["_law_draw","_law_most","_law_days","_law_scale","_law_found","_law_k","_law_day"]
abbrev yeb:List Str:=["_law_draw","_law_most","_law_days","_law_scale"]
theorem sc_some_outs:FnScope ynu yeb (yaa yde):=⟨rfl,rfl,rfl,by decide +kernel,rfl,by decide +kernel,by decide +kernel⟩
abbrev yjw:Stmt:=top 62
abbrev yzc:List Str:=["_law_draw","_law_most","_law_days","_law_term","_law_scale","_law_lots"]
abbrev ylz:List Str:=["_law_draw","_law_most"]
theorem sc_case:FnScope yzc ylz (yaa yjw):=⟨rfl,rfl,rfl,by decide +kernel,rfl,by decide +kernel,by decide +kernel⟩
section
variable {P:Program}{w:World}{K:PySem.W.Frag}{mg:Str→Option Value}{base:Heap}{f:Addr}{fd:FuncData}
theorem yuu (F:Fun K "_law_begin" "_law_begin" ygt f fd) (B:Bn mg):FnOk P w K mg base CX0 1 f fd yhz (ynr K):=by
 refine F.ok yut (fun vs H Q E h=>?_) (fun cdv A outer s H vs Q E hr h=>?_)
 ·obtain ⟨a,ns,rfl,_⟩:=h;rfl
 obtain ⟨a,ns,rfl,hS,hl,q⟩:=h
 refine⟨_,(yai (yaw (yf1 (yal (yen yfc rfl B.list PyProof.Rows.boot_list (yal (ykb ynn (pv 0) ynk (ynl yaj)) yac)) (yal yaj (yal yaj (yal yaj (yal yaj yac)))))))),?_⟩
 refine⟨_,rfl,_,rfl,a,_,rfl,hS,fun p hp=>?_⟩
 obtain ⟨ms,em,hm⟩:=yus ns none (some 63)
 refine⟨p,_,rfl,.inl (SqL.of yab),fun c hc=>?_⟩
 refine⟨by show 5≤sizeLine;decide,fun l hl'=>?_⟩
 have s1:Same H (L2.upd H p (.lst (yrq (ns.map V.int) none (some 63)))):=yae hp _
 have s2:=s1.trans (yae hc (.lst (yrq (ns.map V.int) none (some 63))))
 have s3:=s2.trans (yae hl' (.lst [.ref c,.int 0,.int 0,.int 1,.int 0]))
 have ncl:c≠l:=yam (yab (H:=L2.upd H p _) (o:=.lst (yrq (ns.map V.int) none (some 63)))) hl'
 refine q l c _ (s2.free hl') (s1.free hc) s3 ⟨ms,0,0,1,0,yab,?_,ncl,by decide,by decide,by decide⟩
 rw[yak ncl,yab,em]
theorem yxj (F:Fun K "_law_pick" "_law_pick" yjt f fd) (B:Bn mg):FnOk P w K mg base CX0 1 f fd yju ylw:=by
 refine F.ok sc_pick (fun vs H Q E h=>?_) (fun cdv A outer s H vs Q E hr h=>?_)
 ·obtain ⟨a,c,m,rfl,_⟩:=h;rfl
 obtain ⟨a,c,m,rfl,⟨ns,i,x,y,z,d1,d2,nca,hi,hy,hy2⟩,hm,hm2,q⟩:=h
 refine⟨_,(yad (ydn (PW.pt (yyt (ybm yi6 (ya8 ya3 (pv 0) yaj (fun _ _=>rfl)) (pv 1) (ybs _)) (yw3 (ybm yi6 (ya8 ya3 (pv 0) yaj (fun _ _=>rfl)) (yao yau rfl B.len PySem.boot_len (yal (ya8 ya3 (pv 0) yaj (fun _ _=>rfl)) yac)) (ybs _))))) (yad (ya2 (i:=2) sc_pick.nd rfl (Or.inl rfl) (ya8 ya3 (ya8 ya3 (pv 0) yaj (fun _ _=>rfl)) (ya8 ya3 (pv 0) yaj (fun _ _=>rfl)) (fun _ _=>rfl)))
  (yad (yc4 (yb1 ydx (ya8 ya3 (pv 0) yaj (fun _ _=>rfl)) yaj) (yfz (pv 0) yaj ycp))
  (yad (yc4 yaj (yfz (pv 0) yaj ycp))
  (yai (ydn (ybm yw6 (pv 2) (yb1 yop yaj yaj) (ybs _)) (yai (yc4 (pv 2) (yfz (pv 0) yaj ycp))) (yai (yc4 (yb1 yoo (yb1 ydx (ya8 ya3 (pv 0) yaj (fun _ _=>rfl)) (pv 2)) yaj) (yfz (pv 0) yaj ycp)))))))) ybb)
  (yad (ydn (ybm yw6 (ya8 ya3 (pv 0) yaj (fun _ _=>rfl)) (pv 1) (ybs _)) (yad (ya2 (i:=3) sc_pick.nd rfl (Or.inl rfl) (yb1 yoo (ya8 ya3 (pv 0) yaj (fun _ _=>rfl)) (pv 1)))
   (yad (yc4 (yb1 yow (ya8 ya3 (pv 0) yaj (fun _ _=>rfl)) (pv 1)) (yfz (pv 0) yaj ycp))
   (yai (yaw (pv 3))))) ybb)
  (yad (yc4 (yb1 ydx (ya8 ya3 (pv 0) yaj (fun _ _=>rfl)) yaj) (yfz (pv 0) yaj ycp))
  (yad (yc4 (yb1 yoo (yb1 ydx (yb1 ydx (yb1 yop (ya8 ya3 (pv 0) yaj (fun _ _=>rfl)) yaj) (yb1 yyy yaj (ya8 ya3 (pv 0) yaj (fun _ _=>rfl)))) yaj) yaj) (yfz (pv 0) yaj ycp))
  (yai (yaw (yb1 yoo (yb1 yow (ya8 ya3 (pv 0) yaj (fun _ _=>rfl)) yaj) (pv 1)))))))),?_⟩
 refine(show ∀(u:TS),(∀(cv:Option V) (H1:Hp) (i x y z:Int),zbb H1 a c ns i x y z→KeepBut a H H1→u { nx:=fun _ H'=>Q .non H',rt:=Q } [some (.ref a),some (.int m),cv,none] H1)→zaf _ u _ _ _ from fun u hu=>?_) _ ?_
 ·-- if draw[2]<many and draw[1]<len(draw[0])
  refine⟨_,rfl,a,_,_,.int x,rfl,rfl,SqL.of d1,rfl,_,rfl,_,_,rfl,rfl,_,rfl,?_⟩
  by_cases c1:x<m
  ·rw[decide_eq_true c1]
   refine yeh ⟨_,rfl,a,_,_,.int i,rfl,rfl,SqL.of d1,rfl,_,rfl,a,_,_,.ref c,rfl,rfl,SqL.of d1,rfl,c,_,rfl,.inl (SqL.of d2),_,_,rfl,rfl,_,rfl,?_⟩
   rw[List.length_map]
   by_cases c2:i<(ns.length:Int)
   ·rw[decide_eq_true c2]
    have hk:i.toNat<ns.length:=by omega
    have ei:((i.toNat:Nat):Int)=i:=by omega
    have eat:atI (ns.map V.int) i=some (.int ns[i.toNat]):=by
     have:=yfb (xs:=ns.map V.int) (j:=i.toNat) (v:=.int ns[i.toNat]) (by rw[List.getElem?_map,List.getElem?_eq_getElem hk];rfl)
     rw[ei] at this;exact this
    refine yeh ⟨_,rfl,a,_,_,.ref c,rfl,rfl,SqL.of d1,rfl,_,rfl,a,_,_,.int i,rfl,rfl,SqL.of d1,rfl,c,_,_,.int ns[i.toNat],rfl,rfl,SqL.of d2,eat,?_⟩
    generalize ns[i.toNat]=v
    refine⟨_,rfl,a,_,_,.int i,rfl,rfl,SqL.of d1,rfl,_,_,rfl,rfl,_,rfl,a,_,_,1,rfl,rfl,d1,rfl,?_⟩
    refine⟨_,rfl,a,_,_,2,rfl,rfl,yab,rfl,?_⟩
    rw[yj7]
    have e2:L2.upd H a (.lst [.ref c,.int (i+1),.int 0,.int y,.int z]) c=some (.lst (ns.map V.int)):=by rw[yak nca];exact d2
    refine⟨_,rfl,_,_,rfl,rfl,⟨by decide,by decide,by decide⟩,_,_,rfl,rfl,_,rfl,?_⟩
    refine yym (fun _=>?_) (fun _=>?_)
    ·refine⟨_,rfl,_,rfl,a,_,_,2,rfl,rfl,yab,rfl,?_⟩
     rw[yj7]
     exact hu _ _ (i+1) v y z ⟨yab,by rw[yak nca];exact d2,nca,by omega,hy,hy2⟩ KeepBut.refl.upd
    ·refine⟨_,rfl,a,_,_,.int y,rfl,rfl,SqL.of yab,rfl,_,rfl,_,_,rfl,rfl,_,_,rfl,rfl,(by show (0:Int)<1000000007;decide),_,rfl,a,_,_,3,rfl,rfl,yab,rfl,?_⟩
     rw[yj7]
     exact hu _ _ (i+1) 0 ((y+v) % 1000000007) z ⟨yab,by rw[yak nca];exact d2,nca,by omega,by omega,by omega⟩ KeepBut.refl.upd
   ·rw[decide_eq_false c2]
    exact ycq (hu _ H i x y z ⟨d1,d2,nca,hi,hy,hy2⟩ KeepBut.refl)
  ·rw[decide_eq_false c1]
   exact ycq (ycq (hu _ H i x y z ⟨d1,d2,nca,hi,hy,hy2⟩ KeepBut.refl))
 ·-- the rest
  clear d1 d2 hi hy hy2 i x y z
  rintro cv H1 i x y z ⟨d1,d2,_,hi,hy,hy2⟩ kb
  refine⟨_,rfl,a,_,_,.int x,rfl,rfl,SqL.of d1,rfl,_,rfl,_,_,rfl,rfl,_,rfl,?_⟩
  by_cases c1:m≤x
  ·rw[decide_eq_true c1]
   refine yeh ⟨_,rfl,a,_,_,.int x,rfl,rfl,SqL.of d1,rfl,_,rfl,_,_,rfl,rfl,hm,?_⟩
   refine⟨_,rfl,a,_,_,.int x,rfl,rfl,SqL.of d1,rfl,_,rfl,_,_,rfl,rfl,⟨hm,hm2⟩,_,rfl,a,_,_,2,rfl,rfl,d1,rfl,?_⟩
   refine⟨_,rfl,?_⟩
   exact q _ _ (Int.emod_nonneg _ (by omega)) (Int.emod_lt_of_pos _ hm) ⟨ns,i,x / m,y,z,yab,by rw[yak nca];exact d2,nca,hi,hy,hy2⟩ kb.upd
  ·rw[decide_eq_false c1]
   refine ycq ?_
   refine⟨_,rfl,a,_,_,.int z,rfl,rfl,SqL.of d1,rfl,_,_,rfl,rfl,_,rfl,a,_,_,4,rfl,rfl,d1,rfl,?_⟩
   refine⟨_,rfl,a,_,_,.int y,rfl,rfl,SqL.of yab,rfl,_,_,rfl,rfl,⟨by decide,by decide,by omega⟩,_,rfl,a,_,_,.int (z+1),rfl,rfl,SqL.of yab,rfl,_,_,rfl,rfl,.inl ⟨by decide,by decide⟩,_,_,rfl,rfl,_,_,rfl,rfl,_,_,rfl,rfl,(by show (0:Int)<1000000007;decide),_,rfl,a,_,_,3,rfl,rfl,yab,rfl,?_⟩
   rw[yj7]
   have hy4:0≤(y ^ (3:Int).toNat+40503*(z+1)+17) % 1000000007∧(y ^ (3:Int).toNat+40503*(z+1)+17) % 1000000007<1000000007:=⟨Int.emod_nonneg _ (by decide),Int.emod_lt_of_pos _ (by decide)⟩
   refine⟨_,rfl,a,_,_,.int ((y ^ (3:Int).toNat+40503*(z+1)+17) % 1000000007),rfl,rfl,SqL.of yab,rfl,_,_,rfl,rfl,⟨by decide,by decide⟩,_,rfl,_,_,rfl,rfl,hm,?_⟩
   exact q _ _ (Int.emod_nonneg _ (by omega)) (Int.emod_lt_of_pos _ hm) ⟨ns,i,x,(y ^ (3:Int).toNat+40503*(z+1)+17) % 1000000007,z+1,yab,by rw[yak nca];exact d2,nca,hi,hy4.1,hy4.2⟩ kb.upd
variable (B:Bn mg) (G_pick:Cal P w K mg base CX0 1 "_law_pick" yju ylw)
include B G_pick
theorem yl0 (F:Fun K "_law_some_term" "_law_some_term" ydc f fd):FnOk P w K mg base CX0 2 f fd yd9 ysa:=by
 refine F.ok yly (fun vs H Q E h=>?_) (fun cdv A outer s H vs Q E hr h=>?_)
 ·obtain ⟨a,c,rfl,_⟩:=h;rfl
 obtain ⟨a,c,rfl,d,q⟩:=h
 refine⟨_,(yai (yaw (ya8 yca (yb0 (yal yaj (yal yaj (yal yaj (yal (yan G_pick hr rfl ya9 (yal (pv 0) (yal yaj yac))) (yal (yan G_pick hr rfl ya9 (yal (pv 0) (yal yaj yac))) (yal yaj yac))))))) (yan G_pick hr rfl ya9 (yal (pv 0) (yal yaj yac))) (fun _ _=>rfl)))),?_⟩
 refine⟨_,rfl,a,c,12,rfl,d,by decide,by decide,fun r1 H1 a1 c1 d1 kb1=>?_⟩
 refine⟨_,rfl,a,c,60,rfl,d1,by decide,by decide,fun r2 H2 a2 c2 d2 kb2=>?_⟩
 refine⟨by show 6≤sizeLine;decide,fun p hp=>?_⟩
 refine⟨_,rfl,a,c,6,rfl,d2.new hp,by decide,by decide,fun r3 H3 a3 c3 d3 kb3=>?_⟩
 have ht:=kb3 p _ (d2.ne hp) yab
 have hv:∃v,atI [V.int 0,.int 1,.int 3,.int r1,.int r2,.int 400] r3=some (.int v)∧0≤v∧v≤400:=by
  have:r3=0∨r3=1∨r3=2∨r3=3∨r3=4∨r3=5:=by omega
  rcases this with rfl|rfl|rfl|rfl|rfl|rfl
  ·exact⟨0,rfl,by omega,by omega⟩
  ·exact⟨1,rfl,by omega,by omega⟩
  ·exact⟨3,rfl,by omega,by omega⟩
  ·exact⟨r1,rfl,by omega,by omega⟩
  ·exact⟨r2,rfl,by omega,by omega⟩
  ·exact⟨400,rfl,by omega,by omega⟩
 obtain ⟨v,ev,v0,v1⟩:=hv
 exact⟨p,_,_,.int v,rfl,rfl,SqT.of ht,ev,q v H3 v0 v1 d3 ((kb1.trans (kb2.new hp)).trans kb3)⟩
theorem yxk (F:Fun K "_law_span" "_law_span" yjv f fd):FnOk P w K mg base CX0 2 f fd ylx ysb:=by
 refine F.ok sc_span (fun vs H Q E h=>?_) (fun cdv A outer s H vs Q E hr h=>?_)
 ·obtain ⟨a,c,rfl,_⟩:=h;rfl
 obtain ⟨a,c,rfl,d,q⟩:=h
 refine⟨_,(yad (ya2 (i:=1) sc_span.nd rfl (Or.inl rfl) (ya8 yca (yb0 (yal yaj (yal yaj (yal yaj (yal yaj yac))))) (yan G_pick hr rfl ya9 (yal (pv 0) (yal yaj yac))) (fun _ _=>rfl)))
  (yai (yaw (yb0 (yal (yb1 ydx yaj (yan G_pick hr rfl ya9 (yal (pv 0) (yal (yb1 yjm yaj (pv 1)) yac)))) (yal (pv 1) yac)))))),?_⟩
 refine⟨by show 4≤sizeLine;decide,fun p0 hp0=>?_⟩
 refine⟨_,rfl,a,c,4,rfl,d.new hp0,by decide,by decide,fun r1 H1 a1 c1 d1 kb1=>?_⟩
 have ht:=kb1 p0 _ (d.ne hp0) yab
 have hv:∃v,atI [V.int 6,.int 20,.int 60,.int 999] r1=some (.int v)∧6≤v∧v≤999:=by
  have:r1=0∨r1=1∨r1=2∨r1=3:=by omega
  rcases this with rfl|rfl|rfl|rfl
  ·exact⟨6,rfl,by omega,by omega⟩
  ·exact⟨20,rfl,by omega,by omega⟩
  ·exact⟨60,rfl,by omega,by omega⟩
  ·exact⟨999,rfl,by omega,by omega⟩
 obtain ⟨v,ev,v0,v1⟩:=hv
 refine⟨p0,_,_,.int v,rfl,rfl,SqT.of ht,ev,?_⟩
 refine⟨_,rfl,_,rfl,_,_,rfl,rfl,a,c,1000-v,rfl,d1,by omega,by omega,fun r2 H2 a2 c2 d2 kb2=>?_⟩
 refine⟨_,_,rfl,rfl,_,rfl,by show 2≤sizeLine;decide,fun p hp=>?_⟩
 have k:KeepBut a H H2:=((KeepBut.refl.new hp0).trans kb1).trans kb2
 exact q p (1+r2) v _ (k.none (d2.ne hp) hp) (by omega) (by omega) (by omega) (d2.new hp) (k.new hp) yab
theorem yl1 (F:Fun K "_law_some_lots" "_law_some_lots" ydd f fd):FnOk P w K mg base CX0 2 f fd yea ysc:=by
 refine F.ok sc_some_lots (fun vs H Q E h=>?_) (fun cdv A outer s H vs Q E hr h=>?_)
 ·obtain ⟨a,c,p,m,lo,n,sc,rfl,_⟩:=h;rfl
 obtain ⟨a,c,p,m,lo,n,sc,rfl,d,m0,m1,hp,n0,n1,s0,s1,q⟩:=h
 refine⟨_,(yad (ya2 (i:=4) sc_some_lots.nd rfl (Or.inl rfl) (ya8 yca (yb0 (yal yaj (yal yaj (yal yaj (yal (yb1 yop yaj yaj) yac))))) (yan G_pick hr rfl ya9 (yal (pv 0) (yal yaj yac))) (fun _ _=>rfl)))
  (yad (ya2 (i:=5) sc_some_lots.nd rfl (Or.inl rfl) (yf1 yac))
  (yad (yei PassesOwn.never rfl (yhu rfl B.range (yal (yan G_pick hr rfl ya9 (yal (pv 0) (yal (yb1 ydx (pv 1) yaj) yac))) yac)) (yah (i:=6) sc_some_lots.nd rfl (Or.inl rfl)) (yad (ya2 (i:=7) sc_some_lots.nd rfl (Or.inl rfl) (yb1 ydx (ya8 yca (pv 2) yaj (fun _ _=>rfl)) (yan G_pick hr rfl ya9 (yal (pv 0) (yal (ya8 yca (pv 2) yaj (fun _ _=>rfl)) yac)))))
   (yad (ya2 (i:=8) sc_some_lots.nd rfl (Or.inl rfl) (yb1 ydx yaj (yan G_pick hr rfl ya9 (yal (pv 0) (yal (pv 3) yac)))))
   (yai (yb9 (yno PySem.F.plainAttrs_list PySem.F.slot_list_append PySem.F.type_list_append yd8 (pv 5) (yal (yb0 (yal (pv 7) (yal (pv 8) (yal (yb1 ydx yaj (yan G_pick hr rfl ya9 (yal (pv 0) (yal (pv 4) yac)))) yac)))) yac)))))))
  (yai (yaw (pv 5)))))),?_⟩
 refine⟨_,_,rfl,rfl,⟨by decide,by decide,by decide⟩,by show 4≤sizeLine;decide,fun p0 hp0=>?_⟩
 refine⟨_,rfl,a,c,4,rfl,d.new hp0,by decide,by decide,fun r1 H1 a1 c1 d1 kb1=>?_⟩
 have ht:=kb1 p0 _ (d.ne hp0) yab
 have hv:∃v,atI [V.int 2,.int 5,.int 40,.int (10 ^ (6:Int).toNat)] r1=some (.int v)∧1≤v∧v≤1000000:=by
  have:r1=0∨r1=1∨r1=2∨r1=3:=by omega
  rcases this with rfl|rfl|rfl|rfl
  ·exact⟨2,rfl,by omega,by omega⟩
  ·exact⟨5,rfl,by omega,by omega⟩
  ·exact⟨40,rfl,by omega,by omega⟩
  ·exact⟨1000000,rfl,by omega,by omega⟩
 obtain ⟨dear,ev,v0,v1⟩:=hv
 refine⟨p0,_,_,.int dear,rfl,rfl,SqT.of ht,ev,?_⟩
 refine⟨by show 0≤sizeLine;decide,fun l hl=>?_⟩
 have k1:KeepBut a H H1:=(KeepBut.refl.new hp0).trans kb1
 have fl:H l=none:=k1.none (d1.ne hl) hl
 have dl:=d1.new (o:=.lst []) hl
 have pa:p≠a:=d.neT hp
 refine⟨_,rfl,_,rfl,_,_,rfl,rfl,a,c,m+1,rfl,dl,by omega,by omega,fun r2 H2 a2 c2 d2 kb2=>?_⟩
 have k2:KeepBut a H H2:=(k1.new hl).trans kb2
 have hl2:=kb2 l _ (d1.ne hl) yab
 refine⟨r2,rfl,by omega,by omega,yhv (n:=r2.toNat) (fun i σ H3=>∃o6 o7 o8 rs,σ=[some (.ref a),some (.int m),some (.ref p),some (.int sc),some (.int dear),some (.ref l),o6,o7,o8]∧DrawAt H3 a c∧KeepBut a H H3∧Rows H3 l rs∧rs.length=i∧∀r∈rs,LotIn lo n sc r) ⟨_,_,_,[],rfl,d2,k2,Rows.nil hl2,rfl,fun r hr=>by cases hr⟩ ?_ ?_⟩
 ·rintro i σ H3 hi ⟨o6,o7,o8,rs,rfl,d3,k3,hR,hlen,hall⟩
  refine⟨_,rfl,p,_,_,.int lo,rfl,rfl,SqT.of (k3 p _ pa hp),rfl,?_⟩
  refine⟨_,rfl,_,rfl,p,_,_,.int n,rfl,rfl,SqT.of (k3 p _ pa hp),rfl,a,c,n,rfl,d3,by omega,by omega,fun x1 H4 a4 c4 d4 kb4=>⟨_,_,rfl,rfl,?_⟩⟩
  refine⟨_,rfl,_,rfl,a,c,sc,rfl,d4,by omega,by omega,fun x2 H5 a5 c5 d5 kb5=>⟨_,_,rfl,rfl,?_⟩⟩
  have nla:l≠a:=d1.ne hl
  have R5:=(hR.keep nla d3 kb4).keep nla d4 kb5
  refine⟨_,rfl,.inl ⟨rfl,?_⟩,?_⟩
  ·obtain ⟨xs,e,_⟩:=R5.get
   exact⟨_,SqL.of e⟩
  refine⟨_,rfl,_,rfl,_,rfl,_,rfl,a,c,dear,rfl,d5,by omega,by omega,fun x3 H6 a6 c6 d6 kb6=>⟨_,_,rfl,rfl,by show 3≤sizeLine;decide,fun t ht=>?_⟩⟩
  have R6:=R5.keep nla d5 kb6
  obtain ⟨xs,ex,exl,_⟩:=R6.get
  refine⟨l,xs,.ref t,rfl,rfl,by rw[yak (yam ex ht)];exact ex,yas (by omega),?_⟩
  have k6:KeepBut a H H6:=((k3.trans kb4).trans kb5).trans kb6
  have dn:=(d6.new (o:=.tup [.int (lo+x1),.int (1+x2),.int (1+x3)]) ht).upd (o:=.lst (xs++[.ref t])) nla (d1.nc hl)
  refine⟨_,_,_,rs++[[lo+x1,1+x2,1+x3]],rfl,dn,(k6.new ht).young fl,R6.push (r:=[lo+x1,1+x2,1+x3]) ex ht,by rw[List.length_append,hlen];rfl,fun r hr=>?_⟩
  rcases List.mem_append.mp hr with z|z
  ·exact hall r z
  ·rw[List.mem_singleton.mp z]
   exact⟨_,_,_,rfl,by omega,by omega,by omega,by omega,by omega,by omega⟩
 ·rintro σ H3 ⟨o6,o7,o8,rs,rfl,d3,k3,hR,hlen,hall⟩
  exact⟨_,rfl,q l rs H3 fl hall (by omega) d3 k3 hR⟩
theorem yl2 (F:Fun K "_law_some_outs" "_law_some_outs" yde f fd):FnOk P w K mg base CX0 2 f fd yeb ysd:=by
 refine F.ok sc_some_outs (fun vs H Q E h=>?_) (fun cdv A outer s H vs Q E hr h=>?_)
 ·obtain ⟨a,c,p,m,lo,n,sc,rfl,_⟩:=h;rfl
 obtain ⟨a,c,p,m,lo,n,sc,rfl,d,m0,m1,hp,n0,n1,s0,s1,q⟩:=h
 refine⟨_,(yad (ya2 (i:=4) sc_some_outs.nd rfl (Or.inl rfl) (yf1 yac))
  (yad (yei PassesOwn.never rfl (yhu rfl B.range (yal (yan G_pick hr rfl ya9 (yal (pv 0) (yal (yb1 ydx (pv 1) yaj) yac))) yac)) (yah (i:=5) sc_some_outs.nd rfl (Or.inl rfl)) (yad (ya2 (i:=6) sc_some_outs.nd rfl (Or.inl rfl) (yb1 ydx (ya8 yca (pv 2) yaj (fun _ _=>rfl)) (yan G_pick hr rfl ya9 (yal (pv 0) (yal (ya8 yca (pv 2) yaj (fun _ _=>rfl)) yac)))))
   (yai (yb9 (yno PySem.F.plainAttrs_list PySem.F.slot_list_append PySem.F.type_list_append yd8 (pv 4) (yal (yb0 (yal (pv 6) (yal (yb1 ydx yaj (yan G_pick hr rfl ya9 (yal (pv 0) (yal (pv 3) yac)))) yac))) yac))))))
  (yai (yaw (pv 4))))),?_⟩
 refine⟨by show 0≤sizeLine;decide,fun l hl=>?_⟩
 have nla:l≠a:=d.ne hl
 have pa:p≠a:=d.neT hp
 refine⟨_,rfl,_,rfl,_,_,rfl,rfl,a,c,m+1,rfl,d.new hl,by omega,by omega,fun r2 H2 a2 c2 d2 kb2=>?_⟩
 have k2:KeepBut a H H2:=(KeepBut.refl.new hl).trans kb2
 have hl2:=kb2 l _ nla yab
 refine⟨r2,rfl,by omega,by omega,yhv (n:=r2.toNat) (fun i σ H3=>∃o6 o7 rs,σ=[some (.ref a),some (.int m),some (.ref p),some (.int sc),some (.ref l),o6,o7]∧DrawAt H3 a c∧KeepBut a H H3∧Rows H3 l rs∧rs.length=i∧∀r∈rs,OutIn lo n sc r) ⟨_,_,[],rfl,d2,k2,Rows.nil hl2,rfl,fun r hr=>by cases hr⟩ ?_ ?_⟩
 ·rintro i σ H3 hi ⟨o6,o7,rs,rfl,d3,k3,hR,hlen,hall⟩
  refine⟨_,rfl,p,_,_,.int lo,rfl,rfl,SqT.of (k3 p _ pa hp),rfl,?_⟩
  refine⟨_,rfl,_,rfl,p,_,_,.int n,rfl,rfl,SqT.of (k3 p _ pa hp),rfl,a,c,n,rfl,d3,by omega,by omega,fun x1 H4 a4 c4 d4 kb4=>⟨_,_,rfl,rfl,?_⟩⟩
  have R5:=hR.keep nla d3 kb4
  refine⟨_,rfl,.inl ⟨rfl,?_⟩,?_⟩
  ·obtain ⟨xs,e,_⟩:=R5.get
   exact⟨_,SqL.of e⟩
  refine⟨_,rfl,_,rfl,_,rfl,a,c,sc,rfl,d4,by omega,by omega,fun x3 H6 a6 c6 d6 kb6=>⟨_,_,rfl,rfl,by show 2≤sizeLine;decide,fun t ht=>?_⟩⟩
  have R6:=R5.keep nla d4 kb6
  obtain ⟨xs,ex,exl,_⟩:=R6.get
  refine⟨l,xs,.ref t,rfl,rfl,by rw[yak (yam ex ht)];exact ex,yas (by omega),?_⟩
  have k6:KeepBut a H H6:=(k3.trans kb4).trans kb6
  have dn:=(d6.new (o:=.tup [.int (lo+x1),.int (1+x3)]) ht).upd (o:=.lst (xs++[.ref t])) nla (d.nc hl)
  refine⟨_,_,rs++[[lo+x1,1+x3]],rfl,dn,(k6.new ht).young hl,R6.push (r:=[lo+x1,1+x3]) ex ht,by rw[List.length_append,hlen];rfl,fun r hr=>?_⟩
  rcases List.mem_append.mp hr with z|z
  ·exact hall r z
  ·rw[List.mem_singleton.mp z]
   exact⟨_,_,rfl,by omega,by omega,by omega,by omega⟩
 ·rintro σ H3 ⟨o6,o7,rs,rfl,d3,k3,hR,hlen,hall⟩
  exact⟨_,rfl,q l rs H3 hl hall (by omega) d3 k3 hR⟩
theorem yxl (G_span:Cal P w K mg base CX0 2 "_law_span" ylx ysb) (G_some_term:Cal P w K mg base CX0 2 "_law_some_term" yd9 ysa) (G_some_lots:Cal P w K mg base CX0 2 "_law_some_lots" yea ysc) (G_some_outs:Cal P w K mg base CX0 2 "_law_some_outs" yeb ysd)
 (F:Fun K "_law_case" "_law_case" yjw f fd):FnOk P w K mg base CX0 3 f fd ylz yse:=by
 refine F.ok sc_case (fun vs H Q E h=>?_) (fun cdv A outer s H vs Q E hr h=>?_)
 ·obtain ⟨a,c,m,rfl,_⟩:=h;rfl
 obtain ⟨a,c,m,rfl,d,m0,m1,q⟩:=h
 refine⟨_,(yad (ya2 (i:=2) sc_case.nd rfl (Or.inl rfl) (yan G_span hr rfl ya9 (yal (pv 0) yac)))
  (yad (ya2 (i:=3) sc_case.nd rfl (Or.inl rfl) (yan G_some_term hr rfl ya9 (yal (pv 0) yac)))
  (yad (ya2 (i:=4) sc_case.nd rfl (Or.inl rfl) (ya8 yca (yb0 (yal yaj (yal yaj (yal yaj (yal (yb1 yop yaj yaj) yac))))) (yan G_pick hr rfl ya9 (yal (pv 0) (yal yaj yac))) (fun _ _=>rfl)))
  (yad (ya2 (i:=5) sc_case.nd rfl (Or.inl rfl) (yan G_some_lots hr rfl ya9 (yal (pv 0) (yal (pv 1) (yal (pv 2) (yal (pv 4) yac))))))
  (yai (yaw (yb0 (yal (pv 5) (yal (yan G_some_outs hr rfl ya9 (yal (pv 0) (yal (pv 1) (yal (pv 2) (yal (pv 4) yac))))) (yal (pv 3) yac)))))))))),?_⟩
 refine⟨_,rfl,a,c,rfl,d,fun p lo n H1 hp lo1 n6 h1000 d1 kb1 e1=>?_⟩
 have pa:p≠a:=d.ne hp
 refine⟨_,rfl,a,c,rfl,d1,fun tm H2 t0 t4 d2 kb2=>?_⟩
 refine⟨_,_,rfl,rfl,⟨by decide,by decide,by decide⟩,by show 4≤sizeLine;decide,fun p0 hp0=>?_⟩
 refine⟨_,rfl,a,c,4,rfl,d2.new hp0,by decide,by decide,fun r3 H3 a3 c3 d3 kb3=>?_⟩
 have ht:=kb3 p0 _ (d2.ne hp0) yab
 have hv:∃v,atI [V.int 3,.int 12,.int 1000,.int (10 ^ (10:Int).toNat)] r3=some (.int v)∧1≤v∧v≤10000000000:=by
  have:r3=0∨r3=1∨r3=2∨r3=3:=by omega
  rcases this with rfl|rfl|rfl|rfl
  ·exact⟨3,rfl,by omega,by omega⟩
  ·exact⟨12,rfl,by omega,by omega⟩
  ·exact⟨1000,rfl,by omega,by omega⟩
  ·exact⟨10000000000,rfl,by omega,by omega⟩
 obtain ⟨sc,ev,v0,v1⟩:=hv
 refine⟨p0,_,_,.int sc,rfl,rfl,SqT.of ht,ev,?_⟩
 have k3:KeepBut a H1 H3:=(kb2.new hp0).trans kb3
 have e3:=k3 p _ pa e1
 refine⟨_,rfl,_,rfl,_,rfl,_,rfl,a,c,p,m,lo,n,sc,rfl,d3,m0,m1,e3,by omega,by omega,v0,v1,fun l ls H4 hl hls lsn d4 kb4 R4=>?_⟩
 refine⟨_,rfl,_,rfl,_,rfl,_,rfl,_,rfl,a,c,p,m,lo,n,sc,rfl,d4,m0,m1,kb4 p _ pa e3,by omega,by omega,v0,v1,fun o os H5 ho hos osn d5 kb5 R5=>?_⟩
 refine⟨_,rfl,by show 3≤sizeLine;decide,fun t ht'=>?_⟩
 have k13:KeepBut a H H3:=kb1.trans k3
 have nla:l≠a:=d3.ne hl
 have noa:o≠a:=d4.ne ho
 have nlo:l≠o:=by obtain ⟨z,e⟩:=R4.there;exact yam e ho
 refine q t l o tm lo n sc ls os _ (k13.none nla hl) ((k13.trans kb4).none noa ho) nlo t0 t4 lo1 n6 h1000 v0 v1 hls hos lsn osn (d5.new ht') (((k13.trans kb4).trans kb5).new ht') ((R4.keep nla d4 kb5).same (yae ht' _)) (R5.same (yae ht' _)) yab
end
end K13
namespace L2
open PySem PySem.W PyProof.Rows
def okW {α:Type}(n:Nat)(lt:Nat→Nat→Bool)(Q:α→Prop):KasT α→Prop
 |.ret a=>Q a
 |.ask i j k=>i<n∧j<n∧okW n lt Q (k (lt i j))
theorem ycr {α:Type}{n:Nat}{lt:Nat→Nat→Bool}{Q Q':α→Prop}(h:∀a,Q a→Q' a):∀{t:KasT α},okW n lt Q t→okW n lt Q' t
 |.ret a,q=>h a q
 |.ask _ _ _,⟨a,b,q⟩=>⟨a,b,ycr h q⟩
theorem yfp {α β:Type}{n:Nat}{lt:Nat→Nat→Bool}{Q:β→Prop}{f:α→KasT β}:∀{t:KasT α},okW n lt (fun a=>okW n lt Q (f a)) t→okW n lt Q (t.bind f)
 |.ret a,q=>q
 |.ask _ _ _,⟨a,b,q⟩=>⟨a,b,yfp q⟩
theorem ysf {α:Type}{n:Nat}{lt:Nat→Nat→Bool}{cmp:Nat→Nat→(Bool→Shared→Prop)→Shared→Prop}{s:Shared}(hc:∀i j C,i<n→j<n→C (lt i j) s→cmp i j C s){Q:α→Shared→Prop}:∀{t:KasT α},okW n lt (fun a=>Q a s) t→t.kasWp cmp Q s
 |.ret _,q=>q
 |.ask i j _,⟨a,b,q⟩=>hc i j _ a b (ysf hc q)
structure Ordr (lt:Nat→Nat→Bool):Prop where
 irr:∀i,lt i i=false
 tr:∀i j k,lt j i=false→lt k j=false→lt k i=false
 asy:∀i j,lt i j=true→lt j i=false
section
variable {n:Nat}{lt:Nat→Nat→Bool}
abbrev gA (p:Array Nat)(i:Nat):Nat:=p.getD i 0
abbrev leA (lt:Nat→Nat→Bool)(i j:Nat):Prop:=lt j i=false
def PermN (n:Nat)(p:Array Nat):Prop:=p.toList.Perm (List.range n)
def Up (lt:Nat→Nat→Bool)(p:Array Nat)(m:Nat):Prop:=∀i j,i≤j→j<m→leA lt (gA p i) (gA p j)
def yuv (lt:Nat→Nat→Bool)(p:Array Nat)(m:Nat):Prop:=∀i j,i≤j→j<m→leA lt (gA p j) (gA p i)
theorem yl3 (p:Array Nat)(i:Nat):gA p i=(p[i]?).getD 0:=by simp [gA]
theorem PermN.size {p:Array Nat}(h:PermN n p):p.size=n:=by
 have:=List.Perm.length_eq h
 simpa using this
theorem PermN.below {p:Array Nat}(h:PermN n p)(h0:0<n)(i:Nat):gA p i<n:=by
 rw[yl3]
 cases e:p[i]? with
 |none=>exact h0
 |some v=>
  have hm:v∈p.toList:=by
   obtain ⟨hi,rfl⟩:=Array.getElem?_eq_some_iff.mp e
   simp
  exact List.mem_range.mp ((List.Perm.mem_iff h).mp hm)
theorem PermN.rev {p:Array Nat}(h:PermN n p)(i j:Nat):PermN n (kas_rev p i j):=((mirror_perm p i j _).toList).trans h
theorem PermN.bub {p:Array Nat}(h:PermN n p)(k d:Nat):PermN n (bubble p k d):=((bubble_perm p k d).toList).trans h
theorem yh0 {p:Array Nat}{i j:Nat}(hj:j≤p.size)(k:Nat):gA (kas_rev p i j) k=if i≤k∧k<j then gA p (i+j-1-k) else gA p k:=by
 rw[yl3,yl3,yl3]
 unfold kas_rev
 rw[getElem?_mirror_all hj]
 split <;> rfl
theorem yzd {p:Array Nat}{src d:Nat}(hs:src<p.size)(hd:d≤src)(k:Nat):gA (bubble p src d) k=if k=src-d then gA p src else if src-d<k∧k≤src then gA p (k-1) else gA p k:=by
 rw[yl3,yl3,yl3,yl3,getElem?_bubble hs d hd]
 split
 ·rfl
 ·split <;> rfl
variable (O:Ordr lt)
include O
theorem yxm {p:Array Nat}{m:Nat}(h:Up lt p m)(h1:1≤m)(c:leA lt (gA p (m-1)) (gA p m)):Up lt p (m+1):=by
 intro i j hij hj
 by_cases e:j<m
 ·exact h i j hij e
 ·have:j=m:=by omega
  subst this
  by_cases e2:i=j
  ·subst e2;exact O.irr _
  ·exact O.tr _ _ _ (h i (j-1) (by omega) (by omega)) c
theorem yfd {p:Array Nat}{m:Nat}(h:yuv lt p m)(h1:1≤m)(c:leA lt (gA p m) (gA p (m-1))):yuv lt p (m+1):=by
 intro i j hij hj
 by_cases e:j<m
 ·exact h i j hij e
 ·have:j=m:=by omega
  subst this
  by_cases e2:i=j
  ·subst e2;exact O.irr _
  ·exact O.tr _ _ _ c (h i (j-1) (by omega) (by omega))
theorem ysg {p:Array Nat}(hp:PermN n p)(h0:0<n):∀(f m:Nat),1≤m→m+f≤n→Up lt p m→
 okW n lt (fun r=>m≤r∧r≤m+f∧Up lt p r∧(r=m+f∨lt (gA p r) (gA p (r-1))=true)) (kas_asc p f m)
 |0,m,h1,hf,hu=>⟨Nat.le_refl _,Nat.le_refl _,hu,.inl rfl⟩
 |f+1,m,h1,hf,hu=>by
  refine⟨hp.below h0 m,hp.below h0 (m-1),?_⟩
  by_cases c:lt (gA p m) (gA p (m-1))=true
  ·show okW n lt _ (if lt (gA p m) (gA p (m-1))=true then KasT.ret m else kas_asc p f (m+1))
   rw[if_pos c]
   exact⟨Nat.le_refl _,by omega,hu,.inr c⟩
  ·show okW n lt _ (if lt (gA p m) (gA p (m-1))=true then KasT.ret m else kas_asc p f (m+1))
   rw[if_neg c]
   have c':lt (gA p m) (gA p (m-1))=false:=by simpa using c
   refine ycr (fun r ⟨a,b,u,d⟩=>⟨by omega,by omega,u,?_⟩) (ysg hp h0 f (m+1) (by omega) (by omega) (yxm O hu h1 c'))
   rcases d with d|d
   ·exact .inl (by omega)
   ·exact .inr d
def ysh (lt:Nat→Nat→Bool)(p:Array Nat)(m q:Nat):Prop:=∀i,m-(q+1)≤i→i<m→leA lt (gA p i) (gA p (m-1))∧leA lt (gA p (m-1)) (gA p i)
theorem ygf {p:Array Nat}{m q:Nat}(hs:m≤p.size)(hq:q+1≤m)(h:ysh lt p m q)(k:Nat):leA lt (gA (kas_rev p (m-(q+1)) m) k) (gA p k)∧leA lt (gA p k) (gA (kas_rev p (m-(q+1)) m) k):=by
 rw[yh0 hs]
 by_cases c:m-(q+1)≤k∧k<m
 ·rw[if_pos c]
  have a:=h (m-(q+1)+m-1-k) (by omega) (by omega)
  have b:=h k c.1 c.2
  exact⟨O.tr _ _ _ a.1 b.2,O.tr _ _ _ b.1 a.2⟩
 ·rw[if_neg c]
  exact⟨O.irr _,O.irr _⟩
theorem yo0 {p:Array Nat}{m q:Nat}(hs:m≤p.size)(hq:q+1≤m)(h:ysh lt p m q)(d:yuv lt p m):yuv lt (kas_rev p (m-(q+1)) m) m:=fun i j hij hj=>
 O.tr _ _ _ (ygf O hs hq h j).1 (O.tr _ _ _ (d i j hij hj) (ygf O hs hq h i).2)
theorem yke (h0:0<n):∀(f:Nat) (p:Array Nat) (m q:Nat),PermN n p→1≤m→m+f≤n→q+1≤m→yuv lt p m→ysh lt p m q→
 okW n lt (fun r=>PermN n r.1∧1≤r.2.1∧r.2.1≤n∧m≤r.2.1∧r.2.1≤m+f∧r.2.2+1≤r.2.1∧yuv lt r.1 r.2.1∧ysh lt r.1 r.2.1 r.2.2) (kas_desc f p m q)
 |0,p,m,q,hp,h1,hf,hq,d,al=>⟨hp,h1,by show m≤n;omega,Nat.le_refl _,Nat.le_refl _,hq,d,al⟩
 |f+1,p,m,q,hp,h1,hf,hq,d,al=>by
  have hs:m≤p.size:=by rw[hp.size];omega
  have one:∀p':Array Nat,ysh lt p' (m+1) 0:=fun p' i a b=>by
   have:i=m:=by omega
   subst this
   exact⟨O.irr _,O.irr _⟩
  refine⟨hp.below h0 m,hp.below h0 (m-1),?_⟩
  show okW n lt _ (if lt (gA p m) (gA p (m-1))=true then (if q > 0 then kas_desc f (kas_rev p (m-(q+1)) m) (m+1) 0 else kas_desc f p (m+1) 0) else KasT.ask (p.getD (m-1) 0) (p.getD m 0) fun d=>if d=true then KasT.ret (p,m,q) else kas_desc f p (m+1) (q+1))
  by_cases c:lt (gA p m) (gA p (m-1))=true
  ·rw[if_pos c]
   by_cases cq:q > 0
   ·rw[if_pos cq]
    have d1:=yo0 O hs hq al d
    have e:leA lt (gA (kas_rev p (m-(q+1)) m) m) (gA (kas_rev p (m-(q+1)) m) (m-1)):=by
     have a1:=(ygf O hs hq al m).1
     have a2:=(ygf O hs hq al (m-1)).2
     exact O.tr _ _ _ a1 (O.tr _ _ _ (O.asy _ _ c) a2)
    refine ycr (fun r ⟨a,b,c,x,y,z⟩=>⟨a,b,c,by omega,by omega,z⟩) (yke h0 f _ (m+1) 0 (hp.rev _ _) (by omega) (by omega) (by omega) (yfd O d1 h1 e) (one _))
   ·rw[if_neg cq]
    refine ycr (fun r ⟨a,b,c,x,y,z⟩=>⟨a,b,c,by omega,by omega,z⟩) (yke h0 f p (m+1) 0 hp (by omega) (by omega) (by omega) (yfd O d h1 (O.asy _ _ c)) (one _))
  ·rw[if_neg c]
   have c':lt (gA p m) (gA p (m-1))=false:=by simpa using c
   refine⟨hp.below h0 (m-1),hp.below h0 m,?_⟩
   by_cases c2:lt (gA p (m-1)) (gA p m)=true
   ·show okW n lt _ (if lt (gA p (m-1)) (gA p m)=true then KasT.ret (p,m,q) else kas_desc f p (m+1) (q+1))
    rw[if_pos c2]
    exact⟨hp,h1,by show m≤n;omega,Nat.le_refl _,by show m≤m+(f+1);omega,hq,d,al⟩
   ·show okW n lt _ (if lt (gA p (m-1)) (gA p m)=true then KasT.ret (p,m,q) else kas_desc f p (m+1) (q+1))
    rw[if_neg c2]
    have c2':lt (gA p (m-1)) (gA p m)=false:=by simpa using c2
    refine ycr (fun r ⟨a,b,c,x,y,z⟩=>⟨a,b,c,by omega,by omega,z⟩) (yke h0 f p (m+1) (q+1) hp (by omega) (by omega) (by omega) (yfd O d h1 c2') ?_)
    intro i a b
    by_cases e:i=m
    ·subst e;exact⟨O.irr _,O.irr _⟩
    ·have:=al i (by omega) (by omega)
     exact⟨O.tr _ _ _ this.1 c',O.tr _ _ _ c2' this.2⟩
theorem yze {p:Array Nat}{m:Nat}(hs:m≤p.size)(d:yuv lt p m):Up lt (kas_rev p 0 m) m:=by
 intro i j hij hj
 rw[yh0 hs,yh0 hs,if_pos ⟨Nat.zero_le _,by omega⟩,if_pos ⟨Nat.zero_le _,hj⟩]
 exact d _ _ (by omega) (by omega)
abbrev yxn (n:Nat)(lt:Nat→Nat→Bool)(N:Nat)(r:Nat×Array Nat):Prop:=PermN n r.2∧1≤r.1∧r.1≤N∧Up lt r.2 r.1
theorem yo1 (h0:0<n){p:Array Nat}{m:Nat}(hp:PermN n p)(h1:1≤m)(hm:m≤n)(d:yuv lt p m):okW n lt (yxn n lt n) (kas_tail3 m n p):=by
 unfold kas_tail3
 have hs:m≤p.size:=by rw[hp.size];omega
 refine yfp (ycr (fun r ⟨a,b,u,_⟩=>?_) (ysg O (hp.rev 0 m) h0 (n-m) m h1 (by omega) (yze O hs d)))
 exact⟨hp.rev 0 m,by show 1≤r;omega,by show r≤n;omega,u⟩
theorem yh1 (h0:0<n){p:Array Nat}{m:Nat}(hp:PermN n p)(hm:m+1≤n)(d:yuv lt p (m+1)):okW n lt (yxn n lt n) (kas_descPart m n p):=by
 unfold kas_descPart
 refine yfp (ycr (fun r ⟨a,b,c,x,y,z,dd,al⟩=>?_) (yke O h0 (n-(m+1)) p (m+1) 0 hp (by omega) (by omega) (by omega) d ?_))
 ·intro i a b
  have:i=m:=by omega
  subst this
  exact⟨O.irr _,O.irr _⟩
 ·by_cases cq:r.2.2 > 0
  ·rw[if_pos cq]
   exact yo1 O h0 (a.rev _ _) b c (yo0 O (by rw[a.size];exact c) z al dd)
  ·rw[if_neg cq]
   exact yo1 O h0 a b c dd
theorem yuw (h2:2≤n){p:Array Nat}(hp:PermN n p):okW n lt (yxn n lt n) (kas_count n p):=by
 unfold kas_count
 have h0:0<n:=by omega
 refine yfp (ycr (fun r ⟨a,b,u,e⟩=>?_) (ysg O hp h0 (n-1) 1 (by omega) (by omega) ?_))
 ·intro i j hij hj
  have:i=j:=by omega
  subst this
  exact O.irr _
 ·by_cases c1:(r == n)=true
  ·rw[if_pos c1]
   have:r=n:=by simpa using c1
   exact⟨hp,a,by show r≤n;omega,u⟩
  ·rw[if_neg c1]
   have rn:r≠n:=by simpa using c1
   have lst:lt (gA p r) (gA p (r-1))=true:=by
    rcases e with e|e
    ·exact absurd (by omega) rn
    ·exact e
   have hs:r≤p.size:=by rw[hp.size];omega
   by_cases c2:r > 1
   ·rw[if_pos c2]
    refine⟨hp.below h0 0,hp.below h0 (r-1),?_⟩
    by_cases c3:lt (gA p 0) (gA p (r-1))=true
    ·show okW n lt _ (if lt (gA p 0) (gA p (r-1))=true then KasT.ret (r,p) else kas_descPart r n (kas_rev p 0 r))
     rw[if_pos c3]
     exact⟨hp,a,by show r≤n;omega,u⟩
    ·show okW n lt _ (if lt (gA p 0) (gA p (r-1))=true then KasT.ret (r,p) else kas_descPart r n (kas_rev p 0 r))
     rw[if_neg c3]
     have c3':lt (gA p 0) (gA p (r-1))=false:=by simpa using c3
     refine yh1 O h0 (hp.rev 0 r) (by omega) (yfd O ?_ a ?_)
     ·intro i j hij hj
      rw[yh0 hs,yh0 hs,if_pos ⟨Nat.zero_le _,hj⟩,if_pos ⟨Nat.zero_le _,by omega⟩]
      exact u _ _ (by omega) (by omega)
     ·rw[yh0 hs,yh0 hs,if_neg (by omega),if_pos ⟨Nat.zero_le _,by omega⟩]
      have e0:0+r-1-(r-1)=0:=by omega
      rw[e0]
      exact O.tr _ _ _ (O.asy _ _ lst) c3'
   ·rw[if_neg c2]
    have r1:r=1:=by omega
    subst r1
    refine yh1 O h0 hp (by omega) (yfd O ?_ (Nat.le_refl _) (O.asy _ _ lst))
    intro i j hij hj
    have:i=j:=by omega
    subst this
    exact O.irr _
theorem ykf (h0:0<n){p:Array Nat}{k:Nat}(hp:PermN n p)(u:Up lt p k):∀(f l r:Nat),l≤r→r≤k→r-l≤f→(∀i,i<l→leA lt (gA p i) (gA p k))→(∀i,r≤i→i<k→leA lt (gA p k) (gA p i))→
 okW n lt (fun x=>x≤k∧(∀i,i<x→leA lt (gA p i) (gA p k))∧∀i,x≤i→i<k→leA lt (gA p k) (gA p i)) (kas_place p k f l r)
 |0,l,r,h1,h2,hf,a,b=>⟨by omega,a,fun i x y=>b i (by omega) y⟩
 |f+1,l,r,h1,h2,hf,a,b=>by
  show okW n lt _ (if l ≥ r then KasT.ret l else _)
  by_cases c:l ≥ r
  ·rw[if_pos c]
   exact⟨by omega,a,fun i x y=>b i (by omega) y⟩
  ·rw[if_neg c]
   refine⟨hp.below h0 k,hp.below h0 _,?_⟩
   show okW n lt _ (if lt (gA p k) (gA p ((l+r) / 2))=true then kas_place p k f l ((l+r) / 2) else kas_place p k f ((l+r) / 2+1) r)
   by_cases d:lt (gA p k) (gA p ((l+r) / 2))=true
   ·rw[if_pos d]
    refine ykf h0 hp u f l _ (by omega) (by omega) (by omega) a fun i x y=>?_
    exact O.tr _ _ _ (O.asy _ _ d) (u _ i x y)
   ·rw[if_neg d]
    have d':lt (gA p k) (gA p ((l+r) / 2))=false:=by simpa using d
    refine ykf h0 hp u f _ r (by omega) h2 (by omega) (fun i x=>?_) b
    exact O.tr _ _ _ (u i ((l+r) / 2) (by omega) (by omega)) d'
theorem ywk (h0:0<n):∀(f:Nat) (p:Array Nat) (k:Nat),PermN n p→f+k=n→Up lt p k→okW n lt (fun r=>PermN n r∧Up lt r n) (kas_bin f p k)
 | 0, p, k, hp, hk, u => ⟨hp, by have : k = n := by omega
                                 subst this;exact u⟩
 |f+1,p,k,hp,hk,u=>by
  show okW n lt _ ((kas_place p k k 0 k).bind fun l=>kas_bin f (bubble p k (k-l)) (k+1))
  refine yfp (ycr (fun l ⟨hl,a,b⟩=>?_) (ykf O h0 hp u k 0 k (Nat.zero_le _) (Nat.le_refl _) (by omega) (fun i x=>by omega) fun i x y=>by omega))
  refine ywk h0 f _ (k+1) (hp.bub _ _) (by omega) ?_
  have hs:k<p.size:=by rw[hp.size];omega
  have g:=yzd (p:=p) (src:=k) (d:=k-l) hs (by omega)
  have e:k-(k-l)=l:=by omega
  rw[e] at g
  intro i j hij hj
  rw[g i,g j]
  by_cases ci:i=l
  ·rw[if_pos ci]
   by_cases cj:j=l
   ·rw[if_pos cj];exact O.irr _
   ·rw[if_neg cj,if_pos ⟨by omega,by omega⟩]
    exact b _ (by omega) (by omega)
  ·rw[if_neg ci]
   by_cases cj:j=l
   ·rw[if_pos cj,if_neg (by omega)]
    exact a i (by omega)
   ·rw[if_neg cj]
    by_cases di:l<i∧i≤k
    ·rw[if_pos di,if_pos ⟨by omega,by omega⟩]
     exact u _ _ (by omega) (by omega)
    ·rw[if_neg di]
     by_cases dj:l<j∧j≤k
     ·rw[if_pos dj]
      exact u _ _ (by omega) (by omega)
     ·rw[if_neg dj]
      exact u _ _ hij (by omega)
theorem ysi (h2:2≤n):okW n lt (fun p=>PermN n p∧Up lt p n) (kas_sort n):=by
 unfold kas_sort
 have h0:0<n:=by omega
 refine yfp (ycr (fun r ⟨a,b,c,u⟩=>?_) (yuw O h2 (p:=List.toArray (List.range n)) (by unfold PermN;simp)))
 have e:max r.1 1=r.1:=by omega
 rw[e]
 by_cases d:r.1<n
 ·rw[if_pos d]
  exact ywk O h0 (n-r.1) r.2 r.1 a (by omega) u
 ·rw[if_neg d]
  have:r.1=n:=by omega
  rw[this] at u
  exact⟨a,u⟩
end
end L2
namespace L2
open PySem PySem.Spec PyProof.Rows
section
variable {X:Cx}{a b e:Expr}{es:List Expr}{pos:Pos}
end
theorem yh2 {X:Cx}{x:Str}{v:Int}{pos:Pos} (hg:Gl X x) (hm:∃t,X.mg x=some (.int v t)) (hd:(x == ("__debug__" : Str))=false:=by decide):PE X (.Name x pos) (tC (.int v)):=by
 obtain ⟨t,h⟩:=hm
 exact yw2 hg h ⟨_,rfl⟩ hd
abbrev inB (v hi:Int):Prop:=1≤v∧v≤hi
def ydo:List Int→Option Nat
 |[d,c]=>if inB d 999 then if inB c 10000000000 then none else some 1 else some 0
 |[d,c,u]=>if inB d 999 then if inB c 10000000000 then if inB u 1000000 then none else some 2 else some 1 else some 0
 |_=>none
def ybg (rs:List (List Int)):Option Nat:=rs.findSome? ydo
theorem yhd {rs:List (List Int)}{i:Nat}{r:List Int}(h:ybg (rs.take i)=none)(e:rs[i]? = some r)(b:ydo r=none):ybg (rs.take (i+1))=none:=by
 obtain ⟨hi,e'⟩:=List.getElem?_eq_some_iff.mp e
 unfold ybg at *
 rw[List.take_succ_eq_append_getElem hi,List.findSome?_append,h,e']
 simp [b]
theorem yh3 {rs:List (List Int)}{i j:Nat}{r:List Int}(h:ybg (rs.take i)=none)(e:rs[i]? = some r)(b:ydo r=some j):ybg rs=some j:=by
 obtain ⟨hi,e'⟩:=List.getElem?_eq_some_iff.mp e
 unfold ybg at *
 have:rs=rs.take i++r::rs.drop (i+1):=by rw[← e',← List.drop_eq_getElem_cons hi,List.take_append_drop]
 rw[this,List.findSome?_append,h]
 simp [b]
theorem yeo {rs:List (List Int)}{i:Nat}{r:List Int}(e:rs[i]? = some r):rs.take i++[r]=rs.take (i+1):=by
 obtain ⟨hi,e'⟩:=List.getElem?_eq_some_iff.mp e
 rw[List.take_succ_eq_append_getElem hi,e']
def yq4 (c:Addr)(hi:Int):Sp:=fun vs H Q E=>∃v:Int,vs=[.int v]∧(inB v hi→Q .non H)∧(¬ inB v hi→E (.ref c) none H)
def ynv:Sp:=fun vs H Q _=>∃d:Int,vs=[.int d]∧Q (.bl (decide (inB d 999))) H
def yo2 (cR:Addr):Sp:=fun vs H Q E=>∃a xs,vs=[.ref a]∧H a=some (.lst xs)∧(xs.length≤30→Q .non H)∧(30<xs.length→E (.ref cR) none H)
def ynw (cR:Addr)(cls:Nat→Addr)(w:Nat):Sp:=fun vs H Q E=>∃a rs,vs=[.ref a]∧Rows H a rs∧(∀r∈rs,r.length=w)∧(30<rs.length→E (.ref cR) none H)∧
 (rs.length≤30→∀j,ybg rs=some j→∀H',Same H H'→E (.ref (cls j)) none H')∧(rs.length≤30→ybg rs=none→∀l H',H l=none→Same H H'→Rows H' l rs→Q (.ref l) H')
theorem yyn {r:List Int}(h:r.length=2):∃d c,r=[d,c]:=match r,h with | [d,c],_=>⟨d,c,rfl⟩
theorem ynx {r:List Int}(h:r.length=3):∃d c u,r=[d,c,u]:=match r,h with | [d,c,u],_=>⟨d,c,u,rfl⟩
theorem yo3 {v hi:Int}{R:Bool→Prop}(h:R (decide (inB v hi))):∃i j:Int,V.int 1 = .int i∧V.int v = .int j∧∃b,V.bl (decide (i≤j)) = .bl b∧if b=true then ∃i' j':Int,V.int v = .int i'∧V.int hi = .int j'∧∃b',V.bl (decide (i'≤j')) = .bl b'∧R b' else ∃b',V.bl false = .bl b'∧R b':=by
 refine⟨_,_,rfl,rfl,_,rfl,?_⟩
 refine yym (fun c=>?_) (fun c=>?_)
 ·have c1:(1:Int)≤v:=of_decide_eq_true c
  refine⟨_,_,rfl,rfl,_,rfl,?_⟩
  have e:decide (v≤hi)=decide (inB v hi):=by by_cases z:v≤hi <;> simp [z,c1,inB]
  rw[e];exact h
 ·have c1:¬ (1:Int)≤v:=of_decide_eq_false (Bool.eq_false_iff.mpr c)
  have e:false=decide (inB v hi):=by simp [inB,c1]
  exact⟨_,rfl,by rw[e];exact h⟩
theorem ykg (n:Nat):(List.range n).all (fun _=>true)=true:=by simp
end L2
namespace L2
open PySem PySem.Spec PySem.W PyProof.Rows
theorem ygu:∀{ns:List Int}{us:List Value},Vals (ns.map V.int) us→IntsAre us ns
 |[],_,.nil=>.nil
 |n::r,_,.cons x t=>by
  obtain ⟨k,rfl⟩:=x
  exact .cons n k (ygu t)
theorem ysj:∀{ns:List Int}{us:List Value},IntsAre us ns→Vals (ns.map V.int) us
 |_,_,.nil=>.nil
 |_,_,.cons n t r=>.cons ⟨t,rfl⟩ (ysj r)
def yfq:List Int→List Int→Bool
 |a::as,b::bs=>if a=b then yfq as bs else decide (a<b)
 |[],_::_=>true
 |_,[]=>false
theorem ysk:∀a:List Int,yfq a a=false
 |[]=>rfl
 |a::as=>by show (if a=a then yfq as as else _)=false;rw[if_pos rfl];exact ysk as
theorem yny:∀{a b:List Int},yfq a b=true→yfq b a=false
 |[],[],h=>by cases h
 |[],b::bs,_=>rfl
 |a::as,[],h=>by cases h
 |a::as,b::bs,h=>by
  show (if b=a then yfq bs as else decide (b<a))=false
  have h':(if a=b then yfq as bs else decide (a<b))=true:=h
  by_cases e:a=b
  ·rw[if_pos e] at h'
   rw[if_pos e.symm]
   exact yny h'
  ·rw[if_neg e] at h'
   rw[if_neg (Ne.symm e)]
   have:=of_decide_eq_true h'
   exact decide_eq_false (by omega)
theorem ywl:∀{a b c:List Int},yfq b a=false→yfq c b=false→yfq c a=false
 |[],[],[],_,_=>rfl
 |[],[],_::_,_,_=>rfl
 |[],_::_,[],_,h=>by cases h
 |[],_::_,_::_,_,_=>rfl
 |_::_,[],_,h,_=>by cases h
 |_::_,_::_,[],_,h=>by cases h
 |a::as,b::bs,c::cs,h,g=>by
  have h':(if b=a then yfq bs as else decide (b<a))=false:=h
  have g':(if c=b then yfq cs bs else decide (c<b))=false:=g
  show (if c=a then yfq cs as else decide (c<a))=false
  by_cases e1:b=a
  ·rw[if_pos e1] at h'
   subst e1
   by_cases e2:c=b
   ·rw[if_pos e2] at g'
    rw[if_pos e2]
    exact ywl h' g'
   ·rw[if_neg e2] at g' ⊢
    exact g'
  ·rw[if_neg e1] at h'
   have h1:=of_decide_eq_false h'
   by_cases e2:c=b
   ·subst e2
    rw[if_neg e1]
    exact h'
   ·rw[if_neg e2] at g'
    have g1:=of_decide_eq_false g'
    rw[if_neg (by omega)]
    exact decide_eq_false (by omega)
def yq5 (rs:List (List Int))(i j:Nat):Bool:=yfq (rs.getD i []) (rs.getD j [])
theorem ykh (rs:List (List Int)):Ordr (yq5 rs):=⟨fun _=>ysk _,fun _ _ _ a b=>ywl a b,fun _ _ a=>yny a⟩
section
variable {prog:Program}{w:World}{A:Around}{E:Value→Shared→Prop}{s:Shared}
theorem yh4 {Q:Bool→Shared→Prop}:∀{xs ys:List Value}{as bs:List Int} (i:Nat),IntsAre xs as→IntsAre ys bs→as.length=bs.length→Q (yfq as bs) s→KatLex prog w A true false Q (xs.zip ys) i s
 |_,_,_,_,i,.nil,.nil,_,q=>q
 |_,_,_,_,i,.cons n t r,.cons m u r',hl,q=>by
  show KatLex prog w A true false Q ((Value.int n t,Value.int m u)::_) i s
  refine kat_cons (wpAny_eqBool_int ?_)
  by_cases e:n=m
  ·rw[show (n == m)=true by simpa using e]
   refine kat_yes (yh4 (i+1) r r' (by simpa using hl) ?_)
   have q':Q (if n=m then yfq _ _ else _) s:=q
   rw[if_pos e] at q'
   exact q'
  ·rw[show (n == m)=false by simpa using e]
   refine kat_no ?_
   have q':Q (if n=m then yfq _ _ else decide (n<m)) s:=q
   rw[if_neg e] at q'
   by_cases c:(true&&i == 0)=true
   ·rw[c];exact oneLt_int q'
   ·rw[Bool.eq_false_iff.mpr c]
    exact kat_one _ _ (lt_int q')
 |_,_,_,_,i,.nil,.cons _ _ _,hl,q=>by simp at hl
 |_,_,_,_,i,.cons _ _ _,.nil,hl,q=>by simp at hl
def TupsAt (h:Heap)(bs:List Addr)(rs:List (List Int)):Prop:=bs.length=rs.length∧∀(i:Nat) b r,bs[i]? = some b→rs[i]? = some r→∃its:List Value,IsTup h b its.toArray∧IntsAre its r
theorem TupsAt.tail {h:Heap}{b:Addr}{bs:List Addr}{r:List Int}{rs:List (List Int)}(t:TupsAt h (b::bs) (r::rs)):TupsAt h bs rs:=⟨by simpa using t.1,fun i c q e1 e2=>t.2 (i+1) c q (by simpa using e1) (by simpa using e2)⟩
theorem TupsAt.kat {h:Heap}:∀{bs:List Addr}{rs:List (List Int)},TupsAt h bs rs→(∀r∈rs,r≠[])→∃fs:List Value,fs.length=bs.length∧KatTups h (bs.map Value.ref) fs∧∀v∈fs,∃n t,v = .int n t
 |[],[],_,_=>⟨[],rfl,trivial,fun v hv=>by cases hv⟩
 |[],_::_,t,_=>by have:=t.1;simp at this
 |_::_,[],t,_=>by have:=t.1;simp at this
 |b::bs,r::rs,t,hn=>by
  obtain ⟨fs,h1,h2,h3⟩:=t.tail.kat fun q hq=>hn q (.tail _ hq)
  obtain ⟨its,⟨o,ho,hc,n,hd⟩,ia⟩:=t.2 0 b r rfl rfl
  cases ia with
  |nil=>exact absurd rfl (hn [] (.head _))
  |cons m k ia=>
   refine⟨.int m k::fs,by simp [h1],⟨⟨b,o,_,n,rfl,ho,hc,hd,rfl⟩,h2⟩,fun v hv=>?_⟩
   rcases List.mem_cons.mp hv with rfl|hv
   ·exact⟨m,k,rfl⟩
   ·exact h3 v hv
theorem TupsAt.ask {bs:List Addr}{rs:List (List Int)}{wd:Nat}(t:TupsAt s.heap bs rs)(hw:∀r∈rs,r.length=wd)(i j:Nat)(C:Bool→Shared→Prop)(hi:i<bs.length)(hj:j<bs.length)(q:C (yq5 rs i j) s):kas_ask prog w A (tuples' true) (bs.map Value.ref) i j C s:=by
 have hi':i<rs.length:=by rw[← t.1];exact hi
 have hj':j<rs.length:=by rw[← t.1];exact hj
 obtain ⟨xs,⟨o,ho,_,n,hd⟩,ia⟩:=t.2 i bs[i] rs[i] (by simp [hi]) (by simp [hi'])
 obtain ⟨ys,⟨o',ho',_,n',hd'⟩,ib⟩:=t.2 j bs[j] rs[j] (by simp [hj]) (by simp [hj'])
 unfold kas_ask
 rw[show (bs.map Value.ref).getD i Value.none = .ref bs[i] by simp [hi],show (bs.map Value.ref).getD j Value.none = .ref bs[j] by simp [hj]]
 have la:xs.length=wd:=by rw[IntsAre.length ia];exact hw _ (List.getElem_mem hi')
 have lb:ys.length=wd:=by rw[IntsAre.length ib];exact hw _ (List.getElem_mem hj')
 refine kat_lt ho hd ho' hd' ?_
 rw[show decide (xs.toArray.size<ys.toArray.size)=false by simp [la,lb]]
 have q':C (yfq rs[i] rs[j]) s:=by
  unfold yq5 at q
  rw[show rs.getD i []=rs[i] by simp [hi'],show rs.getD j []=rs[j] by simp [hj']] at q
  exact q
 exact yh4 0 ia ib (by rw[hw _ (List.getElem_mem hi'),hw _ (List.getElem_mem hj')]) q'
theorem yo4 {lt:Nat→Nat→Bool}(O:Ordr lt){p:Array Nat}{m:Nat}(h:m<2):Up lt p m:=fun i j hij hj=>by
 have:i=j:=by omega
 subst this
 exact O.irr _
theorem yki {a:Addr}{bs:List Addr}{rs:List (List Int)}{wd n:Nat}{P:PySem.Fin→Shared→Prop} (ho:s.heap.get? a=some (seqObj "list" (bs.map Value.ref).toArray n))
 (t:TupsAt s.heap bs rs) (hw:∀r∈rs,r.length=wd) (hw0:0<wd) (h64:bs.length<64)
 (h:∀p:Array Nat,PermN bs.length p→Up (yq5 rs) p bs.length→P (.done (.ret .none)) { s with heap:=sortedHeap s.heap a (bs.map Value.ref) (List.toArray (p.toList.map fun i=>(bs.map Value.ref).getD i Value.none)) }) :
 wpAny (model prog w) A (Builtin.«list.sort» ⟨[.ref a],[]⟩) P E s:=by
 rw[list_sort_plain]
 have ha:a<s.heap.objs.size:=Heap.lt_size ho
 have hlen:(bs.map Value.ref).length=bs.length:=List.length_map ..
 refine zwb0 (listItems_at ho rfl ?_)
 refine zwb0 (listUpdate_at ho rfl ?_ (by rw[List.size_toArray,sizeLine_eq,hlen];omega) (Nat.zero_le _))
 obtain ⟨e1,ho1⟩ : ∃e1,(s.heap.update a (Obj.mapSeq fun _=>(#[]:Array Value))).get? a=some (seqObj "list" #[] e1):=⟨_,get?_update_seq ho (fun _=>#[])⟩
 refine zwb0 (seqEpoch_at ho1 rfl ?_)
 refine zwb0 (wpAny_newTuple ?_ (by show (bs.map Value.ref).length≤_;rw[sizeLine_eq,hlen];omega))
 refine zwb0 (wpAny_newList ?_ (Nat.zero_le _))
 refine wpAny_holding ?_
 have ho6:(((s.heap.update a (Obj.mapSeq fun _=>(#[]:Array Value))).push (seqObj "tuple" (bs.map Value.ref).toArray 0)).push (seqObj "list" #[] 0)).get? a=some (seqObj "list" #[] e1):=by
  rw[Heap.get?_push_ne _ _ _ (by rw[size_push',Heap.size_update];exact Nat.ne_of_lt (Nat.lt_succ_of_lt ha)),Heap.get?_push_ne _ _ _ (by rw[Heap.size_update];exact Nat.ne_of_lt ha)]
  exact ho1
 have t6:TupsAt (((s.heap.update a (Obj.mapSeq fun _=>(#[]:Array Value))).push (seqObj "tuple" (bs.map Value.ref).toArray 0)).push (seqObj "list" #[] 0)) bs rs:=⟨t.1,fun i b r x1 x2=>by
  obtain ⟨its,⟨o,g1,g2,k,g3⟩,ia⟩:=t.2 i b r x1 x2
  have nb:b≠a:=fun z=>by
   rw[z,ho] at g1
   cases g1
   exact absurd g2 (by simp)
  exact⟨its,⟨o,Heap.get?_push_of_some _ (Heap.get?_push_of_some _ ((Heap.get?_update_other _ _ nb.symm).trans g1)),g2,k,g3⟩,ia⟩⟩
 show wpAny (model prog w) A _ P E { s with heap:=((s.heap.update a (Obj.mapSeq fun _=>(#[]:Array Value))).push (seqObj "tuple" (bs.map Value.ref).toArray 0)).push (seqObj "list" #[] 0) }
 dsimp only
 have hsz:(bs.map Value.ref).toArray.size=bs.length:=by simp
 have hsz2:∀p:Array Nat,PermN bs.length p→(List.toArray (p.toList.map fun i=>(bs.map Value.ref).getD i Value.none)).size≤sizeLine+1:=fun p hp=>by
  rw[List.size_toArray,List.length_map,Array.length_toList,hp.size,sizeLine_eq];omega
 by_cases h2:(bs.map Value.ref).toArray.size<2
 ·rw[if_pos h2,if_pos h2]
  refine zwb0 (zwp0 ?_)
  rw[StateT.run_pure]
  refine zwb0 (zwp0 ?_)
  dsimp only
  refine zwb0 (seqEpoch_at ho6 rfl ?_)
  have pr:PermN bs.length (List.toArray (List.range bs.length)):=by unfold PermN;simp
  have eo:(arrOf (SortSt.mk' general' ((bs.map Value.ref).toArray.zip (bs.map Value.ref).toArray) #[] 7 none)).map (·.2)=List.toArray ((List.toArray (List.range bs.length)).toList.map fun i=>(bs.map Value.ref).getD i Value.none):=
   kat_snds (vs:=bs.map Value.ref) (ks:=bs.map Value.ref) (p:=List.toArray (List.range bs.length)) rfl (by
    have e:=kas_range ((bs.map Value.ref).toArray.zip (bs.map Value.ref).toArray)
    rw[show ((bs.map Value.ref).toArray.zip (bs.map Value.ref).toArray).size=bs.length by simp] at e
    exact e.symm)
  rw[eo]
  refine zwb0 (listUpdate_at ho6 rfl ?_ (Nat.zero_le _) (hsz2 _ pr))
  simp only[bne_self_eq_false,Bool.false_eq_true,if_false]
  exact zwp0 (h _ pr (yo4 (ykh rs) (by omega)))
 ·rw[if_neg h2,if_neg h2]
  obtain ⟨fs,f1,f2,f3⟩:=t6.kat fun r hr z=>by have:=hw r hr;rw[z] at this;simp at this;omega
  refine zwb0 (kat_kind (T:=.type "int") f2 (by omega) (fun v hv=>?_) rfl ?_)
  ·obtain ⟨m,k,rfl⟩:=f3 v hv
   exact Looks.of_pure rfl
  rw[show ((Value.type "int" : Value) != Value.type "tuple")=true from rfl]
  refine zwb0 (wpAny_mono (kat_run (A:=A) (vs:=bs.map Value.ref) (ks:=bs.map Value.ref) (κ:=tuples' true)
   (G:=fun p s'=>(PermN bs.length p∧Up (yq5 rs) p bs.length)∧s' = { s with heap:=((s.heap.update a (Obj.mapSeq fun _=>(#[]:Array Value))).push (seqObj "tuple" (bs.map Value.ref).toArray 0)).push (seqObj "list" #[] 0) })
   (Q:=fun st' s'=>∃p:Array Nat,PermN bs.length p∧Up (yq5 rs) p bs.length∧arrOf st'=p.map (kas_item ((bs.map Value.ref).toArray.zip (bs.map Value.ref).toArray))∧failedOf st'=none∧s' = { s with heap:=((s.heap.update a (Obj.mapSeq fun _=>(#[]:Array Value))).push (seqObj "tuple" (bs.map Value.ref).toArray 0)).push (seqObj "list" #[] 0) })
   rfl (by rw[hlen];omega) (by rw[hlen];exact h64) (fun p' st' s' a1 a2 a3 a4=>⟨p',a4.1.1,a4.1.2,a2,a3,a4.2⟩) ?_) ?_ fun _ _ e=>e)
  ·rw[hlen]
   exact ysf (n:=bs.length) (lt:=yq5 rs) (fun i j C hi hj q=>TupsAt.ask t6 hw i j C hi hj q) (ycr (fun p hp=>⟨hp,rfl⟩) (ysi (ykh rs) (by omega)))
  ·rintro ⟨⟨⟩,st'⟩ s' ⟨p,hp,hu,har,hf,rfl⟩
   dsimp only
   rw[kat_snds (vs:=bs.map Value.ref) (ks:=bs.map Value.ref) rfl har]
   refine zwb0 (seqEpoch_at ho6 rfl ?_)
   refine zwb0 (listUpdate_at ho6 rfl ?_ (Nat.zero_le _) (hsz2 p hp))
   rw[hf]
   simp only[bne_self_eq_false,Bool.false_eq_true,if_false]
   exact zwp0 (h p hp hu)
theorem yp4 {l:Addr}{bs:List Addr}{rs:List (List Int)}{wd:Nat}{Q:Value→Shared→Prop}(hl:s.heap.IsList l (bs.map Value.ref).toArray)(t:TupsAt s.heap bs rs)(hw:∀r∈rs,r.length=wd)(hw0:0<wd)(h64:bs.length<64)
 (h:∀p:Array Nat,PermN bs.length p→Up (yq5 rs) p bs.length→Q (.ref (s.heap.objs.size+1)) { s with heap:=sortedAll s.heap (bs.map Value.ref) (List.toArray (p.toList.map fun i=>(bs.map Value.ref).getD i Value.none)) }) :
 wpAny (model prog w) A (call (.builtin "sorted") [.ref l]) Q E s:=by
 have hlen:(bs.map Value.ref).length=bs.length:=List.length_map ..
 refine Calls.call_function_entry kind_sorted plain_sorted entry_sorted (args_sorted1 _) ?_
 unfold Builtin.«sorted»
 refine zwb0 (m:=checkCount "sorted" 1 1 _) (zwp0 ?_)
 refine zwb0 (collect_list hl ?_ (by rw[sizeLine_eq,hlen];omega))
 refine zwb0 (wpAny_newList ?_ (by rw[sizeLine_eq,hlen];omega))
 have hsz:((s.heap.push (seqObj "list" #[] 0)).update s.heap.objs.size (Obj.mapSeq (· ++ (bs.map Value.ref).toArray))).objs.size=s.heap.objs.size+1:=by
  rw[Heap.size_update,size_push']
 have hoL:(((s.heap.push (seqObj "list" #[] 0)).update s.heap.objs.size (Obj.mapSeq (· ++ (bs.map Value.ref).toArray))).push (seqObj "list" (bs.map Value.ref).toArray 0)).get? (s.heap.objs.size+1)=some (seqObj "list" (bs.map Value.ref).toArray 0):=by
  rw[← hsz];exact Heap.get?_push_size _ rfl
 have keep:∀b o,s.heap.get? b=some o→(((s.heap.push (seqObj "list" #[] 0)).update s.heap.objs.size (Obj.mapSeq (· ++ (bs.map Value.ref).toArray))).push (seqObj "list" (bs.map Value.ref).toArray 0)).get? b=some o:=fun b o q=>by
  have hlt:b<s.heap.objs.size:=Heap.lt_size q
  rw[Heap.get?_push_ne _ _ _ (by rw[hsz];exact Nat.ne_of_lt (Nat.lt_succ_of_lt hlt)),Heap.get?_update_ne _ _ _ _ (Nat.ne_of_lt hlt),Heap.get?_push_ne _ _ _ (Nat.ne_of_lt hlt)]
  exact q
 show wpAny _ _ _ _ _ { s with heap:=((s.heap.push (seqObj "list" #[] 0)).update s.heap.objs.size (Obj.mapSeq (· ++ (bs.map Value.ref).toArray))).push (seqObj "list" (bs.map Value.ref).toArray 0) }
 rw[hsz]
 refine zwb0 (wpAny_holding (wpAny_call_entry slot_list_sort ⟨_,hoL,rfl⟩ entry_list_sort (yki hoL ⟨t.1,fun i b r x1 x2=>?_⟩ hw hw0 h64 fun p a1 a2=>⟨_,rfl,?_⟩) (args_list_sort _)))
 ·obtain ⟨its,y1,y2⟩:=t.2 i b r x1 x2
  exact⟨its,y1.keeps keep,y2⟩
 ·exact zwp0 ⟨_,rfl,h p a1 a2⟩
end
section
variable {X:Cx}
def zbw (K:PySem.W.Frag):List V→Hp→VK→Prop:=fun xs H Q=>∃(p:Addr) (ns:List Int),xs=[.ref p]∧SqL K H p (ns.map V.int)∧Q (.int ns.sum) H
theorem ysl (hc:X.calm=true):yfa X (.builtin "sum") (zbw X.K):=by
 intro pins s σ H xs us Q I r h
 obtain ⟨p,ns,rfl,hq,q⟩:=h
 obtain ⟨u,rfl,ru⟩:=r.one
 cases ru
 obtain ⟨its,rv,pl,hz⟩:=I.list hq
 have ia:=ygu rv
 obtain ⟨ys,ey⟩:=ia.allInts.items
 have hl:=pl.isList
 have e2:(numsOf its.toArray.toList).sum=ns.sum:=by rw[show its.toArray.toList=its by simp,ia.numsOf]
 rw[ey] at hl e2
 refine sum_intListG (I.ok.hd hc) hl fun h' tk t' kk=>⟨.int ns.sum,H,I.kept (t':=tk) kk,⟨t',?_⟩,q⟩
 rw[nums_intItems] at e2
 rw[preSum_eq,List.take_of_length_le (by simp),e2]
def yzf:List V→Hp→VK→Prop:=fun xs H Q=>∃(p:Addr) (rs:List (List Int)) (wd:Nat),xs=[.ref p]∧Rows H p rs∧rs.length<64∧(∀r∈rs,r.length=wd)∧0<wd∧∀(l:Addr) (ss:List (List Int)) (H':Hp),H l=none→ss.Perm rs→ss.Pairwise (fun a b=>yfq b a=false)→Same H H'→Rows H' l ss→Q (.ref l) H'
theorem ygv:yfa X (.builtin "sorted") yzf:=by
 intro pins s σ H xs us Q I r h
 obtain ⟨p,rs,wd,rfl,hR,h64,hw,hw0,q⟩:=h
 obtain ⟨u,rfl,ru⟩:=r.one
 cases ru
 obtain ⟨ps,h1,h2,h3⟩:=id hR
 obtain ⟨its,rv,pl,hz⟩:=I.list (SqL.of h1)
 have eits:its=ps.map Value.ref:=by
  clear hz pl h1 h2 h3 hR
  induction ps generalizing its with
  |nil=>cases rv;rfl
  |cons a r ih=>
   cases rv with
   |cons x t=>rw[show _=Value.ref a from x,ih _ t];rfl
 subst eits
 have tt:TupsAt s.heap ps rs:=⟨h2,fun i b r e1 e2=>by
  obtain ⟨_,us,rr,y⟩:=(show ObjOk X.prog X.w H s.heap b (.tup (r.map V.int)) from I.hok b _ (h3 i b r e1 e2))
  exact⟨us,y,ygu rr⟩⟩
 have hps:ps.length<64:=by omega
 refine yp4 pl.isList tt hw hw0 hps fun pp hp hu=>?_
 have hmem:∀i∈pp.toList,i<ps.length:=fun i hi=>List.mem_range.mp ((List.Perm.mem_iff hp).mp hi)
 have eo:(pp.toList.map fun i=>(ps.map Value.ref).getD i Value.none)=(pp.toList.map fun i=>ps.getD i 0).map Value.ref:=by
  rw[List.map_map]
  exact List.map_congr_left fun i hi=>by have:=hmem i hi;simp [this]
 obtain ⟨e,he⟩:=sortedAll_at s.heap (ps.map Value.ref) (List.toArray (pp.toList.map fun i=>(ps.map Value.ref).getD i Value.none))
 have vv:∀l:List Addr,Vals (l.map V.ref) (l.map Value.ref):=fun l=>by
  induction l with
  |nil=>exact .nil
  |cons a r ih=>exact .cons rfl ih
 have fr:H (s.heap.objs.size+1)=none:=I.hok.fresh (Nat.le_succ _)
 refine⟨.ref _,_,I.laid (t':=s.toks) (a:=s.heap.objs.size+1) (o:=.lst ((pp.toList.map fun i=>ps.getD i 0).map V.ref)) (fun b o e=>sortedAll_old e) (Nat.le_succ _) ⟨?_,(pp.toList.map fun i=>ps.getD i 0).map Value.ref,e,vv _,?_⟩,rfl,q _ (pp.toList.map fun i=>rs.getD i []) _ fr ?_ ?_ (yae fr _) ⟨_,yab,by rw[List.length_map,List.length_map],fun i b r e1 e2=>?_⟩⟩
 ·rw[List.length_map,List.length_map,Array.length_toList,hp.size,sizeLine_eq];omega
 ·rw[he,eo]
 ·have e1:(List.range ps.length).map (fun i=>rs.getD i [])=rs:=by
   apply List.ext_getElem?
   intro i
   rw[List.getElem?_map]
   by_cases hi:i<ps.length
   ·rw[List.getElem?_range hi];simp [show i<rs.length by omega]
   ·rw[List.getElem?_eq_none (by simpa using hi),List.getElem?_eq_none (by omega)];rfl
  have:=hp.map (fun i=>rs.getD i [])
  rw[e1] at this
  exact this
 ·rw[List.pairwise_map,List.pairwise_iff_getElem]
  intro i j hi hj hij
  have hj':j<ps.length:=by rw[Array.length_toList,hp.size] at hj;exact hj
  have:=hu i j (Nat.le_of_lt hij) hj'
  have gi:gA pp i=pp.toList[i]:=by
   rw[Array.length_toList] at hi
   simp [gA,hi]
  have gj:gA pp j=pp.toList[j]:=by
   rw[Array.length_toList] at hj
   simp [gA,hj]
  rw[gi,gj] at this
  exact this
 ·rw[List.getElem?_map] at e1 e2
  cases ei:pp.toList[i]? with
  |none=>rw[ei] at e1;cases e1
  |some k=>
   rw[ei] at e1 e2
   have hk:=hmem k (List.mem_of_getElem? ei)
   have eb:ps[k]? = some b:=by have:=Option.some.inj e1;simp [hk] at this;simp [hk,this]
   have er:rs[k]? = some r:=by have:=Option.some.inj e2;simp [show k<rs.length by omega] at this;simp [show k<rs.length by omega,this]
   have hb:=h3 k b r eb er
   rw[yak (yam hb fr)]
   exact hb
end
section
variable {X:Cx}
def zau:List V→Hp→VK→Prop:=fun xs H Q=>∃n:Int,xs=[.int n]∧∀l,H l=none→Q (.ref l) (upd H l (.rng 0 n))
theorem ysm:yfa X (.type "range") zau:=by
 intro pins s σ H xs us Q I r h
 obtain ⟨n,rfl,q⟩:=h
 obtain ⟨u,rfl,ru⟩:=r.one
 obtain ⟨t,rfl⟩:=ru
 refine call_range_1 ?_
 exact⟨.ref _,_,I.laid (t':=s.toks+1+1) (a:=s.heap.objs.size) (o:=.rng 0 n) (fun b o e=>Heap.get?_push_of_some _ e) (Nat.le_refl _) ⟨_,_,_,Heap.get?_push_size _ rfl⟩,rfl,q _ (I.hok.fresh (Nat.le_refl _))⟩
def yce (n:Nat):List Int:=(List.range n).map fun i=>((i:Nat):Int)
theorem ya5 (n:Nat):(yce n).length=n:=by simp [yce]
def yux:List V→Hp→VK→Prop:=fun xs H Q=>∃(p:Addr) (n:Nat),xs=[.ref p]∧H p=some (.rng 0 n)∧n≤1000∧∀l,H l=none→Q (.ref l) (upd H l (.lst ((yce n).map V.int)))
theorem ysn {acc:Array Value}{n:Nat}(h:ItemsOf (fun i v=>∃t,v=Value.int (0+(i:Int)*1) t) acc n):Vals ((yce n).map V.int) acc.toList:=by
 obtain ⟨h1,h2⟩:=h
 have go:∀(l:List Value) (k:Nat),(∀(j:Nat) v,l[j]? = some v→∃t,v=Value.int ((k+j:Nat):Int) t)→Vals ((List.range' k l.length).map fun i=>V.int ((i:Nat):Int)) l:=by
  intro l
  induction l with
  |nil=>intro k _;exact .nil
  |cons a r ih=>
   intro k hl
   rw[List.length_cons,List.range'_succ,List.map_cons]
   obtain ⟨t,e⟩:=hl 0 a rfl
   refine .cons ⟨t,?_⟩ (ih (k+1) fun j v ev=>?_)
   ·rw[e,Nat.add_zero]
   ·obtain ⟨t,e⟩:=hl (j+1) v (by simpa using ev)
    exact⟨t,by rw[e];congr 1;omega⟩
 have:=go acc.toList 0 fun j v ev=>by
  obtain ⟨t,e⟩:=h2 j v (by simpa using ev)
  exact⟨t,by rw[e];congr 1;omega⟩
 rw[Array.length_toList,h1] at this
 unfold yce
 rw[List.map_map,List.range_eq_range']
 exact this
theorem ykj (hc:X.calm=true):yfa X (.type "list") yux:=by
 intro pins s σ H xs us Q I r h
 obtain ⟨p,n,rfl,hp,hn,q⟩:=h
 obtain ⟨u,rfl,ru⟩:=r.one
 cases ru
 obtain ⟨t1,t2,t3,ho⟩:=(show ObjOk X.prog X.w H s.heap p (.rng 0 n) from I.hok p _ hp)
 refine call_list_range (a:=0) (b:=(n:Int)) (c:=1) (n:=n) (I.ok.hd hc) ho (small_one (by decide) (by decide) (by omega) (by omega)) ?_ (by omega) fun h' tk acc' c' kk e it=>?_
 ·rw[rangeSize_one]
  split <;> omega
 ·refine⟨.ref _,_,I.laid (t':=tk) (a:=s.heap.objs.size) (o:=.lst ((yce n).map V.int)) kk (Nat.le_refl _) ⟨?_,acc'.toList,c',ysn it,by simpa using e⟩,rfl,q _ (I.hok.fresh (Nat.le_refl _))⟩
  rw[List.length_map,ya5,sizeLine_eq];omega
end
theorem ygw (n:Nat):yce (n+1)=yce n++[((n:Nat):Int)]:=by
 unfold yce
 rw[List.range_succ,List.map_append];rfl
theorem uptoN_mem {n:Nat}{i:Int}:i∈yce n↔0≤i∧i<n:=by
 unfold yce
 rw[List.mem_map]
 constructor
 ·rintro ⟨k,hk,rfl⟩
  have:=List.mem_range.mp hk
  omega
 ·intro h
  exact⟨i.toNat,List.mem_range.mpr (by omega),by omega⟩
abbrev yag (rs:List (List Int))(k:Nat)(i:Int):Int:=(rs.getD i.toNat []).getD k 0
def keyE (rs:List (List Int))(i:Int):List Int:=[yag rs 0 i,i]
def yxo (rs:List (List Int))(i:Int):List Int:=[-(yag rs 2 i),yag rs 0 i,i]
def yb2 (key:Int→List Int)(n:Nat)(os:List Int):Prop:=os.Perm (yce n)∧os.Pairwise (fun i j=>yfq (key j) (key i)=false)
theorem yjx {key:Int→List Int}{lst:List Int→Int}(hk:∀i,lst (key i)=i){n:Nat}{ss:List (List Int)}(hp:ss.Perm ((yce n).map key))(ho:ss.Pairwise (fun a b=>yfq b a=false)):yb2 key n (ss.map lst):=by
 have e:(ss.map lst).map key=ss:=by
  rw[List.map_map]
  conv=>rhs;rw[← List.map_id ss]
  refine List.map_congr_left fun r hr=>?_
  obtain ⟨i,_,rfl⟩:=List.mem_map.mp (hp.mem_iff.mp hr)
  show key (lst (key i))=key i
  rw[hk]
 refine⟨?_,?_⟩
 ·have:=hp.map lst
  rw[List.map_map] at this
  rw[show (yce n).map (lst ∘ key)=yce n by
   conv=>rhs;rw[← List.map_id (yce n)]
   exact List.map_congr_left fun i _=>hk i] at this
  exact this
 ·rw[← e,List.pairwise_map] at ho
  exact ho
def yp5 (key:List (List Int)→Int→List Int)(ok:List Int→Prop):Sp:=fun vs H Q _=>∃(a:Addr) (rs:List (List Int)),vs=[.ref a]∧Rows H a rs∧rs.length≤60∧(∀r∈rs,ok r)∧
 ∀(l:Addr) (os:List Int) (H':Hp),H l=none→Same H H'→yb2 (key rs) rs.length os→H' l=some (.lst (os.map V.int))→Q (.ref l) H'
def okE (r:List Int):Prop:=1≤r.length
def okD (r:List Int):Prop:=r.length=3
theorem yfe {rs:List (List Int)}{i:Nat}{r:List Int}(e:rs[i]? = some r):rs.getD ((i:Nat):Int).toNat []=r:=by
 rw[Int.toNat_natCast,List.getD_eq_getElem?_getD,e];rfl
def yl4 (rs:List (List Int))(ts:List Int)(i:Nat):Prop:=∀(j:Nat) r u,j<i→rs[j]? = some r→ts[j]? = some u→0≤u∧u≤r.getD 1 0
theorem ynz {rs:List (List Int)}{ts:List Int}:yl4 rs ts 0:=fun j r u h=>absurd h (Nat.not_lt_zero _)
theorem yn0 {rs:List (List Int)}{ts:List Int}{i:Nat}{r:List Int}{u:Int}(er:rs[i]? = some r)(eu:ts[i]? = some u):yl4 rs ts (i+1)↔yl4 rs ts i∧0≤u∧u≤r.getD 1 0:=by
 constructor
 ·intro h
  exact⟨fun j r u hj=>h j r u (by omega),h i r u (by omega) er eu⟩
 ·rintro ⟨h,g⟩ j r' u' hj e1 e2
  by_cases c:j<i
  ·exact h j r' u' c e1 e2
  ·have:j=i:=by omega
   subst this
   rw[er] at e1
   rw[eu] at e2
   cases e1
   cases e2
   exact g
def TakenOk (rs:List (List Int))(ts:List Int):Prop:=ts.length=rs.length∧yl4 rs ts rs.length
def ywm (r:List Int):Prop:=r.length=3∧-(2 ^ 64)<r.getD 2 0∧r.getD 2 0<2 ^ 64
def ya0 (H:Hp)(b:Addr)(ts:List Int):Prop:=H b=some (.lst (ts.map V.int))
theorem ycs {os:List Int}{i:Nat}{x:V}(e:(os.map V.int)[i]? = some x):∃v,x = .int v∧os[i]? = some v:=by
 rw[List.getElem?_map] at e
 cases q:os[i]? with
 |none=>rw[q] at e;cases e
 |some v=>rw[q] at e;exact⟨v,(Option.some.inj e).symm,rfl⟩
theorem yuy {os:List Int}{r:Int}{i:Nat}(hr:r=(i:Int))(h:i<os.length):atI (os.map V.int) r=some (.int os[i]):=by
 subst hr
 exact yfb (by rw[List.getElem?_map,List.getElem?_eq_getElem h];rfl)
def ygx (cT:Addr):Sp:=fun vs H Q E=>∃(a b:Addr) (rs:List (List Int)) (ts:List Int),vs=[.ref a,.ref b]∧Rows H a rs∧(∀r∈rs,r.length=3)∧ya0 H b ts∧rs.length≤100∧ts.length≤100∧
 (¬ TakenOk rs ts→∀H',Same H H'→E (.ref cT) none H')∧(TakenOk rs ts→∀l H',H l=none→Same H H'→ya0 H' l ts→Q (.ref l) H')
def vbm:List Value:=[.type "ValueError",.type "Exception",.type "BaseException",.type "object"]
theorem yso {P:Program}{w:World}{X:Cx}:yjp (CXE P w) X E0:=fun _ _ _ _ _ _ _ h=>by
 obtain ⟨_,_,_,_,_,_,_,_,h,_⟩:=h
 exact h.elim
abbrev ye5 (t:Int):Prop:=0≤t∧t≤400
def yo5 (c:Addr):Sp:=fun vs H Q E=>∃v:Int,vs=[.int v]∧(ye5 v→Q .non H)∧(¬ ye5 v→E (.ref c) none H)
theorem yuz {lo v hi:Int}{R:Bool→Prop}(h:R (decide (lo≤v∧v≤hi))):∃i j:Int,V.int lo = .int i∧V.int v = .int j∧∃b,V.bl (decide (i≤j)) = .bl b∧if b=true then ∃i' j':Int,V.int v = .int i'∧V.int hi = .int j'∧∃b',V.bl (decide (i'≤j')) = .bl b'∧R b' else ∃b',V.bl false = .bl b'∧R b':=by
 refine⟨_,_,rfl,rfl,_,rfl,?_⟩
 refine yym (fun c=>?_) (fun c=>?_)
 ·have c1:lo≤v:=of_decide_eq_true c
  refine⟨_,_,rfl,rfl,_,rfl,?_⟩
  have e:decide (v≤hi)=decide (lo≤v∧v≤hi):=by by_cases z:v≤hi <;> simp [z,c1]
  rw[e];exact h
 ·have c1:¬ lo≤v:=of_decide_eq_false (Bool.eq_false_iff.mpr c)
  have e:false=decide (lo≤v∧v≤hi):=by simp [c1]
  exact⟨_,rfl,by rw[e];exact h⟩
def yh5 (cl:Nat→Addr):Nat→Addr
 |0=>cl 1
 |1=>cl 3
 |_=>cl 4
def yi9 (tm f l:Int)(r:List Int):Bool:=decide (f≤r.getD 0 0∧r.getD 0 0≤l+tm)
def ya1 (rs:List (List Int))(tm f l:Int):Int:=((rs.filter (yi9 tm f l)).map fun r=>r.getD 1 0).sum
theorem yec {α:Type}{rs:List α}{i:Nat}{r:α}(p:α→Bool)(e:rs[i]? = some r):(rs.take (i+1)).filter p=(rs.take i).filter p++if p r=true then [r] else []:=by
 obtain ⟨hi,e'⟩:=List.getElem?_eq_some_iff.mp e
 rw[List.take_succ_eq_append_getElem hi,List.filter_append,e']
 congr 1
 by_cases z:p r=true
 ·rw[if_pos z,List.filter_cons_of_pos z];rfl
 ·rw[if_neg z,List.filter_cons_of_neg z];rfl
def ykk:Sp:=fun vs H Q _=>∃(a p:Addr) (tm f l:Int) (rs:List (List Int)),vs=[.ref a,.int tm,.ref p]∧Rows H a rs∧(∀r∈rs,r.length=2)∧rs.length≤100∧H p=some (.tup [.int f,.int l])∧∀H',Same H H'→Q (.int (ya1 rs tm f l)) H'
def zav (K:PySem.W.Frag):V→V→Hp→VK→Prop:=fun x y H Q=>∃p xs i v,x = .ref p∧y = .int i∧SqL K H p xs∧0≤i∧xs[i.toNat]? = some v∧Q v H
theorem yo6 {X:Cx}:za7 X (zav X.K):=by
 intro pins s σ H o i ov iv Q I ro ri h
 obtain ⟨p,xs,k,v,rfl,rfl,hS,h0,hv,q⟩:=h
 cases ro
 obtain ⟨t,rfl⟩:=ri
 obtain ⟨its,r,pl,hz⟩:=I.list hS
 obtain ⟨w,ew,rw'⟩:=r.get hv
 have hk:=(List.getElem?_eq_some_iff.mp hv).1
 have hn:=yjo
 exact wpAny_getItem_list pl.isList h0 (by omega) (by simpa using ew) ⟨v,H,I,rw',q⟩
def ybh (ps:List (List Int))(j:Nat):Int:=((ps.filter fun r=>decide (r.getD 0 0=(j:Int))).map fun r=>r.getD 1 0).sum
def yar (n:Nat)(ps:List (List Int)):List Int:=(List.range n).map (ybh ps)
theorem yfr {n:Nat}{ps:List (List Int)}:(yar n ps).length=n:=by unfold yar;rw[List.length_map,List.length_range]
theorem yp6 {n:Nat}:yar n []=List.replicate n 0:=by
 unfold yar
 refine List.ext_getElem (by simp) fun i h1 h2=>?_
 rw[List.getElem_map,List.getElem_replicate];rfl
theorem yjy {ps:List (List Int)}{i:Nat}{a c:Int}(e:ps[i]? = some [a,c])(j:Nat):ybh (ps.take (i+1)) j=if a=(j:Int) then ybh (ps.take i) j+c else ybh (ps.take i) j:=by
 unfold ybh
 rw[yec _ e]
 by_cases z:a=(j:Int)
 ·rw[if_pos z,if_pos (by simpa using z),List.map_append,List.sum_append]
  show _+(c+0)=_
  omega
 ·rw[if_neg z,if_neg (by simpa using z),List.append_nil]
theorem yn1 {n:Nat}{ps:List (List Int)}{i:Nat}{a c:Int}(e:ps[i]? = some [a,c])(h0:0≤a)(h1:a<(n:Int)):yar n (ps.take (i+1))=(yar n (ps.take i)).set a.toNat (ybh (ps.take i) a.toNat+c):=by
 refine List.ext_getElem (by rw[List.length_set,yfr,yfr]) fun j h1' h2'=>?_
 have hj:j<n:=by rw[yfr] at h1';exact h1'
 have g1:∀(qs:List (List Int)) (hh:j<(yar n qs).length),(yar n qs)[j]=ybh qs j:=fun qs hh=>by simp [yar]
 rw[g1,List.getElem_set]
 by_cases z:a.toNat=j
 ·rw[if_pos z,yjy e,if_pos (by omega),z]
 ·rw[if_neg z,g1,yjy e,if_neg (by omega)]
theorem ygy {n:Nat}{ps:List (List Int)}{a:Int}(h0:0≤a)(h1:a<(n:Int)):(yar n ps)[a.toNat]? = some (ybh ps a.toNat):=by
 unfold yar
 rw[List.getElem?_map,List.getElem?_range (by omega)];rfl
def yn2 (c:Addr):Sp:=fun vs H Q E=>∃(a:Addr) (i:Int) (xs:List V),vs=[.ref a,.int i]∧H a=some (.lst xs)∧((0≤i∧i<(xs.length:Int))→Q .non H)∧(¬ (0≤i∧i<(xs.length:Int))→E (.ref c) none H)
def yhq:Sp:=fun vs H Q _=>∃(n:Int) (p:Addr) (ps:List (List Int)),vs=[.int n,.ref p]∧0≤n∧n≤100∧Rows H p ps∧(∀r∈ps,r.length=2∧0≤r.getD 0 0∧r.getD 0 0<n)∧∀l H',H l=none→Same H H'→ya0 H' l (yar n.toNat ps)→Q (.ref l) H'
def ya6 (ts:List (List Int)):List (List Int):=ts.map fun r=>[r.getD 0 0,r.getD 2 0]
def yo7 (n:Nat)(ts:List (List Int)):Prop:=∀r∈ts,0≤r.getD 0 0∧r.getD 0 0<(n:Int)
def ygz (cl:Nat→Addr):Sp:=fun vs H Q E=>∃(a b:Addr) (rs ts:List (List Int)),vs=[.ref a,.ref b]∧Rows H a rs∧(∀r∈rs,r.length=3)∧Rows H b ts∧(∀r∈ts,r.length=3)∧ts.length≤100∧
 (30<rs.length→E (.ref (cl 5)) none H)∧(rs.length≤30→∀j,ybg rs=some j→∀H',Same H H'→E (.ref (yh5 cl j)) none H')∧
 (rs.length≤30→ybg rs=none→(¬ yo7 rs.length ts→∀H',Same H H'→E (.ref (cl 9)) none H')∧(yo7 rs.length ts→∀l H',H l=none→Same H H'→ya0 H' l (yar rs.length (ya6 ts))→Q (.ref l) H'))
end L2
namespace K13
open PySem L2
structure Txt (K:PySem.W.Frag) (mg:Str→Option Value) (cl:Nat→Addr):Prop where
 FIRST_DAY:∃t,mg "FIRST_DAY" = some (.int 1 t)
 LAST_DAY:∃t,mg "LAST_DAY" = some (.int 999 t)
 MOST_TERM:∃t,mg "MOST_TERM" = some (.int 400 t)
 MOST_ROWS:∃t,mg "MOST_ROWS" = some (.int 30 t)
 MOST_COUNT:∃t,mg "MOST_COUNT" = some (.int 10000000000 t)
 MOST_DUTY:∃t,mg "MOST_DUTY" = some (.int 1000000 t)
 gCustomsError:mg "CustomsError" = some (.ref (cl 0))
 gBadDay:mg "BadDay" = some (.ref (cl 1))
 gBadTerm:mg "BadTerm" = some (.ref (cl 2))
 gBadCount:mg "BadCount" = some (.ref (cl 3))
 gBadDuty:mg "BadDuty" = some (.ref (cl 4))
 gBadRows:mg "BadRows" = some (.ref (cl 5))
 gBadTaken:mg "BadTaken" = some (.ref (cl 7))
 gNotDealable:mg "NotDealable" = some (.ref (cl 8))
 gNoPlace:mg "NoPlace" = some (.ref (cl 9))
 eBadDay:PySem.W.excIn K (cl 1) vbm "ValueError.__new__" = true
 eBadTerm:PySem.W.excIn K (cl 2) vbm "ValueError.__new__" = true
 eBadCount:PySem.W.excIn K (cl 3) vbm "ValueError.__new__" = true
 eBadDuty:PySem.W.excIn K (cl 4) vbm "ValueError.__new__" = true
 eBadRows:PySem.W.excIn K (cl 5) vbm "ValueError.__new__" = true
 eBadTaken:PySem.W.excIn K (cl 7) vbm "ValueError.__new__" = true
 eNotDealable:PySem.W.excIn K (cl 8) vbm "ValueError.__new__" = true
 eNoPlace:PySem.W.excIn K (cl 9) vbm "ValueError.__new__" = true
abbrev yfs:Stmt:=top 14
abbrev yu0:List Str:=["day"]
abbrev ygg:List Str:=["day"]
theorem ysp:FnScope yu0 ygg (yaa yfs):=⟨rfl,rfl,rfl,by decide +kernel,rfl,by decide +kernel,by decide +kernel⟩
abbrev ydf:Stmt:=top 15
abbrev yn3:List Str:=["day"]
abbrev yct:List Str:=["day"]
theorem yl5:FnScope yn3 yct (yaa ydf):=⟨rfl,rfl,rfl,by decide +kernel,rfl,by decide +kernel,by decide +kernel⟩
abbrev ycx:Stmt:=top 16
abbrev yl6:List Str:=["term"]
abbrev ycy:List Str:=["term"]
theorem ykl:FnScope yl6 ycy (yaa ycx):=⟨rfl,rfl,rfl,by decide +kernel,rfl,by decide +kernel,by decide +kernel⟩
abbrev ycz:Stmt:=top 22
abbrev yl7:List Str:=["rows"]
abbrev yc0:List Str:=["rows"]
theorem ykm:FnScope yl7 yc0 (yaa ycz):=⟨rfl,rfl,rfl,by decide +kernel,rfl,by decide +kernel,by decide +kernel⟩
abbrev ycf:Stmt:=top 23
abbrev ykn:List Str:=["count"]
abbrev ycg:List Str:=["count"]
theorem yja:FnScope ykn ycg (yaa ycf):=⟨rfl,rfl,rfl,by decide +kernel,rfl,by decide +kernel,by decide +kernel⟩
abbrev yc1:Stmt:=top 24
abbrev yl8:List Str:=["duty"]
abbrev ydp:List Str:=["duty"]
theorem yko:FnScope yl8 ydp (yaa yc1):=⟨rfl,rfl,rfl,by decide +kernel,rfl,by decide +kernel,by decide +kernel⟩
abbrev yb4:Stmt:=top 25
abbrev yjb:List Str:=["lots","told","day","count","duty"]
abbrev yb5:List Str:=["lots"]
theorem sc_checked_lots:FnScope yjb yb5 (yaa yb4):=⟨rfl,rfl,rfl,by decide +kernel,rfl,by decide +kernel,by decide +kernel⟩
abbrev yb6:Stmt:=top 26
abbrev yjc:List Str:=["outs","told","day","count"]
abbrev ycl:List Str:=["outs"]
theorem sc_checked_outs:FnScope yjc ycl (yaa yb6):=⟨rfl,rfl,rfl,by decide +kernel,rfl,by decide +kernel,by decide +kernel⟩
abbrev yf4:Stmt:=top 32
abbrev ysq:List Str:=["outs","term","stretch","first","last"]
abbrev yh6:List Str:=["outs","term","stretch"]
theorem sc_going:FnScope ysq yh6 (yaa yf4):=⟨rfl,rfl,rfl,by decide +kernel,rfl,by decide +kernel,by decide +kernel⟩
abbrev ych:Stmt:=top 41
abbrev ykp:List Str:=["rows","at"]
abbrev yc6:List Str:=["rows","at"]
theorem yjd:FnScope ykp yc6 (yaa ych):=⟨rfl,rfl,rfl,by decide +kernel,rfl,by decide +kernel,by decide +kernel⟩
abbrev yft:Stmt:=top 47
abbrev yu1:List Str:=["many","pairs","told","at","count"]
abbrev yfu:List Str:=["many","pairs"]
theorem sc_summed:FnScope yu1 yfu (yaa yft):=⟨rfl,rfl,rfl,by decide +kernel,rfl,by decide +kernel,by decide +kernel⟩
abbrev ycu:Stmt:=top 50
abbrev yh7:List Str:=["lots","rows","goods","lot","out","count"]
abbrev yed:List Str:=["lots","rows"]
theorem sc_counts_of:FnScope yh7 yed (yaa ycu):=⟨rfl,rfl,rfl,by decide +kernel,rfl,by decide +kernel,by decide +kernel⟩
section
variable {P:Program}{w:World}{K:PySem.W.Frag}{mg:Str→Option Value}{base:Heap}{f:Addr}{fd:FuncData}{cl:Nat→Addr}(T:Txt K mg cl)(B:Bn mg)
include T B
theorem ysr (F:Fun K "is_day" "is_day" yfs f fd):FnOk P w K mg base CX0 1 f fd ygg ynv:=by
 refine F.ok ysp (fun vs H Q E h=>?_) (fun cdv A outer s H vs Q E hr h=>?_)
 ·obtain ⟨d,rfl,_⟩:=h;rfl
 obtain ⟨d,rfl,q⟩:=h
 refine⟨_,(yai (yaw (yor yd7 yd7 (yh2 rfl T.FIRST_DAY) (pv 0) (yh2 rfl T.LAST_DAY)))),?_⟩
 refine⟨_,rfl,_,_,rfl,rfl,_,rfl,?_⟩
 refine yym (fun c=>?_) (fun c=>?_)
 ·have c1:(1:Int)≤d:=of_decide_eq_true c
  refine⟨_,_,rfl,rfl,?_⟩
  have e:decide (d≤999)=decide (inB d 999):=by by_cases z:d≤999 <;> simp [z,c1,inB]
  show Q (.bl (decide (d≤999))) H
  rw[e];exact q
 ·have c1:¬ (1:Int)≤d:=of_decide_eq_false (Bool.eq_false_iff.mpr c)
  have e:false=decide (inB d 999):=by simp [inB,c1]
  show Q (.bl false) H
  rw[e];exact q
theorem yl9 (G_is_day:Cal P w K mg base CX0 1 "is_day" ygg ynv) (F:Fun K "check_day" "check_day" ydf f fd):FnOk P w K mg base (CXE P w) 2 f fd yct (yq4 (cl 1) 999):=by
 refine F.okE yl5 (fun vs H Q E h=>?_) (fun cdv A outer s H vs Q E hr h=>?_)
 ·obtain ⟨d,rfl,_⟩:=h;rfl
 obtain ⟨d,rfl,q1,q2⟩:=h
 refine⟨_,yai (ydn (ye9 (yek (yan G_is_day hr rfl ya9 (yal (pv 0) yac)) (fun _=>rfl))) (yai (ydz (E:=E) rfl T.gBadDay T.eBadDay PySem.F.excBase_ValueError rfl yf9 (yal yf8 yac))) ybb),?_⟩
 refine⟨_,rfl,d,rfl,_,rfl,?_⟩
 by_cases c:inB d 999
 ·rw[decide_eq_true c]
  exact ycq (q1 c)
 ·rw[decide_eq_false c]
  exact yeh ⟨by show 1≤sizeLine;decide,q2 c⟩
theorem ykq (F:Fun K "check_term" "check_term" ycx f fd):FnOk P w K mg base (CXE P w) 2 f fd ycy (yo5 (cl 2)):=by
 refine F.okE ykl (fun vs H Q E h=>?_) (fun cdv A outer s H vs Q E hr h=>?_)
 ·obtain ⟨d,rfl,_⟩:=h;rfl
 obtain ⟨d,rfl,q1,q2⟩:=h
 refine⟨_,(yai (ydn (ye9 (ydj yd7 yd7 yaj (pv 0) (yh2 rfl T.MOST_TERM))) (yai (ydz (E:=E) rfl T.gBadTerm T.eBadTerm PySem.F.excBase_ValueError rfl yf9 (yal yf8 yac))) ybb)),?_⟩
 refine⟨_,rfl,?_⟩
 refine yuz (lo:=0) (v:=d) (hi:=400) ?_
 by_cases c:ye5 d
 ·rw[decide_eq_true c]
  exact ycq (q1 c)
 ·rw[decide_eq_false c]
  exact yeh ⟨by show 1≤sizeLine;decide,q2 c⟩
theorem ykr (F:Fun K "check_many" "check_many" ycz f fd):FnOk P w K mg base (CXE P w) 2 f fd yc0 (yo2 (cl 5)):=by
 refine F.okE ykm (fun vs H Q E h=>?_) (fun cdv A outer s H vs Q E hr h=>?_)
 ·obtain ⟨a,xs,rfl,_⟩:=h;rfl
 obtain ⟨a,xs,rfl,ha,q1,q2⟩:=h
 refine⟨_,(yai (ydn (ybm yw5 (yao yau rfl B.len PySem.boot_len (yal (pv 0) yac)) (yh2 rfl T.MOST_ROWS) (ybs _)) (yai (ydz (E:=E) rfl T.gBadRows T.eBadRows PySem.F.excBase_ValueError rfl yf9 (yal yf8 yac))) ybb)),?_⟩
 refine⟨_,rfl,a,_,rfl,.inl (SqL.of ha),_,_,rfl,rfl,_,rfl,?_⟩
 by_cases c:(30:Int)<xs.length
 ·rw[decide_eq_true c]
  exact yeh ⟨by show 1≤sizeLine;decide,q2 (by omega)⟩
 ·rw[decide_eq_false c]
  exact ycq (q1 (by omega))
theorem yje (F:Fun K "check_count" "check_count" ycf f fd):FnOk P w K mg base (CXE P w) 2 f fd ycg (yq4 (cl 3) 10000000000):=by
 refine F.okE yja (fun vs H Q E h=>?_) (fun cdv A outer s H vs Q E hr h=>?_)
 ·obtain ⟨d,rfl,_⟩:=h;rfl
 obtain ⟨d,rfl,q1,q2⟩:=h
 refine⟨_,(yai (ydn (ye9 (ydj yd7 yd7 yaj (pv 0) (yh2 rfl T.MOST_COUNT))) (yai (ydz (E:=E) rfl T.gBadCount T.eBadCount PySem.F.excBase_ValueError rfl yf9 (yal yf8 yac))) ybb)),?_⟩
 refine⟨_,rfl,?_⟩
 refine yo3 (v:=d) (hi:=10000000000) ?_
 by_cases c:inB d 10000000000
 ·rw[decide_eq_true c]
  exact ycq (q1 c)
 ·rw[decide_eq_false c]
  exact yeh ⟨by show 1≤sizeLine;decide,q2 c⟩
theorem yks (F:Fun K "check_duty" "check_duty" yc1 f fd):FnOk P w K mg base (CXE P w) 2 f fd ydp (yq4 (cl 4) 1000000):=by
 refine F.okE yko (fun vs H Q E h=>?_) (fun cdv A outer s H vs Q E hr h=>?_)
 ·obtain ⟨d,rfl,_⟩:=h;rfl
 obtain ⟨d,rfl,q1,q2⟩:=h
 refine⟨_,(yai (ydn (ye9 (ydj yd7 yd7 yaj (pv 0) (yh2 rfl T.MOST_DUTY))) (yai (ydz (E:=E) rfl T.gBadDuty T.eBadDuty PySem.F.excBase_ValueError rfl yf9 (yal yf8 yac))) ybb)),?_⟩
 refine⟨_,rfl,?_⟩
 refine yo3 (v:=d) (hi:=1000000) ?_
 by_cases c:inB d 1000000
 ·rw[decide_eq_true c]
  exact ycq (q1 c)
 ·rw[decide_eq_false c]
  exact yeh ⟨by show 1≤sizeLine;decide,q2 c⟩
theorem yh8 (G_check_many:Cal P w K mg base (CXE P w) 2 "check_many" yc0 (yo2 (cl 5))) (G_check_day:Cal P w K mg base (CXE P w) 2 "check_day" yct (yq4 (cl 1) 999)) (G_check_count:Cal P w K mg base (CXE P w) 2 "check_count" ycg (yq4 (cl 3) 10000000000)) (G_check_duty:Cal P w K mg base (CXE P w) 2 "check_duty" ydp (yq4 (cl 4) 1000000)) (F:Fun K "checked_lots" "checked_lots" yb4 f fd):FnOk P w K mg base (CXE P w) 3 f fd yb5 (ynw (cl 5) (yh5 cl) 3):=by
 refine F.okE sc_checked_lots (fun vs H Q E h=>?_) (fun cdv A outer s H vs Q E hr h=>?_)
 ·obtain ⟨a,rs,rfl,_⟩:=h;rfl
 obtain ⟨a,rs,rfl,hR,h3,q1,q2,q3⟩:=h
 refine⟨_,(yad (yb9 (yan (E:=E) G_check_many hr rfl (yez fun _ _ z=>z) (yal (pv 0) yac)))
  (yad (ya2 (i:=1) sc_checked_lots.nd rfl (Or.inl rfl) (yf1 yac))
  (yad (yei PassesOwn.leaving rfl (ybd (pv 0)) (ya4 rfl (yaf (yah (i:=2) sc_checked_lots.nd rfl (Or.inl rfl)) (yaf (yah (i:=3) sc_checked_lots.nd rfl (Or.inl rfl)) (yaf (yah (i:=4) sc_checked_lots.nd rfl (Or.inl rfl)) yay)))) (yad (yb9 (yan (E:=E) G_check_day hr rfl (yez fun _ _ z=>z) (yal (pv 2) yac)))
   (yad (yb9 (yan (E:=E) G_check_count hr rfl (yez fun _ _ z=>z) (yal (pv 3) yac)))
   (yad (yb9 (yan (E:=E) G_check_duty hr rfl (yez fun _ _ z=>z) (yal (pv 4) yac)))
   (yai (yb9 (yno PySem.F.plainAttrs_list PySem.F.slot_list_append PySem.F.type_list_append yd8 (pv 1) (yal (yb0 (yal (pv 2) (yal (pv 3) (yal (pv 4) yac)))) yac))))))))
  (yai (yaw (pv 1)))))),?_⟩
 obtain ⟨xs,ex,exl,exi⟩:=hR.get
 refine⟨_,rfl,a,xs,rfl,ex,fun c=>?_,fun c=>q1 (by omega)⟩
 have c30:rs.length≤30:=by omega
 refine⟨by show 0≤sizeLine;decide,fun l hl=>?_⟩
 refine⟨_,rfl,a,rfl,⟨xs,SqL.of (by rw[yak (yam ex hl)];exact ex)⟩,?_⟩
 refine yej (xs:=xs) (fun i σ H3=>∃o2 o3 o4,σ=[some (.ref a),some (.ref l),o2,o3,o4]∧Same H H3∧Rows H3 l (rs.take i)∧ybg (rs.take i)=none) ⟨_,_,_,rfl,yae hl _,Rows.nil yab,rfl⟩ ?_ ?_ ?_
 ·rintro i σ H3 hi ⟨o2,o3,o4,rfl,sm,_⟩
  exact SqL.of (sm _ _ ex)
 ·rintro i x σ H3 exi' ⟨o2,o3,o4,rfl,sm,R3,hb⟩
  obtain ⟨p,r,rfl,er,hp⟩:=exi i x exi'
  obtain ⟨d,c,u,rfl⟩:=ynx (h3 r (List.mem_of_getElem? er))
  refine⟨p,_,rfl,SqT.of (sm _ _ hp),rfl,_,_,rfl,_,_,rfl,_,_,rfl,rfl,?_⟩
  have bad:∀j,ydo [d,c,u]=some j→E (.ref (yh5 cl j)) none H3:=fun j e=>q2 c30 j (yh3 hb er e) H3 sm
  refine⟨_,rfl,d,rfl,fun c1=>?_,fun c1=>bad 0 (by simp only[ydo,if_neg c1])⟩
  refine⟨_,rfl,c,rfl,fun c2=>?_,fun c2=>bad 1 (by simp only[ydo,if_pos c1,if_neg c2])⟩
  refine⟨_,rfl,u,rfl,fun c3=>?_,fun c3=>bad 2 (by simp only[ydo,if_pos c1,if_pos c2,if_neg c3])⟩
  have good:ydo [d,c,u]=none:=by simp only[ydo,if_pos c1,if_pos c2,if_pos c3]
  obtain ⟨ys,ey,eyl,_⟩:=R3.get
  refine⟨_,rfl,.inl ⟨rfl,_,SqL.of ey⟩,?_⟩
  refine⟨_,rfl,_,rfl,_,rfl,by show 3≤sizeLine;decide,fun t ht=>?_⟩
  refine⟨l,ys,.ref t,rfl,rfl,by rw[yak (yam ey ht)];exact ey,yas (by rw[eyl,List.length_take];omega),?_⟩
  refine⟨_,_,_,rfl,(sm.trans (yae ht _)).young hl,?_,yhd hb er good⟩
  rw[← yeo er]
  exact R3.push (r:=[d,c,u]) ey ht
 ·rintro σ H3 ⟨o2,o3,o4,rfl,sm,R3,hb⟩
  rw[exl,List.take_length] at R3 hb
  exact⟨_,rfl,q3 c30 hb l H3 hl sm R3⟩
theorem yh9 (G_check_many:Cal P w K mg base (CXE P w) 2 "check_many" yc0 (yo2 (cl 5))) (G_check_day:Cal P w K mg base (CXE P w) 2 "check_day" yct (yq4 (cl 1) 999)) (G_check_count:Cal P w K mg base (CXE P w) 2 "check_count" ycg (yq4 (cl 3) 10000000000)) (F:Fun K "checked_outs" "checked_outs" yb6 f fd):FnOk P w K mg base (CXE P w) 3 f fd ycl (ynw (cl 5) (yh5 cl) 2):=by
 refine F.okE sc_checked_outs (fun vs H Q E h=>?_) (fun cdv A outer s H vs Q E hr h=>?_)
 ·obtain ⟨a,rs,rfl,_⟩:=h;rfl
 obtain ⟨a,rs,rfl,hR,h3,q1,q2,q3⟩:=h
 refine⟨_,(yad (yb9 (yan (E:=E) G_check_many hr rfl (yez fun _ _ z=>z) (yal (pv 0) yac)))
  (yad (ya2 (i:=1) sc_checked_outs.nd rfl (Or.inl rfl) (yf1 yac))
  (yad (yei PassesOwn.leaving rfl (ybd (pv 0)) (ya4 rfl (yaf (yah (i:=2) sc_checked_outs.nd rfl (Or.inl rfl)) (yaf (yah (i:=3) sc_checked_outs.nd rfl (Or.inl rfl)) yay))) (yad (yb9 (yan (E:=E) G_check_day hr rfl (yez fun _ _ z=>z) (yal (pv 2) yac)))
   (yad (yb9 (yan (E:=E) G_check_count hr rfl (yez fun _ _ z=>z) (yal (pv 3) yac)))
   (yai (yb9 (yno PySem.F.plainAttrs_list PySem.F.slot_list_append PySem.F.type_list_append yd8 (pv 1) (yal (yb0 (yal (pv 2) (yal (pv 3) yac))) yac)))))))
  (yai (yaw (pv 1)))))),?_⟩
 obtain ⟨xs,ex,exl,exi⟩:=hR.get
 refine⟨_,rfl,a,xs,rfl,ex,fun c=>?_,fun c=>q1 (by omega)⟩
 have c30:rs.length≤30:=by omega
 refine⟨by show 0≤sizeLine;decide,fun l hl=>?_⟩
 refine⟨_,rfl,a,rfl,⟨xs,SqL.of (by rw[yak (yam ex hl)];exact ex)⟩,?_⟩
 refine yej (xs:=xs) (fun i σ H3=>∃o2 o3,σ=[some (.ref a),some (.ref l),o2,o3]∧Same H H3∧Rows H3 l (rs.take i)∧ybg (rs.take i)=none) ⟨_,_,rfl,yae hl _,Rows.nil yab,rfl⟩ ?_ ?_ ?_
 ·rintro i σ H3 hi ⟨o2,o3,rfl,sm,_⟩
  exact SqL.of (sm _ _ ex)
 ·rintro i x σ H3 exi' ⟨o2,o3,rfl,sm,R3,hb⟩
  obtain ⟨p,r,rfl,er,hp⟩:=exi i x exi'
  obtain ⟨d,c,rfl⟩:=yyn (h3 r (List.mem_of_getElem? er))
  refine⟨p,_,rfl,SqT.of (sm _ _ hp),rfl,_,_,rfl,_,_,rfl,rfl,?_⟩
  have bad:∀j,ydo [d,c]=some j→E (.ref (yh5 cl j)) none H3:=fun j e=>q2 c30 j (yh3 hb er e) H3 sm
  refine⟨_,rfl,d,rfl,fun c1=>?_,fun c1=>bad 0 (by simp only[ydo,if_neg c1])⟩
  refine⟨_,rfl,c,rfl,fun c2=>?_,fun c2=>bad 1 (by simp only[ydo,if_pos c1,if_neg c2])⟩
  have good:ydo [d,c]=none:=by simp only[ydo,if_pos c1,if_pos c2]
  obtain ⟨ys,ey,eyl,_⟩:=R3.get
  refine⟨_,rfl,.inl ⟨rfl,_,SqL.of ey⟩,?_⟩
  refine⟨_,rfl,_,rfl,by show 2≤sizeLine;decide,fun t ht=>?_⟩
  refine⟨l,ys,.ref t,rfl,rfl,by rw[yak (yam ey ht)];exact ey,yas (by rw[eyl,List.length_take];omega),?_⟩
  refine⟨_,_,rfl,(sm.trans (yae ht _)).young hl,?_,yhd hb er good⟩
  rw[← yeo er]
  exact R3.push (r:=[d,c]) ey ht
 ·rintro σ H3 ⟨o2,o3,rfl,sm,R3,hb⟩
  rw[exl,List.take_length] at R3 hb
  exact⟨_,rfl,q3 c30 hb l H3 hl sm R3⟩
theorem yu2 (F:Fun K "going" "going" yf4 f fd):FnOk P w K mg base CX0 1 f fd yh6 ykk:=by
 refine F.ok sc_going (fun vs H Q E h=>?_) (fun cdv A outer s H vs Q E hr h=>?_)
 ·obtain ⟨a,p,tm,f,l,rs,rfl,_⟩:=h;rfl
 obtain ⟨a,p,tm,ff,l,rs,rfl,hR,h2,hn,hp,q⟩:=h
 refine⟨_,(yad (yc4 (pv 2) (ya4 rfl (yaf (yah (i:=3) sc_going.nd rfl (Or.inr rfl)) (yaf (yah (i:=4) sc_going.nd rfl (Or.inr rfl)) yay))))
  (yai (yaw (yao (ysl rfl) rfl B.sum PyProof.Rows.boot_sum (yal (yem (N':=["day","count","first","last","term"]) (ix:=[none,none,some 3,some 4,some 1]) (g:=(ylk K 2 (ybw (ybc 0) (ybw (ybc 1) ylj)))) (ti:=(yrh (yoq (rI0 fun i j=>.bl (decide (i≤j))) (rI0 fun i j=>.bl (decide (i≤j))) (yck 2) (yck 0) (tOp (rI0 fun i j=>.int (i+j)) (yck 3) (yck 4))))) (te:=(yck 1)) rfl (yav (N:=ysq) (D:=yaa yf4) (by decide +kernel)) (ybd (pv 0)) (fun C s H fp=>(ya4 rfl (yaf (yah (i:=0) (show (["day","count","first","last","term"]:List Str).Nodup by decide +kernel) rfl (Or.inl rfl)) (yaf (yah (i:=1) (show (["day","count","first","last","term"]:List Str).Nodup by decide +kernel) rfl (Or.inl rfl)) yay)))) (fun C s H fp=>(yhp (ydj yd7 yd7 (pv 2) (pv 0) (yb1 ydx (pv 3) (pv 4))))) (fun C s H fp=>(pv 1))) yac))))),?_⟩
 obtain ⟨xs,ex,exl,exi⟩:=hR.get
 refine⟨_,rfl,p,_,rfl,SqT.of hp,rfl,_,_,rfl,_,_,rfl,rfl,?_⟩
 refine⟨_,rfl,a,rfl,⟨xs,SqL.of ex⟩,fun D hD=>⟨fun i m H3=>i+m=xs.length∧Same H H3∧H3 D=some (.lst ((((rs.take i).filter (yi9 tm ff l)).map fun r=>r.getD 1 0).map V.int)),⟨xs.length,by omega,yae hD _,yab⟩,?_⟩⟩
 rintro i m H3 ⟨him,s3,hD3⟩
 have ex3:=s3 _ _ ex
 by_cases hi:i<xs.length
 ·refine .inr ⟨⟨xs,_,SqL.of ex3,List.getElem?_eq_getElem hi⟩,?_⟩
  rintro x H' ⟨rfl,hx⟩
  obtain ⟨pr,r,rfl,er,hpr⟩:=exi i x (hx _ (SqL.of ex3))
  obtain ⟨d,cc,rfl⟩:=yyn (h2 r (List.mem_of_getElem? er))
  refine⟨pr,_,rfl,SqT.of (s3 _ _ hpr),rfl,_,_,rfl,_,_,rfl,rfl,?_,?_⟩
  ·intro k v e
   match k,e with
   |0,e=>cases e
   |1,e=>cases e
   |2,e=>exact e
   |3,e=>exact e
   |4,e=>exact e
   |k+5,e=>cases e
  ·have ft:=yec (rs:=rs) (yi9 tm ff l) er
   have gb:yi9 tm ff l [d,cc]=decide (ff≤d∧d≤l+tm):=rfl
   refine⟨_,rfl,_,rfl,_,_,rfl,rfl,_,rfl,?_⟩
   have yes:(ff≤d∧d≤l+tm)→∃zs,H' D=some (.lst zs)∧zs.length<sizeLine∧∃m',m' < m∧(i+1+m'=xs.length∧Same H (L2.upd H' D (.lst (zs++[.int cc])))∧L2.upd H' D (.lst (zs++[.int cc])) D=some (.lst ((((rs.take (i+1)).filter (yi9 tm ff l)).map fun r=>r.getD 1 0).map V.int))):=fun z=>by
    refine⟨_,hD3,yas ?_,m-1,by omega,by omega,s3.young hD,?_⟩
    ·rw[List.length_map,List.length_map]
     have l1:=List.length_filter_le (yi9 tm ff l) (rs.take i)
     rw[List.length_take] at l1
     omega
    ·rw[yab,ft,if_pos (by rw[gb];exact decide_eq_true z),List.map_append,List.map_append];rfl
   have no:¬ (ff≤d∧d≤l+tm)→∃m',m' < m∧(i+1+m'=xs.length∧Same H H'∧H' D=some (.lst ((((rs.take (i+1)).filter (yi9 tm ff l)).map fun r=>r.getD 1 0).map V.int))):=fun z=>by
    refine⟨m-1,by omega,by omega,s3,?_⟩
    rw[ft,if_neg (by rw[gb];intro y;exact z (of_decide_eq_true y)),List.append_nil]
    exact hD3
   by_cases c1:ff≤d
   ·rw[decide_eq_true c1]
    refine yeh ⟨_,rfl,_,rfl,_,_,rfl,rfl,_,_,rfl,rfl,_,rfl,?_⟩
    by_cases c2:d≤l+tm
    ·rw[decide_eq_true c2]
     exact yeh ⟨_,rfl,yes ⟨c1,c2⟩⟩
    ·rw[decide_eq_false c2]
     exact ycq (no fun z=>c2 z.2)
   ·rw[decide_eq_false c1]
    exact ycq ⟨_,rfl,ycq (no fun z=>c1 z.1)⟩
 ·refine .inl ⟨⟨xs,SqL.of ex3,by omega⟩,D,((rs.take i).filter (yi9 tm ff l)).map fun r=>r.getD 1 0,rfl,SqL.of hD3,?_⟩
  have ei:rs.take i=rs:=List.take_of_length_le (by omega)
  rw[ei]
  exact q H3 s3
theorem yjf (F:Fun K "check_place" "check_place" ych f fd):FnOk P w K mg base (CXE P w) 2 f fd yc6 (yn2 (cl 9)):=by
 refine F.okE yjd (fun vs H Q E h=>?_) (fun cdv A outer s H vs Q E hr h=>?_)
 ·obtain ⟨a,i,xs,rfl,_⟩:=h;rfl
 obtain ⟨a,i,xs,rfl,ha,q1,q2⟩:=h
 refine⟨_,(yai (ydn (ye9 (ydj yd7 yi6 yaj (pv 1) (yao yau rfl B.len PySem.boot_len (yal (pv 0) yac)))) (yai (ydz (E:=E) rfl T.gNoPlace T.eNoPlace PySem.F.excBase_ValueError rfl yf9 (yal yf8 yac))) ybb)),?_⟩
 refine⟨_,rfl,_,_,rfl,rfl,_,rfl,?_⟩
 by_cases c1:0≤i
 ·rw[decide_eq_true c1]
  refine yeh ⟨_,rfl,a,_,rfl,.inl (SqL.of ha),_,_,rfl,rfl,_,rfl,?_⟩
  by_cases c2:i<(xs.length:Int)
  ·rw[decide_eq_true c2]
   exact ycq (q1 ⟨c1,c2⟩)
  ·rw[decide_eq_false c2]
   exact yeh ⟨by show 1≤sizeLine;decide,q2 fun z=>c2 z.2⟩
 ·rw[decide_eq_false c1]
  exact ycq ⟨_,rfl,yeh ⟨by show 1≤sizeLine;decide,q2 fun z=>c1 z.1⟩⟩
theorem yss (F:Fun K "summed" "summed" yft f fd):FnOk P w K mg base CX0 1 f fd yfu yhq:=by
 refine F.ok sc_summed (fun vs H Q E h=>?_) (fun cdv A outer s H vs Q E hr h=>?_)
 ·obtain ⟨n,p,ps,rfl,_⟩:=h;rfl
 obtain ⟨n,p,ps,rfl,n0,n1,hR,hps,q⟩:=h
 refine⟨_,(yad (ya2 (i:=2) sc_summed.nd rfl (Or.inl rfl) (yb1 yrv (yf1 (yal yaj yac)) (pv 0)))
  (yad (yei PassesOwn.never rfl (ybd (pv 1)) (ya4 rfl (yaf (yah (i:=3) sc_summed.nd rfl (Or.inl rfl)) (yaf (yah (i:=4) sc_summed.nd rfl (Or.inl rfl)) yay))) (yai (yra (pv 2) (pv 3) yo6 (pv 4) yyw ycp)))
  (yai (yaw (pv 2))))),?_⟩
 obtain ⟨xs,ex,exl,exi⟩:=hR.get
 refine⟨by show 1≤sizeLine;decide,fun z hz=>⟨_,rfl,z,n,_,rfl,rfl,yab,by omega,by omega,?_,fun l hl=>?_⟩⟩
 ·show 1*n.toNat≤sizeLine
  exact Nat.le_of_lt (yas (by omega))
 have s1:=(yae (H:=H) hz (.lst [.int 0])).trans (yae hl (.lst (List.replicate n.toNat [V.int 0]).flatten))
 have hl0:H l=none:=(yae (H:=H) hz (.lst [.int 0])).free hl
 have e1:L2.upd (L2.upd H z (.lst [.int 0])) l (.lst (List.replicate n.toNat [V.int 0]).flatten) l=some (.lst ((yar n.toNat (ps.take 0)).map V.int)):=by
  rw[yab,List.take_zero,yp6,List.map_replicate]
  congr 2
  induction n.toNat with
  |zero=>rfl
  |succ k ih=>rw[List.replicate_succ,List.flatten_cons,ih];rfl
 generalize L2.upd (L2.upd H z (.lst [.int 0])) l (.lst (List.replicate n.toNat [V.int 0]).flatten)=H1 at s1 e1 ⊢
 refine⟨_,rfl,p,rfl,⟨xs,SqL.of (s1 _ _ ex)⟩,?_⟩
 refine yej (xs:=xs) (fun i σ H3=>∃o3 o4,σ=[some (.int n),some (.ref p),some (.ref l),o3,o4]∧Same H H3∧H3 l=some (.lst ((yar n.toNat (ps.take i)).map V.int))) ⟨_,_,rfl,s1,e1⟩ ?_ ?_ ?_
 ·rintro i σ H3 hi ⟨o3,o4,rfl,sm,_⟩
  exact SqL.of (sm _ _ ex)
 ·rintro i x σ H3 exi' ⟨o3,o4,rfl,sm,e3⟩
  obtain ⟨pr,r,rfl,er,hpr⟩:=exi i x exi'
  obtain ⟨r2,r0,rn⟩:=hps r (List.mem_of_getElem? er)
  obtain ⟨a,c,rfl⟩:=yyn r2
  have a0:0≤a:=r0
  have an:a<(n.toNat:Int):=by have:a<n:=rn;omega
  refine⟨pr,_,rfl,SqT.of (sm _ _ hpr),rfl,_,_,rfl,_,_,rfl,rfl,?_⟩
  refine⟨_,rfl,_,rfl,l,_,a,.int (ybh (ps.take i) a.toNat),rfl,rfl,SqL.of e3,a0,by rw[List.getElem?_map,ygy a0 an];rfl,_,rfl,_,_,rfl,rfl,?_⟩
  refine⟨l,_,a,a.toNat,rfl,rfl,e3,by unfold ixN;rw[List.length_map,yfr,if_pos a0,if_pos an],?_⟩
  refine⟨_,_,rfl,sm.young hl0,?_⟩
  rw[yab,yn1 er a0 an,List.map_set]
 ·rintro σ H3 ⟨o3,o4,rfl,sm,e3⟩
  rw[exl,List.take_length] at e3
  exact⟨_,rfl,q l H3 hl0 sm e3⟩
theorem yma (G_checked_lots:Cal P w K mg base (CXE P w) 3 "checked_lots" yb5 (ynw (cl 5) (yh5 cl) 3)) (G_check_place:Cal P w K mg base (CXE P w) 2 "check_place" yc6 (yn2 (cl 9))) (G_summed:Cal P w K mg base CX0 1 "summed" yfu yhq) (F:Fun K "counts_of" "counts_of" ycu f fd):FnOk P w K mg base (CXE P w) 4 f fd yed (ygz cl):=by
 refine F.okE sc_counts_of (fun vs H Q E h=>?_) (fun cdv A outer s H vs Q E hr h=>?_)
 ·obtain ⟨a,b,rs,ts,rfl,_⟩:=h;rfl
 obtain ⟨a,b,rs,ts,rfl,hR,h3,hT,t3,tn,q1,q2,q3⟩:=h
 refine⟨_,(yad (ya2 (i:=2) sc_counts_of.nd rfl (Or.inl rfl) (yan (E:=E) G_checked_lots hr rfl (yez fun _ _ z=>z) (yal (pv 0) yac)))
  (yad (yei PassesOwn.leaving rfl (ybd (pv 1)) (ya4 rfl (yaf (yah (i:=3) sc_counts_of.nd rfl (Or.inl rfl)) (yaf (yah (i:=4) sc_counts_of.nd rfl (Or.inl rfl)) (yaf (yah (i:=5) sc_counts_of.nd rfl (Or.inl rfl)) yay)))) (yai (yb9 (yan (E:=E) G_check_place hr rfl (yez fun _ _ z=>z) (yal (pv 2) (yal (pv 3) yac))))))
  (yai (yaw (yan G_summed hr rfl ya9 (yal (yao yau rfl B.len PySem.boot_len (yal (pv 2) yac)) (yal (yem (N':=["lot","out","count"]) (ix:=[none,none,none]) (g:=(ylk K 3 (ybw (ybc 0) (ybw (ybc 1) (ybw (ybc 2) ylj))))) (ti:=yho) (te:=(yrn (ybp (yck 0) (ybp (yck 2) yhw)))) rfl (yav (N:=yh7) (D:=yaa ycu) (by decide +kernel)) (ybd (pv 1)) (fun C s H fp=>(ya4 rfl (yaf (yah (i:=0) (show (["lot","out","count"]:List Str).Nodup by decide +kernel) rfl (Or.inl rfl)) (yaf (yah (i:=1) (show (["lot","out","count"]:List Str).Nodup by decide +kernel) rfl (Or.inl rfl)) (yaf (yah (i:=2) (show (["lot","out","count"]:List Str).Nodup by decide +kernel) rfl (Or.inl rfl)) yay))))) (fun C s H fp=>ybo) (fun C s H fp=>(yb0 (yal (pv 0) (yal (pv 2) yac))))) yac))))))),?_⟩
 obtain ⟨xs,ex,exl,exi⟩:=hT.get
 refine⟨_,rfl,a,rs,rfl,hR,h3,q1,q2,fun hn hb g H1 hg s1 R1=>?_⟩
 obtain ⟨q4,q5⟩:=q3 hn hb
 obtain ⟨gs,eg,egl,_⟩:=R1.get
 refine⟨_,rfl,b,rfl,⟨xs,SqL.of (s1 _ _ ex)⟩,?_⟩
 refine yej (xs:=xs) (fun i σ H3=>∃o3 o4 o5,σ=[some (.ref a),some (.ref b),some (.ref g),o3,o4,o5]∧H3=H1∧yo7 rs.length (ts.take i)) ⟨_,_,_,rfl,rfl,fun r hr=>by cases hr⟩ ?_ ?_ ?_
 ·rintro i σ H3 hi ⟨o3,o4,o5,rfl,rfl,_⟩
  exact SqL.of (s1 _ _ ex)
 ·rintro i x σ H3 exi' ⟨o3,o4,o5,rfl,rfl,hin⟩
  obtain ⟨pr,r,rfl,er,hpr⟩:=exi i x exi'
  obtain ⟨lt,ot,ct,rfl⟩:=ynx (t3 r (List.mem_of_getElem? er))
  refine⟨pr,_,rfl,SqT.of (s1 _ _ hpr),rfl,_,_,rfl,_,_,rfl,_,_,rfl,rfl,?_⟩
  refine⟨_,rfl,_,rfl,g,lt,gs,rfl,eg,fun c1=>⟨_,_,_,rfl,rfl,fun r hr=>?_⟩,fun c1=>q4 (fun z=>c1 ?_) _ s1⟩
  ·obtain ⟨hi,e'⟩:=List.getElem?_eq_some_iff.mp er
   rw[List.take_succ_eq_append_getElem hi] at hr
   rcases List.mem_append.mp hr with z|z
   ·exact hin r z
   ·rw[List.mem_singleton.mp z,e']
    rw[egl] at c1
    exact c1
  ·rw[egl]
   exact z _ (List.mem_of_getElem? er)
 ·rintro σ H3 ⟨o3,o4,o5,rfl,rfl,hin⟩
  rw[exl,List.take_length] at hin
  refine⟨_,rfl,g,_,rfl,.inl (SqL.of eg),_,rfl,b,rfl,⟨xs,SqL.of (s1 _ _ ex)⟩,fun D hD=>⟨fun i m H4=>i+m=xs.length∧Same H3 H4∧Rows H4 D (ya6 (ts.take i)),⟨xs.length,by omega,yae hD _,Rows.nil yab⟩,?_⟩⟩
  rintro i m H4 ⟨him,s4,R4⟩
  have ex4:=s4 _ _ (s1 _ _ ex)
  by_cases hi:i<xs.length
  ·refine .inr ⟨⟨xs,_,SqL.of ex4,List.getElem?_eq_getElem hi⟩,?_⟩
   rintro x H' ⟨rfl,hx⟩
   obtain ⟨pr,r,rfl,er,hpr⟩:=exi i x (hx _ (SqL.of ex4))
   obtain ⟨lt,ot,ct,rfl⟩:=ynx (t3 r (List.mem_of_getElem? er))
   refine⟨pr,_,rfl,SqT.of (s4 _ _ (s1 _ _ hpr)),rfl,_,_,rfl,_,_,rfl,_,_,rfl,rfl,?_,?_⟩
   ·intro k v e
    match k,e with
    |0,e=>cases e
    |1,e=>cases e
    |2,e=>cases e
    |k+3,e=>cases e
   ·refine⟨_,rfl,_,rfl,by show 2≤sizeLine;decide,fun t ht=>?_⟩
    obtain ⟨ys,ey,eyl,_⟩:=R4.get
    refine⟨ys,by rw[yak (yam ey ht)];exact ey,yas (by rw[eyl,ya6,List.length_map,List.length_take];omega),m-1,by omega,by omega,(s4.trans (yae ht _)).young hD,?_⟩
    have e2:ya6 (ts.take (i+1))=ya6 (ts.take i)++[[lt,ct]]:=by
     unfold ya6
     rw[← yeo er,List.map_append];rfl
    rw[e2]
    exact R4.push (r:=[lt,ct]) ey ht
  ·have ei:ts.take i=ts:=List.take_of_length_le (by omega)
   rw[ei] at R4
   refine .inl ⟨⟨xs,SqL.of ex4,by omega⟩,(gs.length:Int),D,ya6 ts,rfl,by omega,by omega,R4,fun r hr=>?_,fun l H5 hl s5 e5=>?_⟩
   ·obtain ⟨r',hr',rfl⟩:=List.mem_map.mp hr
    have:=hin r' hr'
    exact⟨rfl,this.1,by rw[egl];exact this.2⟩
   ·refine q5 hin l H5 ((s1.trans s4).free hl) ((s1.trans s4).trans s5) ?_
    rw[show ((gs.length:Nat):Int).toNat=rs.length by omega] at e5
    exact e5
end
end K13
namespace L2
open PySem PySem.Spec PySem.W PyProof.Rows
section
variable {X:Cx}{a b c d e:Expr}{ta tb tc td te:TE}{pos p2:Pos}
end
theorem ybf {σ₀:St}:∀(k:Nat) v,σ₀[k]? = some (some v)→σ₀[k]? = some (some v):=fun _ _ h=>h
theorem yax {σ₀ σ:St}{j:Nat}{x:Option V}(h:∀(k:Nat) v,σ₀[k]? = some (some v)→σ[k]? = some (some v))(hj:σ₀[j]? = some none):∀(k:Nat) v,σ₀[k]? = some (some v)→(σ.set j x)[k]? = some (some v):=fun k v e=>by
 have:j≠k:=fun z=>by rw[z,e] at hj;cases hj
 rw[List.getElem?_set_ne this]
 exact h k v e
theorem yn4 {K:PySem.W.Frag}{a D:Addr}{xs:List V}{g:TG}{ti:TT}{te:TE}{σ₀:St}{H1:Hp}{R:Hp→Prop}(P:Nat→List V→Hp→Prop)(hD:H1 D=none)(hx:H1 a=some (.lst xs))(hn:xs.length≤1000)
 (st:∀i zs H H',P i zs H→(∀b o,b≠D→H b=some o→H' b=some o)→P i zs H') (h0:P 0 [] H1)
 (step:∀i x zs H,xs[i]? = some x→Same H1 H→P i zs H→∀(K1:V→Hp→Prop) (K2:Hp→Prop),(∀y H4,Same H H4→P (i+1) (zs++[y]) H4→K1 y H4)→(∀H3,Same H H3→P (i+1) zs H3→K2 H3)→
  g x σ₀ H fun σ2 H2=>(∀(k:Nat) v,σ₀[k]? = some (some v)→σ2[k]? = some (some v))∧ti σ2 H2 fun b H3=>if b=true then te σ2 H3 K1 else K2 H3)
 (fin:∀zs H,Same H1 H→P xs.length zs H→zs.length≤xs.length→H D=some (.lst zs)→R H) :
 ∃W:Nat→Nat→Hp→Prop,(∃m,W 0 m (upd H1 D (.lst [])))∧∀i m H,W i m H→((Itl K a).stop i H∧R H)∨((Itl K a).go i H∧∀x H',(Itl K a).yld i H x H'→g x σ₀ H' fun σ2 H2=>(∀(k:Nat) v,σ₀[k]? = some (some v)→σ2[k]? = some (some v))∧ti σ2 H2 fun b H3=>
  if b=true then te σ2 H3 fun y H4=>∃zs,H4 D=some (.lst zs)∧zs.length<sizeLine∧∃m',m' < m∧W (i+1) m' (upd H4 D (.lst (zs++[y]))) else ∃m',m' < m∧W (i+1) m' H3):=by
 refine⟨fun i m H=>i+m=xs.length∧Same H1 H∧∃zs,H D=some (.lst zs)∧zs.length≤i∧P i zs H,⟨xs.length,by omega,yae hD _,[],yab,Nat.le_refl _,st _ _ _ _ h0 fun b o hb e=>by rw[yak hb];exact e⟩,?_⟩
 rintro i m H ⟨him,s1,zs,hz,hl,hp⟩
 have ex:=s1 _ _ hx
 by_cases hi:i<xs.length
 ·refine .inr ⟨⟨xs,_,SqL.of ex,List.getElem?_eq_getElem hi⟩,?_⟩
  rintro x H' ⟨rfl,hy⟩
  refine step i x zs H' (hy _ (SqL.of ex)) s1 hp _ _ (fun y H4 s4 p4=>⟨zs,s4 _ _ hz,yas (by omega),m-1,by omega,by omega,(s1.trans s4).young hD,zs++[y],yab,by rw[List.length_append,List.length_singleton];omega,st _ _ _ _ p4 fun b o hb e=>by rw[yak hb];exact e⟩) fun H3 s3 p3=>⟨m-1,by omega,by omega,s1.trans s3,zs,s3 _ _ hz,by omega,p3⟩
 ·have e:i=xs.length:=by omega
  subst e
  exact .inl ⟨⟨xs,SqL.of ex,Nat.le_refl _⟩,fin zs H s1 hp hl hz⟩
def Tups (H:Hp)(xs:List V)(rs:List (List Int)):Prop:=xs.length=rs.length∧∀(i:Nat) x r,xs[i]? = some x→rs[i]? = some r→∃p,x = .ref p∧H p=some (.tup (r.map V.int))
theorem Tups.nil {H:Hp}:Tups H [] []:=⟨rfl,fun i x r e=>by cases e⟩
theorem Tups.one {H:Hp}{p:Addr}{r:List Int}(h:H p=some (.tup (r.map V.int))):Tups H [.ref p] [r]:=⟨rfl,fun i x r' e1 e2=>by
 match i,e1,e2 with
 |0,e1,e2=>cases e1;cases e2;exact⟨p,rfl,h⟩
 |i+1,e1,_=>cases e1⟩
theorem Tups.append {H:Hp}{xs ys:List V}{rs ts:List (List Int)}(h:Tups H xs rs)(h':Tups H ys ts):Tups H (xs++ys) (rs++ts):=by
 refine⟨by rw[List.length_append,List.length_append,h.1,h'.1],fun i x r e1 e2=>?_⟩
 by_cases hi:i<xs.length
 ·rw[List.getElem?_append_left hi] at e1
  rw[List.getElem?_append_left (by rw[← h.1];exact hi)] at e2
  exact h.2 i x r e1 e2
 ·rw[List.getElem?_append_right (by omega)] at e1
  rw[List.getElem?_append_right (by rw[← h.1];omega),← h.1] at e2
  exact h'.2 _ x r e1 e2
theorem Tups.take {H:Hp}{xs:List V}{rs:List (List Int)}(h:Tups H xs rs)(n:Nat):Tups H (xs.take n) (rs.take n):=by
 refine⟨by rw[List.length_take,List.length_take,h.1],fun i x r e1 e2=>?_⟩
 have hi:i<n:=by have:=(List.getElem?_eq_some_iff.mp e1).1;rw[List.length_take] at this;omega
 rw[List.getElem?_take_of_lt hi] at e1 e2
 exact h.2 i x r e1 e2
theorem Tups.drop {H:Hp}{xs:List V}{rs:List (List Int)}(h:Tups H xs rs)(n:Nat):Tups H (xs.drop n) (rs.drop n):=by
 refine⟨by rw[List.length_drop,List.length_drop,h.1],fun i x r e1 e2=>?_⟩
 rw[List.getElem?_drop] at e1 e2
 exact h.2 _ x r e1 e2
theorem Tups.keep {H H':Hp}{xs:List V}{rs:List (List Int)}(h:Tups H xs rs)(k:∀(p:Addr) (z:List V),H p=some (.tup z)→H' p=some (.tup z)):Tups H' xs rs:=⟨h.1,fun i x r e1 e2=>by
 obtain ⟨p,e,hp⟩:=h.2 i x r e1 e2
 exact⟨p,e,k _ _ hp⟩⟩
theorem Tups.same {H H':Hp}{xs:List V}{rs:List (List Int)}(h:Tups H xs rs)(s:Same H H'):Tups H' xs rs:=h.keep fun _ _ e=>s _ _ e
theorem Tups.but {H H':Hp}{D:Addr}{ys xs:List V}{rs:List (List Int)}(h:Tups H xs rs)(hD:H D=some (.lst ys))(k:∀b o,b≠D→H b=some o→H' b=some o):Tups H' xs rs:=h.keep fun p z e=>k _ _ (yi5 e hD (by intro z;cases z)) e
theorem Tups.at {H:Hp}{xs:List V}{rs:List (List Int)}(h:Tups H xs rs){i:Nat}{x:V}(e:xs[i]? = some x):∃p r,x = .ref p∧rs[i]? = some r∧H p=some (.tup (r.map V.int)):=by
 have hi:=(List.getElem?_eq_some_iff.mp e).1
 have hr:rs[i]? = some (rs[i]'(by rw[← h.1];exact hi)):=List.getElem?_eq_getElem (by rw[← h.1];exact hi)
 obtain ⟨p,e',hp⟩:=h.2 i x _ e hr
 exact⟨p,_,e',hr,hp⟩
theorem Tups.rows {H:Hp}{a:Addr}{xs:List V}{rs:List (List Int)}(h:Tups H xs rs)(ha:H a=some (.lst xs)):Rows H a rs:=by
 obtain ⟨ps,e⟩ : ∃ps:List Addr,xs=ps.map V.ref:=by
  have:∀(xs:List V) (rs:List (List Int)),Tups H xs rs→∃ps:List Addr,xs=ps.map V.ref:=by
   intro xs
   induction xs with
   |nil=>exact fun _ _=>⟨[],rfl⟩
   |cons x r ih=>
    intro rs h
    obtain ⟨p,_,e,_⟩:=h.at (i:=0) rfl
    obtain ⟨ps,e'⟩:=ih (rs.drop 1) (by simpa using h.drop 1)
    exact⟨p::ps,by rw[e,e'];rfl⟩
  exact this xs rs h
 subst e
 refine⟨ps,ha,by rw[← h.1,List.length_map],fun i p r e1 e2=>?_⟩
 obtain ⟨q,e,hq⟩:=h.2 i (.ref p) r (by rw[List.getElem?_map,e1];rfl) e2
 cases e
 exact hq
theorem Rows.tups {H:Hp}{a:Addr}{rs:List (List Int)}(h:Rows H a rs):∃xs,H a=some (.lst xs)∧Tups H xs rs:=by
 obtain ⟨ps,h1,h2,h3⟩:=h
 refine⟨_,h1,by rw[List.length_map,h2],fun i x r e1 e2=>?_⟩
 rw[List.getElem?_map] at e1
 cases q:ps[i]? with
 |none=>rw[q] at e1;cases e1
 |some p=>rw[q] at e1;cases e1;exact⟨p,rfl,h3 i p r q e2⟩
theorem ya7 {α:Type}{rs:List α}{i:Nat}{r:α}(e:rs[i]? = some r):rs.take (i+1)=rs.take i++[r]:=by
 obtain ⟨hi,e'⟩:=List.getElem?_eq_some_iff.mp e
 rw[List.take_succ_eq_append_getElem hi,e']
def yxp:Nat→Nat
 |0=>1
 |1=>3
 |_=>4
theorem yo8 (cl:Nat→Addr)(j:Nat):yh5 cl j=cl (yxp j):=by
 match j with
 |0=>rfl
 |1=>rfl
 |j+2=>rfl
def yc7 (rs:List (List Int)):Option Nat:=if 30<rs.length then some 5 else (ybg rs).map yxp
def yc8 (rs os:List (List Int))(tm:Int):Option Nat:=match yc7 rs with
 |some n=>some n
 |none=>match yc7 os with
  |some n=>some n
  |none=>if ye5 tm then none else some 2
theorem yia {rs:List (List Int)}(h:30<rs.length):yc7 rs=some 5:=by unfold yc7;rw[if_pos h]
theorem yjz {rs:List (List Int)}{j:Nat}(h:rs.length≤30)(e:ybg rs=some j):yc7 rs=some (yxp j):=by unfold yc7;rw[if_neg (by omega),e];rfl
theorem ygh {rs:List (List Int)}(h:rs.length≤30)(e:ybg rs=none):yc7 rs=none:=by unfold yc7;rw[if_neg (by omega),e];rfl
theorem yib {rs os:List (List Int)}{tm:Int}{n:Nat}(h:yc7 rs=some n):yc8 rs os tm=some n:=by unfold yc8;rw[h]
theorem yic {rs os:List (List Int)}{tm:Int}{n:Nat}(h:yc7 rs=none)(h':yc7 os=some n):yc8 rs os tm=some n:=by unfold yc8;rw[h,h']
theorem yf5 {rs os:List (List Int)}{tm:Int}(h:yc7 rs=none)(h':yc7 os=none):yc8 rs os tm=if ye5 tm then none else some 2:=by unfold yc8;rw[h,h']
def ymb (cl:Nat→Addr):Sp:=fun vs H Q E=>∃(a b:Addr) (tm:Int) (rs os:List (List Int)),vs=[.ref a,.ref b,.int tm]∧Rows H a rs∧(∀r∈rs,r.length=3)∧Rows H b os∧(∀r∈os,r.length=2)∧
 (∀n,yc8 rs os tm=some n→∀H',Same H H'→E (.ref (cl n)) none H')∧(yc8 rs os tm=none→∀t l o H',H t=none→H l=none→H o=none→Same H H'→Rows H' l rs→Rows H' o os→H' t=some (.tup [.ref l,.ref o])→Q (.ref t) H')
end L2
namespace K13
open PySem L2
abbrev yb7:Stmt:=top 27
abbrev yjg:List Str:=["lots","outs","term","goods","gone"]
abbrev ybt:List Str:=["lots","outs","term"]
theorem sc_checked_both:FnScope yjg ybt (yaa yb7):=⟨rfl,rfl,rfl,by decide +kernel,rfl,by decide +kernel,by decide +kernel⟩
section
variable {P:Program}{w:World}{K:PySem.W.Frag}{mg:Str→Option Value}{base:Heap}{f:Addr}{fd:FuncData}{cl:Nat→Addr}(T:Txt K mg cl)(B:Bn mg)
include T B
theorem yid (G_checked_lots:Cal P w K mg base (CXE P w) 3 "checked_lots" yb5 (ynw (cl 5) (yh5 cl) 3)) (G_checked_outs:Cal P w K mg base (CXE P w) 3 "checked_outs" ycl (ynw (cl 5) (yh5 cl) 2)) (G_check_term:Cal P w K mg base (CXE P w) 2 "check_term" ycy (yo5 (cl 2))) (F:Fun K "checked_both" "checked_both" yb7 f fd):FnOk P w K mg base (CXE P w) 4 f fd ybt (ymb cl):=by
 refine F.okE sc_checked_both (fun vs H Q E h=>?_) (fun cdv A outer s H vs Q E hr h=>?_)
 ·obtain ⟨a,b,tm,rs,os,rfl,_⟩:=h;rfl
 obtain ⟨a,b,tm,rs,os,rfl,hR,h3,hO,h2,q1,q2⟩:=h
 refine⟨_,(yad (ya2 (i:=3) sc_checked_both.nd rfl (Or.inl rfl) (yan (E:=E) G_checked_lots hr rfl (yez fun _ _ z=>z) (yal (pv 0) yac)))
  (yad (ya2 (i:=4) sc_checked_both.nd rfl (Or.inl rfl) (yan (E:=E) G_checked_outs hr rfl (yez fun _ _ z=>z) (yal (pv 1) yac)))
  (yad (yb9 (yan (E:=E) G_check_term hr rfl (yez fun _ _ z=>z) (yal (pv 2) yac)))
  (yai (yaw (yb0 (yal (pv 3) (yal (pv 4) yac)))))))),?_⟩
 refine⟨_,rfl,a,rs,rfl,hR,h3,fun c=>q1 5 (yib (yia c)) H (Same.refl H),fun c j e H' sm=>by rw[yo8];exact q1 _ (yib (yjz c e)) H' sm,fun rn rb l H1 hl s1 R1=>?_⟩
 have r0:=ygh rn rb
 refine⟨_,rfl,b,os,rfl,hO.same s1,h2,fun c=>q1 5 (yic r0 (yia c)) H1 s1,fun c j e H' sm=>by rw[yo8];exact q1 _ (yic r0 (yjz c e)) H' (s1.trans sm),fun on ob o H2 ho s2 R2=>?_⟩
 have o0:=ygh on ob
 have bt:=yf5 (tm:=tm) r0 o0
 have s12:=s1.trans s2
 refine⟨_,rfl,tm,rfl,fun c=>?_,fun c=>q1 2 (by rw[bt,if_neg c]) H2 s12⟩
 rw[if_pos c] at bt
 refine⟨_,rfl,_,rfl,by show 2≤sizeLine;decide,fun t ht=>?_⟩
 have s3:=yae (H:=H2) ht (.tup [.ref l,.ref o])
 exact q2 bt t l o _ (s12.free ht) hl (s1.free ho) (s12.trans s3) ((R1.same s2).same s3) (R2.same s3) yab
end
end K13
namespace L2
open PySem PySem.Spec PyProof.Rows
section
variable {κ:Type}[DecidableEq κ]
def yug (kvs:List (κ×V))(k:κ):Option V:=(kvs.find? fun kv=>decide (kv.1=k)).map (·.2)
def yie (kvs:List (κ×V))(k:κ)(v:V):List (κ×V):=
 if (kvs.any fun kv=>decide (kv.1=k))=true then kvs.map (fun kv=>if kv.1=k then (kv.1,v) else kv) else kvs++[(k,v)]
theorem yo9 {p:κ×V}{r:List (κ×V)}{k:κ}(e:p.1=k):yug (p::r) k=some p.2:=by simp [yug,List.find?_cons,e]
theorem ypa {p:κ×V}{r:List (κ×V)}{k:κ}(e:¬ p.1=k):yug (p::r) k=yug r k:=by simp [yug,List.find?_cons,e]
theorem ykt (k:κ):∀kvs:List (κ×V),(kvs.any fun kv=>decide (kv.1=k))=(yug kvs k).isSome
 |[]=>rfl
 |p::r=>by
  rw[List.any_cons]
  by_cases e:p.1=k
  ·simp only[yo9 e,decide_eq_true e,Bool.true_or,Option.isSome_some]
  ·rw[ypa e,decide_eq_false e,Bool.false_or];exact ykt k r
theorem ye0 (kvs:List (κ×V))(k:κ)(v:V):(yie kvs k v).length≤kvs.length+1:=by
 unfold yie
 split
 ·rw[List.length_map];omega
 ·rw[List.length_append,List.length_cons,List.length_nil];omega
theorem yu3 {kvs:List (κ×V)}{k:κ}(v:V)(h:yug kvs k=none):yie kvs k v=kvs++[(k,v)]:=by
 unfold yie
 rw[ykt,h]
 exact if_neg (by decide)
theorem RelO.isSome_eq {o:Option V}{u:Option Value}(r:RelO o u):o.isSome=u.isSome:=by
 cases o with
 |none=>cases u with
  |none=>rfl
  |some _=>exact(show False from r).elim
 |some _=>cases u with
  |none=>exact(show False from r).elim
  |some _=>rfl
theorem KV.any {kvs:List (κ×V)}{vs:List (κ×Value)}(r:KV kvs vs)(k:κ):(kvs.any fun kv=>decide (kv.1=k))=vs.any fun kv=>decide (kv.1=k):=by
 unfold KV at r
 induction r with
 |nil=>rfl
 |cons h t ih=>rw[List.any_cons,List.any_cons,ih,h.1]
theorem KV.repl {kvs:List (κ×V)}{vs:List (κ×Value)}(r:KV kvs vs)(k:κ){y:V}{u:Value}(ry:RelV y u) :
 KV (kvs.map fun kv=>if kv.1=k then (kv.1,y) else kv) (vs.map fun kv=>if kv.1=k then (kv.1,u) else kv):=by
 unfold KV at r ⊢
 induction r with
 |nil=>exact .nil
 |@cons p q ps qs h t ih=>
  rw[List.map_cons,List.map_cons]
  refine .cons ?_ ih
  obtain ⟨h1,h2⟩:=h
  by_cases e:p.1=k
  ·rw[if_pos e,if_pos (h1.symm.trans e)];exact⟨h1,ry⟩
  ·rw[if_neg e,if_neg (fun z=>e (h1.trans z))];exact⟨h1,h2⟩
theorem KV.put {kvs:List (κ×V)}{vs:List (κ×Value)}(r:KV kvs vs)(k:κ){y:V}{u:Value}(ry:RelV y u):KV (yie kvs k y) (stored vs k u):=by
 unfold yie stored
 rw[r.any k]
 by_cases e:(vs.any fun kv=>decide (kv.1=k))=true
 ·rw[if_pos e,if_pos e];exact r.repl k ry
 ·rw[if_neg e,if_neg e];exact Paired.snoc r ⟨rfl,ry⟩
theorem KV.length {kvs:List (κ×V)}{vs:List (κ×Value)}(r:KV kvs vs):kvs.length=vs.length:=Paired.length r
end
theorem yzg {P:Program}{w:World}{k:Key}{u:Value}(r:RelV (kV k) u):(ybq P w).is k u=true:=by
 cases k with
 |inl i=>obtain ⟨t,e⟩:=(show ∃t,u=Value.int i t from r);subst e;exact ynh P w i t
 |inr x=>obtain ⟨t,e⟩:=(show ∃t,u=Value.str x t from r);subst e;exact yni P w x t
theorem ymc {P:Program}{w:World}:∀{ks:List Key}{us:List Value},Vals (ks.map kV) us→ItemsAre (ybq P w) ks us
 |[],_,r=>by rw[List.map_nil] at r;cases r;exact .nil
 |k::ks,_,r=>by
  rw[List.map_cons] at r
  cases r with
  |cons h t=>exact .cons (yzg h) (ymc t)
abbrev KT (H:Hp):List (List Key×V)→List (List Key×Addr×Value)→Prop:=Paired fun p q=>p.1=q.1∧H q.2.1=some (.tup (p.1.map kV))∧RelV p.2 q.2.2
theorem KT.val {H:Hp}{kvs:List (List Key×V)}{xs:List (List Key×Addr×Value)}(r:KT H kvs xs)(k:List Key):RelO (yug kvs k) ((atKey xs k).map (·.2)):=by
 induction r with
 |nil=>exact True.intro
 |@cons p q ps qs h t ih=>
  obtain ⟨h1,_,h2⟩:=h
  by_cases e:p.1=k
  ·have e':q.1=k:=h1.symm.trans e
   have b:atKey (q::qs) k=some q.2:=by simp [atKey,List.find?_cons,e']
   rw[yo9 e,b];exact h2
  ·have e':¬ q.1=k:=fun z=>e (h1.trans z)
   have b:atKey (q::qs) k=atKey qs k:=by simp [atKey,List.find?_cons,e']
   rw[ypa e,b];exact ih
theorem KT.repl {H:Hp}{kvs:List (List Key×V)}{xs:List (List Key×Addr×Value)}(r:KT H kvs xs)(k:List Key){y:V}{u:Value}(ry:RelV y u) :
 KT H (kvs.map fun kv=>if kv.1=k then (kv.1,y) else kv) (xs.map (putAt k u)):=by
 induction r with
 |nil=>exact .nil
 |@cons p q ps qs h t ih=>
  rw[List.map_cons,List.map_cons]
  refine .cons ?_ ih
  obtain ⟨h1,h2,h3⟩:=h
  unfold putAt
  by_cases e:p.1=k
  ·rw[if_pos e,if_pos (h1.symm.trans e)];exact⟨h1,h2,ry⟩
  ·rw[if_neg e,if_neg (fun z=>e (h1.trans z))];exact⟨h1,h2,h3⟩
theorem KT.put {H:Hp}{kvs:List (List Key×V)}{xs:List (List Key×Addr×Value)}(r:KT H kvs xs)(k:List Key){b:Addr}{y:V}{u:Value}(hb:H b=some (.tup (k.map kV)))(ry:RelV y u) :
 KT H (yie kvs k y) (storedH xs k b u):=by
 have e:(kvs.any fun kv=>decide (kv.1=k))=(atKey xs k).isSome:=by
  rw[ykt,(r.val k).isSome_eq,Option.isSome_map]
 unfold yie storedH
 rw[e]
 by_cases q:(atKey xs k).isSome=true
 ·rw[if_pos q,if_pos q];exact r.repl k ry
 ·rw[if_neg q,if_neg q];exact Paired.snoc r ⟨rfl,hb,ry⟩
theorem KT.keeps {H H':Hp}{kvs:List (List Key×V)}{xs:List (List Key×Addr×Value)}(r:KT H kvs xs)(ht:∀b ys,H b=some (.tup ys)→H' b=some (.tup ys)):KT H' kvs xs:=
 Paired.mapP r fun _ _ z=>⟨z.1,ht _ _ z.2.1,z.2.2⟩
section
variable {P:Program}{w:World}{H:Hp}{h:Heap}{a:Addr}
theorem yzh {u:HO}(ok:HOk P w H h)(e:Rd H a u):ObjOk P w H h a u:=e.ok ok
theorem yzi {kvs:List (Key×V)}(ok:HOk P w H h)(e:Rd H a (.dK kvs)):kvs.length≤sizeLine∧(a == sysModules)=false∧∃vs,KV kvs vs∧h.DictOf (ybq P w) a vs:=
 show ObjOk P w H h a (.dK kvs) from yzh ok e
theorem zaw {kvs:List (Key×V)}(ok:HOk P w H h)(e:H a=some (.dK kvs)):kvs.length≤sizeLine∧(a == sysModules)=false∧∃vs,KV kvs vs∧h.DictOf (ybq P w) a vs:=yzi ok (.inl e)
theorem yj0 {ks:List Key}(ok:HOk P w H h)(e:H a=some (.tup (ks.map kV))):(tupleKind (ybq P w)).is h ks a:=by
 obtain ⟨_,its,r,o,h1,h2,n,h3⟩:=(show ObjOk P w H h a (.tup (ks.map kV)) from ok a _ e)
 exact⟨o,its.toArray,n,h1,h2,h3,by simpa using ymc r⟩
theorem yzj {kvs:List (List Key×V)}(ok:HOk P w H h)(e:Rd H a (.dT kvs)):kvs.length≤sizeLine∧(a == sysModules)=false∧
 ∃xs,KT H kvs xs∧h.DictOfH (tupleKind (ybq P w)) a xs:=by
 obtain ⟨z,y,xs,r,o,es,ep,h1,h2,h3,h4,h5⟩:=(show ObjOk P w H h a (.dT kvs) from yzh ok e)
 refine⟨z,y,xs,r,o,es,ep,h1,h2,h3,h4,fun x hx=>?_,h5⟩
 have all:∀{l:List (List Key×V)}{m:List (List Key×Addr×Value)},KT H l m→∀x∈m,(tupleKind (ybq P w)).is h x.1 x.2.1:=by
  intro l m q
  induction q with
  |nil=>intro x hx;exact nomatch hx
  |@cons p q ps qs hq t ih=>
   intro x hx
   rcases List.mem_cons.mp hx with e|hx
   ·subst e
    exact yj0 ok (by rw[← hq.1];exact hq.2.1)
   ·exact ih x hx
 exact all r x hx
theorem yzk {kvs:List (List Key×V)}(ok:HOk P w H h)(e:H a=some (.dT kvs)):kvs.length≤sizeLine∧(a == sysModules)=false∧
 ∃xs,KT H kvs xs∧h.DictOfH (tupleKind (ybq P w)) a xs:=yzj ok (.inl e)
end
def DPut (H:Hp)(a:Addr)(y v:V)(H':Hp):Prop:=
 (∃kvs k,H a=some (.dK kvs)∧y=kV k∧kvs.length<sizeLine∧H'=upd H a (.dK (yie kvs k v)))∨
 ∃kvs k b,H a=some (.dT kvs)∧y = .ref b∧H b=some (.tup (k.map kV))∧kvs.length<sizeLine∧H'=upd H a (.dT (yie kvs k v))
theorem DPut.t {H:Hp}{a b:Addr}{kvs:List (List Key×V)}{k:List Key}{v:V}(e:H a=some (.dT kvs))(eb:H b=some (.tup (k.map kV)))(hl:kvs.length<sizeLine) :
 DPut H a (.ref b) v (upd H a (.dT (yie kvs k v))):=.inr ⟨kvs,k,b,e,rfl,eb,hl,rfl⟩
section
variable {X:Cx}{pins:List (Addr×Obj)}{σ:St}{H:Hp}{s:Shared}{a:Addr}{y v:V}{u r:Value}{o:Option V}{A:Around}{E:Value→Shared→Prop}
theorem Inv.big (I:Inv X pins σ H s):sysModules<s.heap.objs.size:=by
 have h:mainGlobals<s.heap.objs.size:=(I.mod.glob.keeps I.bk).lt
 exact Nat.lt_trans (by decide) h
theorem yif {h':Heap}{t':Nat}{ob:HO}(I:Inv X pins σ H s)(mu:Mut (H a))(hs:Heap.SameBut a s.heap h')(he:∃q,h'.get? a=some q)(new:ObjOk X.prog X.w (upd H a ob) h' a ob) :
 Inv X pins σ (upd H a ob) { s with heap:=h',toks:=t' }:=
 I.write (x:=a) (e:=a) mu (.inl rfl) (fun b q hb z=>(hs.2 b hb).trans z) he new
theorem yzl {P:Program}{w:World}{H':Hp}{h':Heap}{kvs:List (Key×V)}{vs:List (Key×Value)}(z:kvs.length≤sizeLine)(hd:(a == sysModules)=false)(rel:KV kvs vs)(dd:h'.DictOf (ybq P w) a vs) :
 ObjOk P w H' h' a (.dK kvs):=⟨z,hd,vs,rel,dd⟩
theorem yst {H':Hp}{Q:Unit→Shared→Prop}(hu:A.units+1<cLine)(I:Inv X pins σ H s)(g:DPut H a y v H')(ry:RelV y u)(rv:RelV v r)(h:∀s',Inv X pins σ H' s'→Q () s') :
 wpAny (model X.prog X.w) A (setItem (.ref a) u r) Q E s:=by
 rcases g with ⟨kvs,k,e,ey,l,eH⟩ | ⟨kvs,k,b,e,ey,eb,l,eH⟩
 ·subst ey eH
  obtain ⟨z,hd,vs,rel,dd⟩:=zaw I.hok e
  have hz:vs.length≤sizeLine:=by rw[← rel.length];exact z
  have hl:(yie kvs k v).length≤sizeLine:=by have:=ye0 kvs k v;omega
  refine wpAny_setItem_pairs (hsz:=hz) (yzg ry) dd fun h' dd' hs=>h _ ?_
  have he:∃q,h'.get? a=some q:=let ⟨q,_,_,hq,_⟩:=dd';⟨q,hq⟩
  exact yif I (by rw[e];exact True.intro) hs he (yzl hl hd (rel.put k rv) dd')
 ·subst ey eH
  cases (show u=Value.ref b from ry)
  obtain ⟨z,hd,xs,rel,dd⟩:=yzk I.hok e
  have hz:xs.length≤sizeLine:=by rw[← Paired.length rel];exact z
  have hl:(yie kvs k v).length≤sizeLine:=by have:=ye0 kvs k v;omega
  refine wpAny_setItem_heap (hsz:=hz) (tupleKind_room_in1 hu) (yj0 I.hok eb) dd fun h' dd' hs=>h _ ?_
  obtain ⟨q,es,ep,hq,h2,h3,h4,_,h5⟩:=dd'
  refine yif I (by rw[e];exact True.intro) hs ⟨q,hq⟩ ⟨hl,hd,_,(rel.put k eb rv).keeps fun c ys ec=>?_,q,es,ep,hq,h2,h3,h4,h5⟩
  rw[yak (yi5 ec e (fun z=>nomatch z))]
  exact ec
end
section
variable {X:Cx}{pins:List (Addr×Obj)}{σ:St}{H:Hp}{s:Shared}{a:Addr}{kvs:List (Key×V)}{k:Key}{u:Value}{A:Around}{E:Value→Shared→Prop}
end
def zax (td ty tv:TE):TS:=fun D σ H=>tv σ H fun v H1=>td σ H1 fun x H2=>ty σ H2 fun y H3=>∃a H4,x = .ref a∧DPut H3 a y v H4∧D.nx σ H4
section
variable {X:Cx}{o i e value:Expr}{pos pos' tpos:Pos}{td ty tv:TE}
theorem yxq (hu:X.A.units+1<cLine)(ho:PE X o td)(hi:PE X i ty)(hv:PE X value tv)(hs:swapsWith value (some (.Subscript o i pos')) pos.line X.env=pure false) :
 PS X (.Assign [.Subscript o i pos'] value pos) (zax td ty tv):=by
 refine⟨?_⟩
 intro pins s σ H D I h
 refine wpAny_Assign_Subscript (thn (hv pins s σ H _ I h) fun r s1 ⟨v,H1,I1,rv,q1⟩=>thn (ho pins s1 σ H1 _ I1 q1) fun u s2 ⟨x,H2,I2,rx,q2⟩=>thn (hi pins s2 σ H2 _ I2 q2) fun iv s3 ⟨y,H3,I3,ry,a,H4,ex,g,q3⟩=>?_) hs
 subst ex
 obtain rfl:u=Value.ref a:=rx
 exact yst hu I3 g ry rv fun s4 I4=>⟨σ,H4,I4,q3⟩
end
theorem ypb {P:Program}{w:World}{H:Hp} (h:Heap) (hb:sysModules<h.objs.size):ObjOk P w H (h.push { cls:=.type "dict",data:=.dict #[] }) h.objs.size (.dT []) :=
 ⟨Nat.zero_le _,beq_eq_false_iff_ne.mpr (Ne.symm (Nat.ne_of_lt hb)),[],.nil,_,#[],0,Heap.get?_push_size _ rfl,⟨rfl,rfl,rfl⟩,rfl,rfl,List.nodup_nil⟩
def yzm:TE:=fun _ H Q=>∀p,H p=none→Q (.ref p) (upd H p (.dT []))
section
variable {X:Cx}{pos:Pos}
theorem yu4:PE X (.Dict [] [] pos) yzm:=⟨fun pins s σ H Q I h=>
 wpAny_Dict_empty ⟨.ref s.heap.objs.size,_,I.laid (a:=s.heap.objs.size) (o:=.dT []) (t':=s.toks) (fun _ _ q=>Heap.get?_push_of_some _ q) (Nat.le_refl _) (ypb s.heap I.big),rfl,h _ (I.hok.fresh (Nat.le_refl _))⟩⟩
end
def IsD (H:Hp)(a:Addr):Prop:=(∃kvs,Rd H a (.dK kvs))∨∃kvs,Rd H a (.dT kvs)
theorem yzn {X:Cx}{pins:List (Addr×Obj)}{σ:St}{H:Hp}{s:Shared}{a:Addr}(I:Inv X pins σ H s)(d:IsD H a) :
 s.TypeIs (.ref a) "dict" ∧ (∀b,Value.ref a = .ref b→∃ob,s.heap.get? b=some ob∧ob.dict=none)∧(a == sysModules)=false:=by
 rcases d with ⟨kvs,e⟩ | ⟨kvs,e⟩
 ·obtain ⟨_,hd,vs,_,dd⟩:=yzi I.hok e
  refine⟨dd.typeIs,fun b q=>?_,hd⟩
  cases q
  obtain ⟨ob,_,_,h1,h2,_⟩:=dd
  exact⟨ob,h1,h2.2.1⟩
 ·obtain ⟨_,hd,xs,_,dd⟩:=yzj I.hok e
  refine⟨dd.typeIs,fun b q=>?_,hd⟩
  cases q
  obtain ⟨ob,_,_,h1,h2,_⟩:=dd
  exact⟨ob,h1,h2.2.1⟩
section
variable {X:Cx}{pins:List (Addr×Obj)}{σ:St}{H:Hp}{s:Shared}{a:Addr}{y d:V}{u r:Value}{o:Option V}{A:Around}{E:Value→Shared→Prop}
end
section
variable {X:Cx}{o e f:Expr}{apos cpos:Pos}{td ty tx:TE}
end
section
variable {X:Cx}{pins:List (Addr×Obj)}{σ:St}{H:Hp}{s:Shared}{a:Addr}{kvs:List (Key×V)}{A:Around}{E:Value→Shared→Prop}
end
section
variable {X:Cx}{pins:List (Addr×Obj)}{σ:St}{H:Hp}{s:Shared}{a:Addr}{y:V}{u:Value}{A:Around}{E:Value→Shared→Prop}
end
section
variable {X:Cx}{pins:List (Addr×Obj)}{σ:St}{H:Hp}{s:Shared}
theorem ysu {a b:Addr}{kvs:List (List Key×V)}{k:List Key}{v:V}{r:Value}{A:Around}{E:Value→Shared→Prop}{Q:Unit→Shared→Prop}(hu:A.units<cLine)(I:Inv X pins σ H s)(e:H a=some (.dT kvs))(eb:H b=some (.tup (k.map kV)))(l:kvs.length<sizeLine)(rv:RelV v r)
 (h:∀s',Inv X pins σ (upd H a (.dT (yie kvs k v))) s'→Q () s'):wpAny (model X.prog X.w) A (dictSet a (.ref b) r) Q E s:=by
 obtain ⟨z,hd,xs,rel,dd⟩:=yzk I.hok e
 have lp:=ye0 kvs k v
 refine wpAny_dictSet_heap (hsz:=by rw[← Paired.length rel];exact z) (show (tupleKind (ybq X.prog X.w)).room A from hu) (yj0 I.hok eb) dd fun h' dd' hs=>h _ ?_
 obtain ⟨q,es,ep,hq,h2,h3,h4,_,h5⟩:=dd'
 refine yif I (by rw[e];exact True.intro) hs ⟨q,hq⟩ ⟨by omega,hd,_,(rel.put k eb rv).keeps fun c ys ec=>?_,q,es,ep,hq,h2,h3,h4,h5⟩
 rw[yak (yi5 ec e (fun z=>nomatch z))];exact ec
theorem Inv.freeze {a:Addr}{u:HO}{o:Obj}(I:Inv X pins σ H s)(e:H a=some u)(mu:Mut (H a))(ho:s.heap.get? a=some o)(hu:ObjOk X.prog X.w (upd H a (.frz o u)) s.heap a u):Inv X pins σ (upd H a (.frz o u)) s:=
 I.write (x:=a) (e:=a) (t':=s.toks) (h':=s.heap) mu (.inl rfl) (fun b q _ z=>z) ⟨o,ho⟩ ⟨ho,hu⟩
def zbx (t:TE):TE:=fun σ H Q=>t σ H fun x H1=>∃a kvs,x = .ref a∧H1 a=some (.dT kvs)∧∀o,Q x (upd H1 a (.frz o (.dT kvs)))
theorem ywn {e:Expr}{t:TE}(h:PE X e t):PE X e (zbx t):=by
 refine⟨?_⟩
 intro pins s σ H Q I hw
 refine thn (h pins s σ H _ I hw) fun v s1 ⟨x,H1,I1,r1,a,kvs,ex,ea,q⟩=>?_
 obtain ⟨z,hd,xs,rel,o,es,ep,h1,h2,h3,h4,h5⟩:=(show ObjOk X.prog X.w H1 s1.heap a (.dT kvs) from I1.hok a _ ea)
 refine⟨x,_,I1.freeze ea (by rw[ea];exact True.intro) h1 ⟨z,hd,xs,Paired.mapP rel fun _ _ y=>⟨y.1,?_,y.2.2⟩,o,es,ep,h1,h2,h3,h4,h5⟩,r1,q o⟩
 rw[yak (yi5 y.2.1 ea (fun z=>nomatch z))];exact y.2.1
end
def yzo (ix:List (Option Nat))(wi:TI)(g:TG)(ti:TT)(tk tv:TE):TE:=fun σ H Q=>wi σ H fun J H1=>∀D,H1 D=none→∃W:Nat→Nat→Hp→Prop,(∃m,W 0 m (upd H1 D (.dT [])))∧∀i m H,W i m H→
 (J.stop i H∧Q (.ref D) H)∨(J.go i H∧∀x H',J.yld i H x H'→g x (ybe ix σ) H' fun σ2 H2=>(∀(k:Nat) v,(ybe ix σ)[k]? = some (some v)→σ2[k]? = some (some v))∧ti σ2 H2 fun b H3=>
  if b=true then tk σ2 H3 fun y H4=>tv σ2 H4 fun z H5=>∃kvs k bb,H5 D=some (.dT kvs)∧y = .ref bb∧H5 bb=some (.tup (k.map kV))∧kvs.length<sizeLine∧∃m',m' < m∧W (i+1) m' (upd H5 D (.dT (yie kvs k z))) else ∃m',m' < m∧W (i+1) m' H3)
section
variable {X:Cx}{N':List Str}{ix:List (Option Nat)}{scope:Scope}{kx vx tg iter:Expr}{ifs:List Expr}{pos:Pos}{wi:TI}{g:TG}{ti:TT}{tk tv:TE}
theorem yp7 {X':Cx}{σ₀:St}{H:Hp}{s:Shared}{Q:VK}{it D:Addr}{fp:List Addr}{tn:Nat→Heap→Prop}{J:It}{W:Nat→Nat→Hp→Prop}{m0:Nat}(hu:X'.A.units<cLine)(I:Inv X' [] σ₀ H s)(hcalm:X'.calm=true)(hxe:X'.xe=fun _ _=>False)
 (T:Turn X'.prog X'.w X'.K tg J fp it tn) (st:tn 0 s.heap) (hf:∀b∈fp,ye8 X' [] H b) (hg:PG X' tg g) (hi:PIfs X' ifs ti) (hk:PE X' kx tk) (hv:PE X' vx tv) (w0:W 0 m0 H)
 (turn:∀i m H,W i m H→(J.stop i H∧Q (.ref D) H)∨(J.go i H∧∀x H',J.yld i H x H'→g x σ₀ H' fun σ2 H2=>(∀(k:Nat) v,σ₀[k]? = some (some v)→σ2[k]? = some (some v))∧ti σ2 H2 fun b H3=>
  if b=true then tk σ2 H3 fun y H4=>tv σ2 H4 fun z H5=>∃kvs k bb,H5 D=some (.dT kvs)∧y = .ref bb∧H5 bb=some (.tup (k.map kV))∧kvs.length<sizeLine∧∃m',m' < m∧W (i+1) m' (upd H5 D (.dT (yie kvs k z))) else ∃m',m' < m∧W (i+1) m' H3)) :
 codeAny (model X'.prog X'.w) X'.A (.compStart (.DictComp kx vx [⟨tg,iter,ifs,0⟩] scope pos) 0 (.ref it) (.ref D) X'.env) (fun r s'=>(∃f,r = .ok f)∧∃H',Inv X' [] σ₀ H' s'∧Q (.ref D) H') s:=by
 have stat:∀{H':Hp},(∀b∈fp,H' b=none)→∀b∈fp,ye8 X' [] H' b:=fun hn b hb=>⟨hn b hb,(hf b hb).2⟩
 have loop:codeAny (model X'.prog X'.w) X'.A (.compLoop (.DictComp kx vx [⟨tg,iter,ifs,0⟩] scope pos) 0 (.ref it) (.ref D) X'.env) (fun r s'=>(∃f,r = .ok f)∧∃H',Inv X' [] σ₀ H' s'∧Q (.ref D) H') s:=by
  refine codeAny_loop rfl (fun n s'=>∃i H',Inv X' [] σ₀ H' s'∧tn i s'.heap∧(∀b∈fp,H' b=none)∧W i n H') ?_ m0 ⟨0,H,I,st,fun b hb=>(hf b hb).1,w0⟩
  rintro n s1 ⟨i,H1,I1,st1,fr1,w1⟩
  show wpAny _ X'.A ((compTurn (.DictComp kx vx [⟨tg,iter,ifs,0⟩] scope pos) 0 (.ref it) (.ref D) X'.env).onRaise (fun x=>do noteFrame x X'.env;theTreesLotGoes x)) _ _ s1
  refine wpAny_noted ?_
  have noE:∀{α:Type}{t:Sem α}{P:α→Shared→Prop}{F:Value→Shared→Prop}{s:Shared},wpAny (model X'.prog X'.w) X'.A t P X'.xe s→wpAny (model X'.prog X'.w) X'.A t P F s:=fun h=>wpAny_mono h (fun _ _ x=>x) fun e s' x=>by rw[hxe] at x;exact x.elim
  rw[compTurn_dict]
  refine zwb0 (wpAny_standAt (zwb0 ?_))
  rcases turn i n H1 w1 with ⟨stop,qn⟩ | ⟨go,step⟩
  ·refine thn (T.done X' rfl rfl rfl hcalm i [] s1 σ₀ H1 _ I1 (stat fr1) st1 stop) fun r s2 ⟨hr,I2⟩=>?_
   subst hr
   exact zwp0 ⟨⟨_,rfl⟩,H1,I2,qn⟩
  ·refine thn (T.item X' rfl rfl rfl hcalm i [] s1 σ₀ H1 _ I1 (stat fr1) st1 go) fun r s2 ⟨u,hr,h2⟩=>?_
   subst hr
   refine zwb0 (thn h2 fun _ s3 ⟨x,H3,I3,r3,y3,st3,fr3⟩=>?_)
   have I3':=I3.pinned (stat fr3) (T.obj _ _ st3)
   refine zwb0 (noE (thn (hg _ s3 σ₀ H3 x u _ I3' r3 (step x H3 y3)) fun _ s4 ⟨σ4,H4,I4,hk4,q4⟩=>?_))
   refine zwb0 (noE (thn (hi _ s4 σ4 H4 _ I4 q4) fun ok s5 ⟨H5,I5,q5⟩=>?_))
   have again':∀{s7:Shared}{H7:Hp}{m':Nat},Inv X' ([]++yf0 fp s3.heap) σ4 H7 s7→m' < n→W (i+1) m' H7→∃m,m<n∧∃i H',Inv X' [] σ₀ H' s7∧tn i s7.heap∧(∀b∈fp,H' b=none)∧W i m H':=fun {s7 H7 m'} I7 hm w7=>by
    refine⟨m',hm,i+1,H7,I7.unpinned.weak (by rw[I3.len,I7.len]) hk4,T.keep _ _ _ st3 fun b hb o e=>(I7.pin (b,o) (List.mem_append_right _ (List.mem_append_right _ (yba hb e)))).1,fun b hb=>?_,w7⟩
    obtain ⟨o,e,d⟩:=T.obj _ _ st3 b hb
    exact(I7.pin (b,o) (List.mem_append_right _ (List.mem_append_right _ (yba hb e)))).2.1
   cases ok with
   |false=>
    obtain ⟨m',hm,w7⟩:=q5
    exact zwp0 ⟨rfl,again' I5 hm w7⟩
   |true=>
    refine zwb0 (zwb0 (noE (thn (hk _ s5 σ4 H5 _ I5 q5) fun kv s6 ⟨yv,H6,I6,r6,q6⟩=>?_)))
    refine zwb0 (wpAny_holding (noE (thn (hv _ s6 σ4 H6 _ I6 q6) fun vv s7 ⟨zv,H7,I7,r7,kvs,k,bb,hD,ey,hbb,hz,m',hm,w7⟩=>?_)))
    subst ey
    cases r6
    refine zwb0 (wpAny_standAt (wpAny_holding ?_))
    exact ysu hu I7 hD hbb hz r7 fun s8 I8=>zwp0 ⟨rfl,again' I8 hm w7⟩
 refine codeAny_compStart_dict loop (T.self _ 0 s _ _ st loop)
theorem yn5 {pins:List (Addr×Obj)}{σ:St}{H:Hp}{s:Shared}{Q:VK}{it:Addr}{fp:List Addr}{tn:Nat→Heap→Prop}{J:It}{E:Value→Shared→Prop}(hu:X.A.units<cLine)(I:Inv X pins σ H s)(hcalm:X.calm=true)(S:CompScope X N' ix scope)
 (T:Turn X.prog X.w X.K tg J fp it tn) (st:tn 0 s.heap) (hf:∀b∈fp,ye8 X pins H b)
 (hg:∀C s H fp,PG (yat X N' scope C s H fp) tg g) (hi:∀C s H fp,PIfs (yat X N' scope C s H fp) ifs ti) (hk:∀C s H fp,PE (yat X N' scope C s H fp) kx tk) (hv:∀C s H fp,PE (yat X N' scope C s H fp) vx tv)
 (h:∀D,H D=none→∃W:Nat→Nat→Hp→Prop,(∃m,W 0 m (upd H D (.dT [])))∧∀i m H,W i m H→
  (J.stop i H∧Q (.ref D) H)∨(J.go i H∧∀x H',J.yld i H x H'→g x (ybe ix σ) H' fun σ2 H2=>(∀(k:Nat) v,(ybe ix σ)[k]? = some (some v)→σ2[k]? = some (some v))∧ti σ2 H2 fun b H3=>
   if b=true then tk σ2 H3 fun y H4=>tv σ2 H4 fun z H5=>∃kvs k bb,H5 D=some (.dT kvs)∧y = .ref bb∧H5 bb=some (.tup (k.map kV))∧kvs.length<sizeLine∧∃m',m' < m∧W (i+1) m' (upd H5 D (.dT (yie kvs k z))) else ∃m',m' < m∧W (i+1) m' H3)) :
 wpAny (model X.prog X.w) X.A newDict (fun acc s3=>wpAny (model X.prog X.w) X.A (newFunctionEnv scope X.env.globals (ygo X.env scope.names []) [] X.env.qual none .none (some X.env)) (fun cenv s4=>
  codeAny (model X.prog X.w) X.A (.compStart (.DictComp kx vx [⟨tg,iter,ifs,0⟩] scope pos) 0 (.ref it) acc { cenv with scope:=relabel scope X.env }) (yhy X pins σ Q acc cenv.locals) s4) E s3) E s:=by
 refine wpAny_newObj_type ?_
 have fresh0:H s.heap.objs.size=none:=I.hok.fresh (Nat.le_refl _)
 have I3:Inv X pins σ (upd H s.heap.objs.size (.dT [])) { s with heap:=s.heap.push { cls:=.type "dict",data:=.dict #[] } } :=
  I.laid (a:=s.heap.objs.size) (o:=.dT []) (t':=s.toks) (fun b u e=>Heap.get?_push_of_some _ e) (Nat.le_refl _) (ypb s.heap I.big)
 obtain ⟨W,⟨m0,w0⟩,turn⟩:=h s.heap.objs.size fresh0
 generalize hD:s.heap.objs.size=D at *
 have lt0:∀b∈fp,b<s.heap.objs.size:=fun b hb=>by obtain ⟨o,e,_⟩:=T.obj 0 _ st b hb;exact Heap.lt_size e
 have hf3:∀b∈fp,ye8 X pins (upd H D (.dT [])) b:=fun b hb=>by
  have nb:b≠D:=by rw[← hD];exact Nat.ne_of_lt (lt0 b hb)
  obtain ⟨f0,fr⟩:=hf b hb
  exact⟨by rw[yak nb];exact f0,fr⟩
 have st3:tn 0 (s.heap.push { cls:=.type "dict",data:=.dict #[] }):=T.keep _ _ _ st fun b hb o e=>Heap.get?_push_of_some _ e
 revert I3 st3
 generalize (s.heap.push { cls:=.type "dict",data:=.dict #[] })=h3
 intro I3 st3
 have lt3:∀b∈fp,b<h3.objs.size:=fun b hb=>by obtain ⟨o,e,_⟩:=T.obj 0 _ st3 b hb;exact Heap.lt_size e
 refine wpAny_newFunctionEnv S.nocell (fun x hx=>nomatch hx) (fun h4 hns hsb=>?_) S.kind
 have k4:∀b o,h3.get? b=some o→h4.get? b=some o:=fun b o e=>(hsb.2 b (Nat.ne_of_lt (Heap.lt_size e))).trans (Heap.get?_push_of_some _ e)
 have J4:Inv (yat X N' scope h3.objs.size { s with heap:=h3 } (upd H D (.dT [])) fp) [] (ybe ix σ) (upd H D (.dT [])) { s with heap:=h4,toks:=s.toks+([]:List (Str×Value)).length }:=
  ygc (s:={ s with heap:=h3 }) (tk:=s.toks+([]:List (Str×Value)).length) I3 hcalm S hf3 lt3 hns k4
 have st4:tn 0 ({ s with heap:=h4,toks:=s.toks+([]:List (Str×Value)).length }:Shared).heap:=T.keep _ _ _ st3 fun b hb o e=>k4 b o e
 have fr4:∀b∈fp,upd H D (.dT []) b=none:=fun b hb=>(hf3 b hb).1
 revert J4 st4
 generalize ({ s with heap:=h4,toks:=s.toks+([]:List (Str×Value)).length }:Shared)=s4
 intro J4 st4
 have hf4:∀b∈fp,ye8 (yat X N' scope h3.objs.size { s with heap:=h3 } (upd H D (.dT [])) fp) [] (upd H D (.dT [])) b:=fun b hb=>
  ⟨fr4 b hb,Nat.ne_of_lt (lt3 b hb),J4.ok.exfs b hb,.inl hb,fun x c e=>(J4.ok.exf b hb).2 x c e,fun p hp=>nomatch hp⟩
 refine codeAny_mono (yp7 (X':=yat X N' scope h3.objs.size { s with heap:=h3 } (upd H D (.dT [])) fp) (Q:=Q) (D:=D) hu J4 rfl rfl T st4 hf4 (hg _ _ _ _) (hi _ _ _ _) (hk _ _ _ _) (hv _ _ _ _) w0 turn) fun r s' ⟨hr,H',J',q'⟩=>?_
 refine⟨D,H',rfl,hr,I3.call' J'.os J'.base J'.hok J'.bare fun b hb=>?_,?_,?_,q'⟩
 ·obtain ⟨_,f1,_,f3,f4,f5⟩:=hf3 b hb
  exact⟨f3,f1,f4,f5⟩
 ·exact I3.fpOk (H':=H') (Nat.le_refl _) J'.free
 ·obtain ⟨m,hn,_⟩:=J'.loc
  exact⟨m,hn⟩
theorem yu5 (hu:X.A.units<cLine)(hcalm:X.calm=true)(S:CompScope X N' ix scope)(hit:PI X tg iter wi)
 (hg:∀C s H fp,PG (yat X N' scope C s H fp) tg g) (hi:∀C s H fp,PIfs (yat X N' scope C s H fp) ifs ti) (hk:∀C s H fp,PE (yat X N' scope C s H fp) kx tk) (hv:∀C s H fp,PE (yat X N' scope C s H fp) vx tv)
 (hs:∀x,foldedSetIterable iter X.env x=pure x:=by intro _;rfl):PE X (.DictComp kx vx [⟨tg,iter,ifs,0⟩] scope pos) (yzo ix wi g ti tk tv):=by
 refine⟨?_⟩
 intro pins s σ H Q I h
 show wpAny _ X.A (comprehension (.DictComp kx vx [⟨tg,iter,ifs,0⟩] scope pos) scope X.env _ newDict false (eval iter X.env)) _ _ s
 refine wpAny_comprehension_free (use:=none) rfl hs (ycv I S) S.kind S.loc (thn (hit pins s σ H _ I h) fun v s1 h1=>thn h1 fun itv s2 h2=>?_)
 obtain ⟨it,fp,tn,J,H2,rfl,I2,T,st2,f2,q2⟩:=h2
 refine thn (yn5 (E:=X.xe) (kx:=kx) (vx:=vx) (iter:=iter) (pos:=pos) hu I2 hcalm S T st2 f2 hg hi hk hv q2) fun acc s3 h3=>thn h3 fun cenv s4 h4=>codeAny_mono h4 fun r s' hr=>?_
 obtain ⟨D,H',rfl,⟨f,rfl⟩,I',⟨g0,g1,_,g3,g4,g5⟩,⟨m,hm⟩,q'⟩:=hr
 exact⟨m,hm,fun h' hsb=>⟨.ref D,H',I'.turned (t':=s'.toks) (fun b o hb e=>(hsb.2 b hb).trans e) g0 g1 g3 g4 g5,rfl,q'⟩⟩
end
section
variable {prog:Program}{w:World}{A:Around}{E:Value→Shared→Prop}{s:Shared}
def yxr (h:Heap)(d:Addr)(es:Array DictEntry)(ep:Nat):Prop:=∃o,h.get? d=some o∧o.data = .dict es ep
theorem yu6 {v d:Addr}{es:Array DictEntry}{ep:Nat}{Q:Value→Shared→Prop}(hv:s.heap.IsItemsView v d)(hm:yxr s.heap d es ep)
 (hQ:Q (.ref s.heap.objs.size) { s with heap:=s.heap.push { cls:=.type "dict_itemiterator",data:=.fields #[.none,.bool false,.ref d,.int 0 0,.int es.size 0,.int ep 0,.none,.none] } }):wpAny (model prog w) A (pyIter (.ref v)) Q E s:=by
 obtain ⟨ov,e1,_,e2⟩:=id hv
 obtain ⟨o,e3,e4⟩:=hm
 refine wpAny_pyIter_slot hv.typeIs PySem.F.slot_dict_items_iter (wpAny_call_entry PySem.F.slot_dict_items_iter hv.typeIs PySem.F.entry_dict_items_iter ?_ (PySem.F.args_dict_items_iter_1 _))
 unfold Builtin.«dict_items.__iter__»
 refine zwb0 (zwp0 (zwb0 ?_))
 unfold Builtin.Dict_items.dictOf
 refine zwb0 (wpAny_field e1 e2 (x:=.ref d) rfl (zwp0 (zwb0 ?_)))
 unfold Builtin.Dict_items.newIterator
 refine zwb0 (wpAny_dictEntries e3 e4 (zwb0 (wpAny_dictEpoch e3 e4 ?_)))
 simp only[show Builtin.Dict_items.ownsTuple "dict_itemiterator" = true from by decide,if_true]
 refine wpAny_newObj_type (zwp0 ⟨_,rfl,"dict_itemiterator",_,⟨_,Heap.get?_push_size _ rfl,rfl⟩,PySem.F.slot_dict_itemiterator_next.lookup,?_⟩) (by simp only[sizeOk,Builtin.Dict_items.ownedTupleFields,List.size_toArray,List.length_append,List.length_cons,List.length_nil,sizeLine_eq];omega)
 simpa [rawInt,Builtin.Dict_items.ownedTupleFields] using hQ
theorem yu7 {it d:Addr}{i ep:Nat}{es:Array DictEntry}{ok ov:Value}{Q:Option Value→Shared→Prop}(hit:IsItemIter s.heap it d i es.size ep ok ov)(hm:yxr s.heap d es ep)(hi:i<es.size)
 (hQ:∀h',IsItemIterOut h' it d (i+1) es.size ep es[i].key es[i].val s.heap.objs.size→h'.get? s.heap.objs.size=some { cls:=.type "tuple",data:=.seq #[es[i].key,es[i].val] } →
  h'.objs.size=s.heap.objs.size+1→(∀b o,b≠it→s.heap.get? b=some o→h'.get? b=some o)→Q (some (.ref s.heap.objs.size)) { s with heap:=h' }):wpAny (model prog w) A (pyNext (.ref it)) Q E s:=by
 obtain ⟨hp,g,dr,tk,os⟩:=s
 obtain ⟨od,hod,hdd⟩:=hm
 have hT:Shared.TypeIs ⟨hp,g,dr,tk,os⟩ (.ref it) "dict_itemiterator" := ⟨_,hit,rfl⟩
 unfold pyNext
 refine zwb0 (wpAny_attempt (wpAny_callSpecial?_slot (name:=Str.ofString "__next__") hT PySem.F.slot_dict_itemiterator_next (wpAny_call_entry PySem.F.slot_dict_itemiterator_next hT PySem.F.entry_dict_itemiterator_next ?_ (PySem.F.args_dict_itemiterator_next_1 _))))
 refine zwb0 (zwp0 (zwb0 (zwb0 ?_)))
 first|refine zwb0 (wpAny_typeNameOfWhole_itemiter hT (zwp0 ?_))|refine zwb0 (wpAny_typeNameOf_itemiter hT (zwp0 ?_))
 refine zwb0 (wpAny_fieldsOf hit rfl ?_)
 simp only[show Builtin.Dict_items.ownsTuple "dict_itemiterator" = true from by decide,if_true]
 show wpAny _ _ (if (Value.ref d == Value.none)=true then _ else _) _ _ _
 rw[if_neg (show ¬ ((Value.ref d == Value.none)=true) from Bool.false_ne_true)]
 refine zwb0 (zwp0 (zwb0 (wpAny_dictEntries hod hdd ?_)))
 rw[if_neg (by simp)]
 refine zwb0 (zwp0 (zwb0 (wpAny_dictEpoch hod hdd ?_)))
 rw[if_neg (by simp)]
 refine zwp0 ?_
 simp only[show ¬ ((i:Int)<0) from by omega,if_false,Int.toNat_natCast,Array.getElem?_eq_getElem hi]
 refine zwb0 ?_
 first|refine zwb0 (wpAny_typeNameOfWhole_itemiter hT (zwp0 ?_))|refine zwb0 (wpAny_typeNameOf_itemiter hT (zwp0 ?_))
 refine zwb0 (wpAny_isOneOf_itemiter hT ?_)
 show wpAny _ _ (setField (.ref it) 3 (rawInt ((i:Int)+1)) >>= _) _ _ ⟨hp,g,dr,tk,os⟩
 refine zwb0 (wpAny_setField_rec hit (by simp) fun h1 x1 y1=>?_)
 have y1':Heap.SameBut it hp h1:=y1
 have x1':IsItemIter h1 it d (i+1) es.size ep ok ov:=by
  unfold IsItemIter
  rw[show ((i+1:Nat):Int)=(i:Int)+1 from by omega]
  simpa [rawInt] using x1
 have hT1:Shared.TypeIs ⟨h1,g,dr,tk,os⟩ (.ref it) "dict_itemiterator" := ⟨_,x1',rfl⟩
 refine zwb0 (wpAny_holding (zwb0 (wpAny_isOneOf_itemiter hT1 (zwb0 (wpAny_isOneOf_itemiter hT1 ?_)))))
 show wpAny _ _ (Builtin.Dict_items.pairFromOwner (.ref it) 6 es[i].key es[i].val) _ _ ⟨h1,g,dr,tk,os⟩
 unfold Builtin.Dict_items.pairFromOwner
 refine zwb0 (wpAny_newTuple ?_)
 have x2:IsItemIter (h1.push { cls:=.type "tuple",data:=.seq #[es[i].key,es[i].val] }) it d (i+1) es.size ep ok ov:=Heap.get?_push_of_some _ x1'
 generalize e2:h1.push { cls:=.type "tuple",data:=.seq #[es[i].key,es[i].val] } = h2 at x2
 have z1:h1.objs.size=hp.objs.size:=y1'.1
 have lt:it<hp.objs.size:=Heap.lt_size hit
 have t2:h2.get? hp.objs.size=some { cls:=.type "tuple",data:=.seq #[es[i].key,es[i].val] }:=by rw[← e2,← z1];exact Heap.get?_push_size _ rfl
 have z2:h2.objs.size=hp.objs.size+1:=by rw[← e2,Heap.size_push,z1]
 have k2:∀b o,b≠it→hp.get? b=some o→h2.get? b=some o:=fun b o hb e=>by rw[← e2];exact Heap.get?_push_of_some _ (y1'.extBut b o hb e)
 show wpAny _ _ (Builtin.Dict_items.ownedTupleIsFree (.ref it) >>= _) _ _ ⟨h2,g,dr,tk,os⟩
 rw[z1]
 clear e2 x1 x1' y1 y1' hT1 z1 h1
 refine zwb0 ?_
 unfold Builtin.Dict_items.ownedTupleIsFree
 refine zwb0 (wpAny_field x2 rfl (x:=.none) rfl (zwp0 ?_))
 simp only[if_true]
 refine zwb0 (wpAny_field x2 rfl (x:=ok) rfl (zwb0 (wpAny_field x2 rfl (x:=ov) rfl ?_)))
 refine zwb0 (wpAny_setField_rec x2 (by simp) fun h3 x3 y3=>?_)
 have y3':Heap.SameBut it h2 h3:=y3
 have x3':IsItemIter h3 it d (i+1) es.size ep es[i].key ov:=x3
 refine zwb0 (wpAny_setField_rec x3' (by simp) fun h4 x4 y4=>?_)
 have y4':Heap.SameBut it h3 h4:=y4
 have x4':IsItemIter h4 it d (i+1) es.size ep es[i].key es[i].val:=x4
 refine zwb0 (wpAny_setField_rec x4' (by simp) fun h5 x5 y5=>?_)
 have y5':Heap.SameBut it h4 h5:=y5
 have x5':IsItemIterOut h5 it d (i+1) es.size ep es[i].key es[i].val hp.objs.size:=x5
 refine zwb0 (wpAny_setField_rec x5' (by simp) fun h6 x6 y6=>?_)
 have y6':Heap.SameBut it h5 h6:=y6
 have x6':IsItemIterOut h6 it d (i+1) es.size ep es[i].key es[i].val hp.objs.size:=x6
 have all:∀b o,b≠it→h2.get? b=some o→h6.get? b=some o:=fun b o hb e=>y6'.extBut b o hb (y5'.extBut b o hb (y4'.extBut b o hb (y3'.extBut b o hb e)))
 refine zwb0 (wpAny_letGo (zwp0 (zwp0 ⟨_,rfl,zwp0 (hQ h6 x6' (all _ _ (Nat.ne_of_gt lt) t2) ?_ fun b o hb e=>all b o hb (k2 b o hb e))⟩)))
 show h6.objs.size=hp.objs.size+1
 rw[y6'.1,y5'.1,y4'.1,y3'.1,z2]
theorem yxs {it d:Addr}{i ep:Nat}{es:Array DictEntry}{ok ov:Value}{Q:Option Value→Shared→Prop}(hh:A.handled=none)(hit:IsItemIter s.heap it d i es.size ep ok ov)(hm:yxr s.heap d es ep)(hi:es.size≤i)
 (hQ:∀h',Heap.ExtBut it s.heap h'→Q none { s with heap:=h' }):wpAny (model prog w) A (pyNext (.ref it)) Q E s:=by
 obtain ⟨od,hod,hdd⟩:=hm
 have hT:s.TypeIs (.ref it) "dict_itemiterator" := ⟨_,hit,rfl⟩
 unfold pyNext
 refine zwb0 (wpAny_attempt (wpAny_callSpecial?_slot (name:=Str.ofString "__next__") hT PySem.F.slot_dict_itemiterator_next (wpAny_call_entry PySem.F.slot_dict_itemiterator_next hT PySem.F.entry_dict_itemiterator_next ?_ (PySem.F.args_dict_itemiterator_next_1 _))))
 refine zwb0 (zwp0 (zwb0 (zwb0 ?_)))
 first|refine zwb0 (wpAny_typeNameOfWhole_itemiter hT (zwp0 ?_))|refine zwb0 (wpAny_typeNameOf_itemiter hT (zwp0 ?_))
 refine zwb0 (wpAny_fieldsOf hit rfl ?_)
 simp only[show Builtin.Dict_items.ownsTuple "dict_itemiterator" = true from by decide,if_true]
 show wpAny _ _ (if (Value.ref d == Value.none)=true then _ else _) _ _ s
 rw[if_neg (show ¬ ((Value.ref d == Value.none)=true) from Bool.false_ne_true)]
 refine zwb0 (zwp0 (zwb0 (wpAny_dictEntries hod hdd ?_)))
 rw[if_neg (by simp)]
 refine zwb0 (zwp0 (zwb0 (wpAny_dictEpoch hod hdd ?_)))
 rw[if_neg (by simp)]
 refine zwp0 ?_
 simp only[show ¬ ((i:Int)<0) from by omega,if_false,Int.toNat_natCast,Array.getElem?_eq_none hi]
 refine zwb0 ?_
 first|refine zwb0 (wpAny_typeNameOfWhole_itemiter hT (zwp0 ?_))|refine zwb0 (wpAny_typeNameOf_itemiter hT (zwp0 ?_))
 show wpAny _ _ (setField (.ref it) 2 .none >>= _) _ _ s
 refine zwb0 (wpAny_setField hit rfl (by simp) ?_)
 show wpAny _ _ (newExc (.type "StopIteration") [] >>= _) _ _ _
 refine zwb0 ?_
 simp only[newExc,newTuple]
 refine zwb0 (wpAny_newObj_type ?_ (by size_fits))
 refine zwb0 (m:=firstArgMember _ _) (wpAny_of_eq (a:=Value.none) (by first|rfl|(simp only[firstArgMember];rfl)) ?_)
 refine wpAny_newObj_type ?_ (by size_fits)
 simp only[raiseNew]
 refine zwb0 (wpAny_handled ?_)
 rw[show A.in1.handled=none from hh]
 refine zwb0 (zwp0 (wpAny_throw ?_))
 refine zwb0 (wpAny_isInstance (b:=true) (T := "StopIteration") ⟨_,Heap.get?_push_size _ rfl,rfl⟩ isSubtype_stop ?_)
 exact zwp0 (hQ _ (((Heap.SameBut.update ..).extBut.push _).push _))
end
section
variable {prog:Program}{w:World}{A:Around}{E:Value→Shared→Prop}{s:Shared}
theorem ysv {v d:Addr}{es:Array DictEntry}{ep:Nat}{Q:Value→Shared→Prop}(hv:s.heap.IsValuesView v d)(hm:yxr s.heap d es ep)
 (hQ:Q (.ref s.heap.objs.size) { s with heap:=s.heap.push { cls:=.type "dict_valueiterator",data:=.fields #[.ref d,.int 0 0,.int es.size 0,.int ep 0] } }):wpAny (model prog w) A (pyIter (.ref v)) Q E s:=by
 obtain ⟨ov,e1,_,e2⟩:=id hv
 obtain ⟨o,e3,e4⟩:=hm
 refine wpAny_pyIter_slot hv.typeIs PySem.F.slot_dict_values_iter (wpAny_call_entry PySem.F.slot_dict_values_iter hv.typeIs PySem.F.entry_dict_values_iter ?_ (PySem.F.args_dict_values_iter_1 _))
 unfold Builtin.«dict_values.__iter__»
 refine zwb0 (zwp0 (zwb0 ?_))
 unfold Builtin.Dict_items.dictOf
 refine zwb0 (wpAny_field e1 e2 (x:=.ref d) rfl (zwp0 (zwb0 ?_)))
 unfold Builtin.Dict_items.newIterator
 refine zwb0 (wpAny_dictEntries e3 e4 (zwb0 (wpAny_dictEpoch e3 e4 ?_)))
 simp only[show Builtin.Dict_items.ownsTuple "dict_valueiterator" = false from by decide,Bool.false_eq_true,if_false]
 refine wpAny_newObj_type (zwp0 ⟨_,rfl,"dict_valueiterator",_,⟨_,Heap.get?_push_size _ rfl,rfl⟩,PySem.F.slot_dict_valueiterator_next.lookup,?_⟩)
 simpa [rawInt] using hQ
theorem ysw {it d:Addr}{i ep:Nat}{es:Array DictEntry}{Q:Option Value→Shared→Prop}(hit:s.heap.IsValIter it d i es.size ep)(hm:yxr s.heap d es ep)(hi:i<es.size)
 (hQ:∀h',h'.IsValIter it d (i+1) es.size ep→Heap.SameBut it s.heap h'→Q (some es[i].val) { s with heap:=h' }):wpAny (model prog w) A (pyNext (.ref it)) Q E s:=by
 obtain ⟨o,ho,hc,hd⟩:=id hit
 obtain ⟨od,hod,hdd⟩:=hm
 unfold pyNext
 refine zwb0 (wpAny_attempt (wpAny_callSpecial?_slot (name:=Str.ofString "__next__") hit.typeIs PySem.F.slot_dict_valueiterator_next (wpAny_call_entry PySem.F.slot_dict_valueiterator_next hit.typeIs PySem.F.entry_dict_valueiterator_next ?_ (PySem.F.args_dict_valueiterator_next_1 _))))
 refine zwb0 (zwp0 (zwb0 (zwb0 ?_)))
 first|refine zwb0 (wpAny_typeNameOfWhole_valiter hit.typeIs (zwp0 ?_))|refine zwb0 (wpAny_typeNameOf_valiter hit.typeIs (zwp0 ?_))
 refine zwb0 (wpAny_fieldsOf ho hd ?_)
 simp only[show Builtin.Dict_items.ownsTuple "dict_valueiterator" = false from by decide,Bool.false_eq_true,if_false]
 show wpAny _ _ (if (Value.ref d == Value.none)=true then _ else _) _ _ s
 rw[if_neg (show ¬ ((Value.ref d == Value.none)=true) from Bool.false_ne_true)]
 refine zwb0 (zwp0 (zwb0 (wpAny_dictEntries hod hdd ?_)))
 rw[if_neg (by simp)]
 refine zwb0 (zwp0 (zwb0 (wpAny_dictEpoch hod hdd ?_)))
 rw[if_neg (by simp)]
 refine zwp0 ?_
 simp only[show ¬ ((i:Int)<0) from by omega,if_false,Int.toNat_natCast,Array.getElem?_eq_getElem hi]
 refine zwb0 ?_
 first|refine zwb0 (wpAny_typeNameOfWhole_valiter hit.typeIs (zwp0 ?_))|refine zwb0 (wpAny_typeNameOf_valiter hit.typeIs (zwp0 ?_))
 refine zwb0 (wpAny_isOneOf_valiter hit.typeIs ?_)
 show wpAny _ _ (setField (.ref it) 1 (rawInt ((i:Int)+1)) >>= _) _ _ s
 refine zwb0 (wpAny_setField ho hd (by simp) ?_)
 have x1:(s.heap.update it (Obj.mapFields (·.setIfInBounds 1 (rawInt ((i:Int)+1))))).IsValIter it d (i+1) es.size ep:=
  ⟨_,Heap.get?_update_self _ ho (Obj.isFreed_of_fields (Obj.data_mapFields hd _)),(Obj.cls_mapFields ..).trans hc,by rw[Obj.data_mapFields hd];simp [rawInt]⟩
 have y1:=Heap.SameBut.update s.heap it (Obj.mapFields (·.setIfInBounds 1 (rawInt ((i:Int)+1))))
 have q1:=hQ _ x1 y1
 revert x1 q1
 generalize s.heap.update it (Obj.mapFields (·.setIfInBounds 1 (rawInt ((i:Int)+1))))=h1
 intro x1 q1
 refine zwb0 (wpAny_holding (zwb0 (wpAny_isOneOf_valiter (s:={ s with heap:=h1 }) x1.typeIs (zwb0 (wpAny_isOneOf_valiter (s:={ s with heap:=h1 }) x1.typeIs ?_)))))
 show wpAny _ _ (pure es[i].val) _ _ _
 exact zwp0 (zwp0 ⟨_,rfl,zwp0 q1⟩)
theorem yu8 {it d:Addr}{i ep:Nat}{es:Array DictEntry}{Q:Option Value→Shared→Prop}(hh:A.handled=none)(hit:s.heap.IsValIter it d i es.size ep)(hm:yxr s.heap d es ep)(hi:es.size≤i)
 (hQ:∀h',Heap.ExtBut it s.heap h'→Q none { s with heap:=h' }):wpAny (model prog w) A (pyNext (.ref it)) Q E s:=by
 obtain ⟨o,ho,hc,hd⟩:=id hit
 obtain ⟨od,hod,hdd⟩:=hm
 unfold pyNext
 refine zwb0 (wpAny_attempt (wpAny_callSpecial?_slot (name:=Str.ofString "__next__") hit.typeIs PySem.F.slot_dict_valueiterator_next (wpAny_call_entry PySem.F.slot_dict_valueiterator_next hit.typeIs PySem.F.entry_dict_valueiterator_next ?_ (PySem.F.args_dict_valueiterator_next_1 _))))
 refine zwb0 (zwp0 (zwb0 (zwb0 ?_)))
 first|refine zwb0 (wpAny_typeNameOfWhole_valiter hit.typeIs (zwp0 ?_))|refine zwb0 (wpAny_typeNameOf_valiter hit.typeIs (zwp0 ?_))
 refine zwb0 (wpAny_fieldsOf ho hd ?_)
 simp only[show Builtin.Dict_items.ownsTuple "dict_valueiterator" = false from by decide,Bool.false_eq_true,if_false]
 show wpAny _ _ (if (Value.ref d == Value.none)=true then _ else _) _ _ s
 rw[if_neg (show ¬ ((Value.ref d == Value.none)=true) from Bool.false_ne_true)]
 refine zwb0 (zwp0 (zwb0 (wpAny_dictEntries hod hdd ?_)))
 rw[if_neg (by simp)]
 refine zwb0 (zwp0 (zwb0 (wpAny_dictEpoch hod hdd ?_)))
 rw[if_neg (by simp)]
 refine zwp0 ?_
 simp only[show ¬ ((i:Int)<0) from by omega,if_false,Int.toNat_natCast,Array.getElem?_eq_none hi]
 refine zwb0 ?_
 first|refine zwb0 (wpAny_typeNameOfWhole_valiter hit.typeIs (zwp0 ?_))|refine zwb0 (wpAny_typeNameOf_valiter hit.typeIs (zwp0 ?_))
 show wpAny _ _ (setField (.ref it) 0 .none >>= _) _ _ s
 refine zwb0 (wpAny_setField ho hd (by simp) ?_)
 show wpAny _ _ (newExc (.type "StopIteration") [] >>= _) _ _ _
 refine zwb0 ?_
 simp only[newExc,newTuple]
 refine zwb0 (wpAny_newObj_type ?_ (by size_fits))
 refine zwb0 (m:=firstArgMember _ _) (wpAny_of_eq (a:=Value.none) (by first|rfl|(simp only[firstArgMember];rfl)) ?_)
 refine wpAny_newObj_type ?_ (by size_fits)
 simp only[raiseNew]
 refine zwb0 (wpAny_handled ?_)
 rw[show A.in1.handled=none from hh]
 refine zwb0 (zwp0 (wpAny_throw ?_))
 refine zwb0 (wpAny_isInstance (b:=true) (T := "StopIteration") ⟨_,Heap.get?_push_size _ rfl,rfl⟩ isSubtype_stop ?_)
 exact zwp0 (hQ _ (((Heap.SameBut.update ..).extBut.push _).push _))
end
def Itd (o:Obj)(kvs:List (List Key×V))(a:Addr):It:=
 ⟨fun i H=>H a=some (.frz o (.dT kvs))∧i<kvs.length,
  fun i H v H'=>∃p b k x,v = .ref p∧H p=none∧H' = upd H p (.tup [.ref b,x])∧kvs[i]? = some (k,x)∧H b=some (.tup (k.map kV)),
  fun i H=>H a=some (.frz o (.dT kvs))∧kvs.length≤i⟩
def zay (it d:Addr)(n ep:Nat)(i:Nat)(h:Heap):Prop:=∃ok ov,IsItemIter h it d i n ep ok ov
theorem yg0 {X:Cx}{pins:List (Addr×Obj)}{σ:St}{H:Hp}{s:Shared}{a:Addr}{o:Obj}{kvs:List (List Key×V)}(I:Inv X pins σ H s)(e:H a=some (.frz o (.dT kvs))):∃es ep xs,o.data = .dict es ep∧yxr s.heap a es ep∧KT H kvs xs∧es.toList=xs.map (entryOfKey (tupleKind (ybq X.prog X.w)))∧es.size=kvs.length:=by
 obtain ⟨h1,z,hd,xs,rel,o',es,ep,h2,h3,h4,h5,h6⟩:=(show ObjOk X.prog X.w H s.heap a (.frz o (.dT kvs)) from I.hok a _ e)
 rw[h1] at h2
 cases h2
 exact⟨es,ep,xs,h4,⟨o,h1,h4⟩,rel,h5,by rw[size_of_entries h5];exact(Paired.length rel).symm⟩
theorem yzp {H:Hp}{kvs:List (List Key×V)}{xs:List (List Key×Addr×Value)}(r:KT H kvs xs):∀{i:Nat}{q:List Key×Addr×Value},xs[i]? = some q→∃p,kvs[i]? = some p∧p.1=q.1∧H q.2.1=some (.tup (p.1.map kV))∧RelV p.2 q.2.2:=by
 induction r with
 |nil=>intro i q e;cases e
 |cons h t ih=>
  intro i q e
  cases i with
  |zero=>cases e;exact⟨_,rfl,h⟩
  |succ i=>exact ih e
theorem yjh:entryFor table "dict_itemiterator.__iter__" = some Builtin.«dict_keyiterator.__iter__»:=entryFor_alias (by kernel_rfl) rfl (id' := "dict_keyiterator.__iter__") (by decide +kernel) (by kernel_rfl)
theorem yp8 {P:Program}{w:World}{K:PySem.W.Frag}{es:List Expr}{x1:Nat}{tp:Pos}{it d:Addr}{n ep:Nat}{o:Obj}{ents:Array DictEntry}{kvs:List (List Key×V)}(ho:o.data = .dict ents ep)(hn:ents.size=n):Turn P w K (.Tuple es x1 tp) (Itd o kvs d) [it] it (zay it d n ep) where
 mem:=by simp
 obj:=fun i h ⟨ok,ov,t1⟩ c hc=>by
  have e:c=it:=by simpa using hc
  subst e
  exact⟨_,t1,fun v q=>by cases q⟩
 keep:=fun i h h' ⟨ok,ov,t1⟩ k=>⟨ok,ov,k it (by simp) _ t1⟩
 item:=by
  intro X hP hw hK hc i pins s σ H E I hf ⟨ok,ov,t1⟩ ⟨ea,hi⟩
  subst hP hw hK hn
  obtain ⟨es',ep',xs,e1,hm,rel,he,hsz⟩:=yg0 I ea
  rw[ho] at e1
  cases e1
  have hi':i<ents.size:=by omega
  refine yu7 t1 hm hi' fun h' a1 a2 a3 a4=>?_
  refine⟨_,rfl,wpAny_letOwnedTupleGo_items a1 fun h'' c1 c2=>?_⟩
  have nz:s.heap.objs.size≠it:=Nat.ne_of_gt (Heap.lt_size t1)
  have I1:Inv X pins σ H { s with heap:=h'',toks:=s.toks }:=I.turnedL hf fun c o hc q=>by
   simp only[List.mem_cons,List.not_mem_nil,or_false] at hc
   exact c2.extBut c o hc (a4 c o hc q)
  have ex:ents[i]? = (xs[i]?).map (entryOfKey (tupleKind (ybq X.prog X.w))):=entry_at he i
  rw[Array.getElem?_eq_getElem hi'] at ex
  cases q:xs[i]? with
  |none=>rw[q] at ex;cases ex
  |some x=>
   rw[q] at ex
   have eq1:ents[i]=entryOfKey (tupleKind (ybq X.prog X.w)) x:=Option.some.inj ex
   obtain ⟨p,ep1,ek,hb,rv⟩:=yzp rel q
   have k1:ents[i].key = .ref x.2.1:=by rw[eq1];rfl
   have v1:ents[i].val=x.2.2:=by rw[eq1];rfl
   rw[k1,v1] at a2
   have I2:=I.trackNew (t':=s.toks) (o:=.tup [.ref x.2.1,p.2]) I1 (Nat.le_refl _) ⟨by show 2≤sizeLine;decide,[.ref x.2.1,x.2.2],.cons rfl (.cons rv .nil),⟨_,c2.extBut _ _ nz a2,rfl,_,rfl⟩⟩
   have fr:H s.heap.objs.size=none:=I.hok.fresh (Nat.le_refl _)
   refine⟨.ref s.heap.objs.size,_,I2,rfl,⟨s.heap.objs.size,x.2.1,p.1,p.2,rfl,fr,rfl,ep1,hb⟩,⟨_,_,c1⟩,fun c hc=>?_⟩
   have e:c=it:=by simpa using hc
   subst e
   rw[yak (Ne.symm nz)]
   exact(hf c (by simp)).1
 done:=by
  intro X hP hw hK hc i pins s σ H E I hf ⟨ok,ov,t1⟩ ⟨ea,hi⟩
  subst hP hw hK hn
  obtain ⟨es',ep',xs,e1,hm,rel,he,hsz⟩:=yg0 I ea
  rw[ho] at e1
  cases e1
  refine yxs (I.ok.hd hc) t1 hm (by omega) fun h' kk=>⟨rfl,I.turnedL (t':=s.toks) hf fun c o hc q=>?_⟩
  simp only[List.mem_cons,List.not_mem_nil,or_false] at hc
  exact kk c o hc q
 self:=fun A _ s Q E ⟨ok,ov,t1⟩ h=>by
  have hT:s.TypeIs (.ref it) "dict_itemiterator" := ⟨_,t1,rfl⟩
  refine wpAny_pyIter_slot hT PySem.F.slot_dict_itemiterator_iter (wpAny_call_entry PySem.F.slot_dict_itemiterator_iter hT yjh ?_ (PySem.F.args_dict_itemiterator_iter_1 _))
  show wpAny _ _ (ret (.ref it)) _ _ s
  exact zwp0 ⟨_,rfl,"dict_itemiterator",_,hT,PySem.F.slot_dict_itemiterator_next.lookup,h⟩
section
variable {X:Cx}{es:List Expr}{x1:Nat}{tp:Pos}{oe:Expr}{td:TE}{apos cpos:Pos}
def zby (td:TE):TI:=fun σ H R=>td σ H fun x H1=>∃a o kvs,x = .ref a∧H1 a=some (.frz o (.dT kvs))∧R (Itd o kvs a) H1
theorem ywo {pins:List (Addr×Obj)}{σ:St}{H:Hp}{s:Shared}{a:Addr}{o:Obj}{kvs:List (List Key×V)} (I:Inv X pins σ H s) (e:H a=some (.frz o (.dT kvs))):s.TypeIs (.ref a) "dict" ∧ (∀b,Value.ref a = .ref b→∃ob,s.heap.get? b=some ob∧ob.dict=none)∧(a == sysModules)=false:=yzn I (.inr ⟨kvs,.inr ⟨o,e⟩⟩)
theorem ypc (ho:PE X oe td) (hbase:attributeBase oe "items" X.env (eval oe X.env)=eval oe X.env:=by rfl) (hline:(apos.endLine == cpos.line)=true:=by rfl):PI X (.Tuple es x1 tp) (.Call (.Attribute oe "items" apos) [] [] cpos) (zby td):=by
 refine⟨?_⟩
 intro pins s σ H R I h
 refine wpAny_Call_method0_late hbase hline (thn (ho pins s σ H _ I h) fun v s1 ⟨x,H1,I1,r1,a,o,kvs,ex,ea,q⟩=>?_)
 subst ex
 cases r1
 obtain ⟨t1,t2,t3⟩:=ywo I1 ea
 refine⟨"dict","dict.items",PySem.F.plainAttrs_dict,PySem.F.slot_dict_items,PySem.F.type_dict_items,t1,t2,Calls.callWith_builtin rfl (PySem.evalArgs_none ?_)⟩
 refine wpAny_call_entry PySem.F.slot_dict_items t1 PySem.F.entry_dict_items ?_ (PySem.F.args_dict_items_1 _)
 unfold Builtin.«dict.items» Builtin.Dict.noArgs
 refine zwb0 (zwb0 (wpAny_notOrdered_dict t1 ?_))
 show wpAny _ _ (pure a) _ _ s1
 refine zwp0 ?_
 show wpAny _ _ (Builtin.Dict.showsAll a >>= _) _ _ s1
 unfold Builtin.Dict.showsAll
 rw[if_neg (by rw[t3];exact Bool.false_ne_true)]
 refine zwb0 (zwp0 (zwb0 (wpAny_newObj_type (zwp0 ⟨_,rfl,?_⟩))))
 obtain ⟨ents,ep,xs,e1,⟨o',r1,r2⟩,rel,he,hsz⟩:=yg0 I1 ea
 have I2:Inv X pins σ H1 { s1 with heap:=s1.heap.push { cls:=.type "dict_items",data:=.fields #[.ref a] } }:=I1.kept (t':=s1.toks) fun b o e=>Heap.get?_push_of_some _ e
 refine yu6 (es:=ents) (ep:=ep) ⟨_,Heap.get?_push_size _ rfl,rfl,rfl⟩ ⟨o',Heap.get?_push_of_some _ r1,r2⟩ ?_
 revert I2
 generalize ({ s1 with heap:=s1.heap.push { cls:=.type "dict_items",data:=.fields #[.ref a] } }:Shared)=s2
 intro I2
 have I3:Inv X pins σ H1 { s2 with heap:=s2.heap.push { cls:=.type "dict_itemiterator",data:=.fields #[.none,.bool false,.ref a,.int 0 0,.int ents.size 0,.int ep 0,.none,.none] } }:=I2.kept (t':=s2.toks) fun b o e=>Heap.get?_push_of_some _ e
 refine⟨_,[s2.heap.objs.size],_,_,H1,rfl,I3,yp8 (ep:=ep) (n:=ents.size) e1 rfl,⟨.none,.none,Heap.get?_push_size _ rfl⟩,fun c hc=>?_,q⟩
 have e:c=s2.heap.objs.size:=by simpa using hc
 subst e
 exact I2.fpOk (H':=H1) (Nat.le_refl _) (I2.hok.fresh (Nat.le_refl _))
end
def Itv (o:Obj)(kvs:List (List Key×V))(a:Addr):It:=
 ⟨fun i H=>H a=some (.frz o (.dT kvs))∧i<kvs.length,fun i H v H'=>H' = H∧∃k,kvs[i]? = some (k,v),fun i H=>H a=some (.frz o (.dT kvs))∧kvs.length≤i⟩
theorem ysx {P:Program}{w:World}{K:PySem.W.Frag}{tg:Expr}{it d:Addr}{n ep:Nat}{o:Obj}{ents:Array DictEntry}{kvs:List (List Key×V)}(ho:o.data = .dict ents ep)(hn:ents.size=n):Turn P w K tg (Itv o kvs d) [it] it (fun i h=>h.IsValIter it d i n ep) where
 mem:=by simp
 obj:=fun i h st c hc=>by
  have e:c=it:=by simpa using hc
  subst e
  obtain ⟨o,e,_,d⟩:=st
  exact⟨o,e,fun v z=>by rw[d] at z;cases z⟩
 keep:=fun i h h' st k=>st.at fun o e=>k it (by simp) o e
 item:=by
  intro X hP hw hK hc i pins s σ H E I hf st ⟨ea,hi⟩
  subst hP hw hK hn
  obtain ⟨es',ep',xs,e1,hm,rel,he,hsz⟩:=yg0 I ea
  rw[ho] at e1
  cases e1
  have hi':i<ents.size:=by omega
  refine ysw st hm hi' fun h' a1 a2=>?_
  obtain ⟨oi,g1,g2,g3⟩:=a1
  refine⟨_,rfl,yw4 g1 g2 g3 (by decide) ?_⟩
  have I1:Inv X pins σ H { s with heap:=h',toks:=s.toks }:=I.turnedL hf fun c o hc q=>by
   simp only[List.mem_cons,List.not_mem_nil,or_false] at hc
   exact a2.extBut c o hc q
  have ex:ents[i]? = (xs[i]?).map (entryOfKey (tupleKind (ybq X.prog X.w))):=entry_at he i
  rw[Array.getElem?_eq_getElem hi'] at ex
  cases q:xs[i]? with
  |none=>rw[q] at ex;cases ex
  |some x=>
   rw[q] at ex
   have eq1:ents[i]=entryOfKey (tupleKind (ybq X.prog X.w)) x:=Option.some.inj ex
   obtain ⟨p,ep1,ek,hb,rv⟩:=yzp rel q
   have v1:ents[i].val=x.2.2:=by rw[eq1];rfl
   rw[v1]
   exact⟨p.2,H,I1,rv,⟨rfl,p.1,ep1⟩,⟨oi,g1,g2,g3⟩,fun c hc=>(hf c hc).1⟩
 done:=by
  intro X hP hw hK hc i pins s σ H E I hf st ⟨ea,hi⟩
  subst hP hw hK hn
  obtain ⟨es',ep',xs,e1,hm,rel,he,hsz⟩:=yg0 I ea
  rw[ho] at e1
  cases e1
  refine yu8 (I.ok.hd hc) st hm (by omega) fun h' kk=>⟨rfl,I.turnedL (t':=s.toks) hf fun c o hc q=>?_⟩
  simp only[List.mem_cons,List.not_mem_nil,or_false] at hc
  exact kk c o hc q
 self:=fun _ _ _ _ _ st h=>wpAny_pyIter_valiter st h
section
variable {X:Cx}{tg:Expr}{oe:Expr}{td:TE}{apos cpos:Pos}
def zbz (td:TE):TI:=fun σ H R=>td σ H fun x H1=>∃a o kvs,x = .ref a∧H1 a=some (.frz o (.dT kvs))∧R (Itv o kvs a) H1
theorem ysy (ho:PE X oe td) (hbase:attributeBase oe "values" X.env (eval oe X.env)=eval oe X.env:=by rfl) (hline:(apos.endLine == cpos.line)=true:=by rfl):PI X tg (.Call (.Attribute oe "values" apos) [] [] cpos) (zbz td):=by
 refine⟨?_⟩
 intro pins s σ H R I h
 refine wpAny_Call_method0_late hbase hline (thn (ho pins s σ H _ I h) fun v s1 ⟨x,H1,I1,r1,a,o,kvs,ex,ea,q⟩=>?_)
 subst ex
 cases r1
 obtain ⟨t1,t2,t3⟩:=ywo I1 ea
 refine⟨"dict","dict.values",PySem.F.plainAttrs_dict,PySem.F.slot_dict_values,PySem.F.type_dict_values,t1,t2,Calls.callWith_builtin rfl (PySem.evalArgs_none ?_)⟩
 refine wpAny_call_entry PySem.F.slot_dict_values t1 PySem.F.entry_dict_values ?_ (PySem.F.args_dict_values_1 _)
 refine zwb0 ?_
 unfold Builtin.Dict.noArgs
 refine zwb0 (wpAny_notOrdered_dict t1 ?_)
 show wpAny _ _ (pure a) _ _ s1
 refine zwp0 ?_
 show wpAny _ _ (Builtin.Dict.showsAll a >>= _) _ _ s1
 unfold Builtin.Dict.showsAll
 rw[if_neg (by rw[t3];exact Bool.false_ne_true)]
 refine zwb0 (zwp0 (zwb0 (wpAny_newObj_type (zwp0 ⟨_,rfl,?_⟩))))
 obtain ⟨ents,ep,xs,e1,⟨o',r1,r2⟩,rel,he,hsz⟩:=yg0 I1 ea
 have I2:Inv X pins σ H1 { s1 with heap:=s1.heap.push { cls:=.type "dict_values",data:=.fields #[.ref a] } }:=I1.kept (t':=s1.toks) fun b o e=>Heap.get?_push_of_some _ e
 refine ysv (es:=ents) (ep:=ep) ⟨_,Heap.get?_push_size _ rfl,rfl,rfl⟩ ⟨o',Heap.get?_push_of_some _ r1,r2⟩ ?_
 revert I2
 generalize ({ s1 with heap:=s1.heap.push { cls:=.type "dict_values",data:=.fields #[.ref a] } }:Shared)=s2
 intro I2
 have I3:Inv X pins σ H1 { s2 with heap:=s2.heap.push { cls:=.type "dict_valueiterator",data:=.fields #[.ref a,.int 0 0,.int ents.size 0,.int ep 0] } }:=I2.kept (t':=s2.toks) fun b o e=>Heap.get?_push_of_some _ e
 refine⟨_,[s2.heap.objs.size],_,_,H1,rfl,I3,ysx (ep:=ep) (n:=ents.size) e1 rfl,⟨_,Heap.get?_push_size _ rfl,rfl,rfl⟩,fun c hc=>?_,q⟩
 have e:c=s2.heap.objs.size:=by simpa using hc
 subst e
 exact I2.fpOk (H':=H1) (Nat.le_refl _) (I2.hok.fresh (Nat.le_refl _))
end
theorem yn6 (elt target iter:Expr)(c0:Comprehension)(ifs:List Expr)(scope:Scope)(pos:Pos)(it acc:Value)(env:Env) :
 compTurn (.ListComp elt [c0,⟨target,iter,ifs,0⟩] scope pos) 1 it acc env=(do
  standAt iter.pos
  match ← pyNext it with
  |none=>pure (.done .next)
  |some v=>
   letOwnedTupleGo target it v
   assign target env v
   let mut ok:=true
   for c in ifs do
    if ok then ok ← isTrue c env (eval c env)
   if ok then
    (do let _ ← call (.builtin "list.append") [acc,← eval elt env])
   again (.compLoop (.ListComp elt [c0,⟨target,iter,ifs,0⟩] scope pos) 1 it acc env)):=by rfl
theorem ymd (elt t0 i0 t1 i1:Expr)(ifs0 ifs:List Expr)(scope:Scope)(pos:Pos)(it acc:Value)(env:Env) :
 compTurn (.ListComp elt [⟨t0,i0,ifs0,0⟩,⟨t1,i1,ifs,0⟩] scope pos) 0 it acc env=(do
  standAt i0.pos
  match ← pyNext it with
  |none=>pure (.done .next)
  |some v=>
   letOwnedTupleGo t0 it v
   assign t0 env v
   let mut ok:=true
   for c in ifs0 do
    if ok then ok ← isTrue c env (eval c env)
   if ok then
    let x ← eval i1 env
    standAt i1.pos
    let x ← foldedSetIterable i1 env x
    let _ ← runOwn (.compStart (.ListComp elt [⟨t0,i0,ifs0,0⟩,⟨t1,i1,ifs,0⟩] scope pos) 1 (← holding [x] (pyIter x)) acc env) env
   again (.compLoop (.ListComp elt [⟨t0,i0,ifs0,0⟩,⟨t1,i1,ifs,0⟩] scope pos) 0 it acc env)):=by rfl
section
variable {prog:Program}{w:World}{A:Around}{R:Result→Shared→Prop}{s:Shared}
theorem yme {elt target iter ifs scope pos it acc env}{c0:Comprehension}
 (h0:codeAny (model prog w) A (.compLoop (.ListComp elt [c0,⟨target,iter,ifs,0⟩] scope pos) 1 it acc env) R s)
 (h:wpAny (model prog w) A (pyIter it) (fun it' s'=>codeAny (model prog w) A (.compLoop (.ListComp elt [c0,⟨target,iter,ifs,0⟩] scope pos) 1 it' acc env) R s') (notedBy (model prog w) A env fun x s'=>R (.error x) s') s) :
 codeAny (model prog w) A (.compStart (.ListComp elt [c0,⟨target,iter,ifs,0⟩] scope pos) 1 it acc env) R s:=by
 refine codeAny_of_tree ?_
 show wpAny _ _ ((compStart (.ListComp elt [c0,⟨target,iter,ifs,0⟩] scope pos) 1 it acc env).onRaise (fun x=>do noteFrame x env;standAt theWindowsPlace)) _ _ s
 refine wpAny_notedAt ?_
 unfold compStart
 show wpAny _ _ (ask >>= _) _ _ s
 refine zwb0 (wpAny_askSetting (wpAny_ite ?_))
 split
 ·first|exact zwb0 (zwp0 (zwp0 (And.intro rfl h0)))|exact zwp0 (And.intro rfl h0)
 ·refine zwb0 (wpAny_rule ?_)
  show wpAny _ _ (standAt iter.pos >>= _) _ _ s
  exact zwb0 (wpAny_standAt (zwb0 (wpAny_mono h (fun it' s' h'=>zwp0 (And.intro rfl h')) fun _ _ x=>x)))
end
section
variable {X:Cx}{N':List Str}{ix:List (Option Nat)}{scope:Scope}{elt tg iter:Expr}{ifs:List Expr}{pos:Pos}{wi:TI}{g:TG}{ti:TT}{te:TE}
theorem yxt {X':Cx}{c0:Comprehension}{pins:List (Addr×Obj)}{R:Hp→Prop}{σ₀:St}{H:Hp}{s:Shared}{it D:Addr}{fp:List Addr}{tn:Nat→Heap→Prop}{J:It}{W:Nat→Nat→Hp→Prop}{m0:Nat}(I:Inv X' pins σ₀ H s)(hcalm:X'.calm=true)(hxe:X'.xe=fun _ _=>False)
 (T:Turn X'.prog X'.w X'.K tg J fp it tn) (st:tn 0 s.heap) (hf:∀b∈fp,ye8 X' pins H b) (hg:PG X' tg g) (hi:PIfs X' ifs ti) (he:PE X' elt te) (w0:W 0 m0 H)
 (turn:∀i m H,W i m H→(J.stop i H∧R H)∨(J.go i H∧∀x H',J.yld i H x H'→g x σ₀ H' fun σ2 H2=>(∀(k:Nat) v,σ₀[k]? = some (some v)→σ2[k]? = some (some v))∧ti σ2 H2 fun b H3=>
  if b=true then te σ2 H3 fun y H4=>∃zs,H4 D=some (.lst zs)∧zs.length<sizeLine∧∃m',m' < m∧W (i+1) m' (upd H4 D (.lst (zs++[y]))) else ∃m',m' < m∧W (i+1) m' H3)) :
 codeAny (model X'.prog X'.w) X'.A (.compStart (.ListComp elt [c0,⟨tg,iter,ifs,0⟩] scope pos) 1 (.ref it) (.ref D) X'.env) (fun r s'=>(∃f,r = .ok f)∧∃H',Inv X' pins σ₀ H' s'∧R H') s:=by
 have stat:∀{H':Hp},(∀b∈fp,H' b=none)→∀b∈fp,ye8 X' pins H' b:=fun hn b hb=>⟨hn b hb,(hf b hb).2⟩
 have loop:codeAny (model X'.prog X'.w) X'.A (.compLoop (.ListComp elt [c0,⟨tg,iter,ifs,0⟩] scope pos) 1 (.ref it) (.ref D) X'.env) (fun r s'=>(∃f,r = .ok f)∧∃H',Inv X' pins σ₀ H' s'∧R H') s:=by
  refine codeAny_loop rfl (fun n s'=>∃i H',Inv X' pins σ₀ H' s'∧tn i s'.heap∧(∀b∈fp,H' b=none)∧W i n H') ?_ m0 ⟨0,H,I,st,fun b hb=>(hf b hb).1,w0⟩
  rintro n s1 ⟨i,H1,I1,st1,fr1,w1⟩
  show wpAny _ X'.A ((compTurn (.ListComp elt [c0,⟨tg,iter,ifs,0⟩] scope pos) 1 (.ref it) (.ref D) X'.env).onRaise (fun x=>do noteFrame x X'.env;theTreesLotGoes x)) _ _ s1
  refine wpAny_noted ?_
  have noE:∀{α:Type}{t:Sem α}{P:α→Shared→Prop}{F:Value→Shared→Prop}{s:Shared},wpAny (model X'.prog X'.w) X'.A t P X'.xe s→wpAny (model X'.prog X'.w) X'.A t P F s:=fun h=>wpAny_mono h (fun _ _ x=>x) fun e s' x=>by rw[hxe] at x;exact x.elim
  rw[yn6]
  refine zwb0 (wpAny_standAt (zwb0 ?_))
  rcases turn i n H1 w1 with ⟨stop,qn⟩ | ⟨go,step⟩
  ·refine thn (T.done X' rfl rfl rfl hcalm i pins s1 σ₀ H1 _ I1 (stat fr1) st1 stop) fun r s2 ⟨hr,I2⟩=>?_
   subst hr
   exact zwp0 ⟨⟨_,rfl⟩,H1,I2,qn⟩
  ·refine thn (T.item X' rfl rfl rfl hcalm i pins s1 σ₀ H1 _ I1 (stat fr1) st1 go) fun r s2 ⟨u,hr,h2⟩=>?_
   subst hr
   refine zwb0 (thn h2 fun _ s3 ⟨x,H3,I3,r3,y3,st3,fr3⟩=>?_)
   have I3':=I3.pinned (stat fr3) (T.obj _ _ st3)
   refine zwb0 (noE (thn (hg _ s3 σ₀ H3 x u _ I3' r3 (step x H3 y3)) fun _ s4 ⟨σ4,H4,I4,hk4,q4⟩=>?_))
   refine zwb0 (noE (thn (hi _ s4 σ4 H4 _ I4 q4) fun ok s5 ⟨H5,I5,q5⟩=>?_))
   have again':∀{s7:Shared}{H7:Hp}{m':Nat},Inv X' (pins++yf0 fp s3.heap) σ4 H7 s7→m' < n→W (i+1) m' H7→∃m,m<n∧∃i H',Inv X' pins σ₀ H' s7∧tn i s7.heap∧(∀b∈fp,H' b=none)∧W i m H':=fun {s7 H7 m'} I7 hm w7=>by
    refine⟨m',hm,i+1,H7,I7.unpinned.weak (by rw[I3.len,I7.len]) hk4,T.keep _ _ _ st3 fun b hb o e=>(I7.pin (b,o) (List.mem_append_right _ (List.mem_append_right _ (yba hb e)))).1,fun b hb=>?_,w7⟩
    obtain ⟨o,e,d⟩:=T.obj _ _ st3 b hb
    exact(I7.pin (b,o) (List.mem_append_right _ (List.mem_append_right _ (yba hb e)))).2.1
   cases ok with
   |false=>
    obtain ⟨m',hm,w7⟩:=q5
    exact zwp0 ⟨rfl,again' I5 hm w7⟩
   |true=>
    refine zwb0 (zwb0 (noE (thn (he _ s5 σ4 H5 _ I5 q5) fun y s6 ⟨yv,H6,I6,r6,zs,hD,hz,m',hm,w7⟩=>?_)))
    refine zwb0 (noE (thn (yd8 (X:=X') _ s6 σ4 H6 (.ref D) [yv] (.ref D) [y] (fun v H7=>H7=upd H6 D (.lst (zs++[yv]))) I6 rfl (.cons r6 .nil) ⟨D,zs,yv,rfl,rfl,hD,hz,rfl⟩) fun v s7 ⟨vv,H7,I7,_,e7⟩=>?_))
    subst e7
    exact zwp0 (zwp0 ⟨rfl,again' I7 hm w7⟩)
 refine yme loop (T.self _ 0 s _ _ st loop)
variable {t1 i1:Expr}{wi1:TI}{g1:TG}
def two (J:It)(R:Hp→Prop)(D:Addr)(σ₀:St)(g:TG)(wi1:TI)(g1:TG)(ti:TT)(te:TE)(W:Nat→Nat→Hp→Prop):Prop:=∀i m H,W i m H→(J.stop i H∧R H)∨(J.go i H∧∀x H',J.yld i H x H'→g x σ₀ H' fun σ1 H1=>(∀(k:Nat) v,σ₀[k]? = some (some v)→σ1[k]? = some (some v))∧wi1 σ1 H1 fun J1 H2=>
 ∃W1:Nat→Nat→Hp→Prop,(∃m1,W1 0 m1 H2)∧∀j m1 H3,W1 j m1 H3→(J1.stop j H3∧∃m',m' < m∧W (i+1) m' H3)∨(J1.go j H3∧∀y H4,J1.yld j H3 y H4→g1 y σ1 H4 fun σ2 H5=>(∀(k:Nat) v,σ1[k]? = some (some v)→σ2[k]? = some (some v))∧ti σ2 H5 fun b H6=>
  if b=true then te σ2 H6 fun z H7=>∃zs,H7 D=some (.lst zs)∧zs.length<sizeLine∧∃m',m' < m1∧W1 (j+1) m' (upd H7 D (.lst (zs++[z]))) else ∃m',m' < m1∧W1 (j+1) m' H6))
def yzq (ix:List (Option Nat))(wi:TI)(g:TG)(wi1:TI)(g1:TG)(ti:TT)(te:TE):TE:=fun σ H Q=>wi σ H fun J H1=>∀D,H1 D=none→∃W:Nat→Nat→Hp→Prop,(∃m,W 0 m (upd H1 D (.lst [])))∧two J (Q (.ref D)) D (ybe ix σ) g wi1 g1 ti te W
theorem yp9 {X':Cx}{σ₀:St}{H:Hp}{s:Shared}{R:Hp→Prop}{it D:Addr}{fp:List Addr}{tn:Nat→Heap→Prop}{J:It}{W:Nat→Nat→Hp→Prop}{m0:Nat}(I:Inv X' [] σ₀ H s)(hcalm:X'.calm=true)(hxe:X'.xe=fun _ _=>False)
 (T:Turn X'.prog X'.w X'.K tg J fp it tn) (st:tn 0 s.heap) (hf:∀b∈fp,ye8 X' [] H b) (hg:PG X' tg g) (hi1:PI X' t1 i1 wi1) (hg1:PG X' t1 g1) (hi:PIfs X' ifs ti) (he:PE X' elt te) (w0:W 0 m0 H) (hs1:∀x,foldedSetIterable i1 X'.env x=pure x)
 (turn:two J R D σ₀ g wi1 g1 ti te W) :
 codeAny (model X'.prog X'.w) X'.A (.compStart (.ListComp elt [⟨tg,iter,[],0⟩,⟨t1,i1,ifs,0⟩] scope pos) 0 (.ref it) (.ref D) X'.env) (fun r s'=>(∃f,r = .ok f)∧∃H',Inv X' [] σ₀ H' s'∧R H') s:=by
 have stat:∀{H':Hp},(∀b∈fp,H' b=none)→∀b∈fp,ye8 X' [] H' b:=fun hn b hb=>⟨hn b hb,(hf b hb).2⟩
 have loop:codeAny (model X'.prog X'.w) X'.A (.compLoop (.ListComp elt [⟨tg,iter,[],0⟩,⟨t1,i1,ifs,0⟩] scope pos) 0 (.ref it) (.ref D) X'.env) (fun r s'=>(∃f,r = .ok f)∧∃H',Inv X' [] σ₀ H' s'∧R H') s:=by
  refine codeAny_loop rfl (fun n s'=>∃i H',Inv X' [] σ₀ H' s'∧tn i s'.heap∧(∀b∈fp,H' b=none)∧W i n H') ?_ m0 ⟨0,H,I,st,fun b hb=>(hf b hb).1,w0⟩
  rintro n s1 ⟨i,H1,I1,st1,fr1,w1⟩
  show wpAny _ X'.A ((compTurn (.ListComp elt [⟨tg,iter,[],0⟩,⟨t1,i1,ifs,0⟩] scope pos) 0 (.ref it) (.ref D) X'.env).onRaise (fun x=>do noteFrame x X'.env;theTreesLotGoes x)) _ _ s1
  refine wpAny_noted ?_
  have noE:∀{α:Type}{t:Sem α}{P:α→Shared→Prop}{F:Value→Shared→Prop}{s:Shared},wpAny (model X'.prog X'.w) X'.A t P X'.xe s→wpAny (model X'.prog X'.w) X'.A t P F s:=fun h=>wpAny_mono h (fun _ _ x=>x) fun e s' x=>by rw[hxe] at x;exact x.elim
  rw[ymd]
  refine zwb0 (wpAny_standAt (zwb0 ?_))
  rcases turn i n H1 w1 with ⟨stop,qn⟩ | ⟨go,step⟩
  ·refine thn (T.done X' rfl rfl rfl hcalm i [] s1 σ₀ H1 _ I1 (stat fr1) st1 stop) fun r s2 ⟨hr,I2⟩=>?_
   subst hr
   exact zwp0 ⟨⟨_,rfl⟩,H1,I2,qn⟩
  ·refine thn (T.item X' rfl rfl rfl hcalm i [] s1 σ₀ H1 _ I1 (stat fr1) st1 go) fun r s2 ⟨u,hr,h2⟩=>?_
   subst hr
   refine zwb0 (thn h2 fun _ s3 ⟨x,H3,I3,r3,y3,st3,fr3⟩=>?_)
   have I3':=I3.pinned (stat fr3) (T.obj _ _ st3)
   refine zwb0 (noE (thn (hg _ s3 σ₀ H3 x u _ I3' r3 (step x H3 y3)) fun _ s4 ⟨σ4,H4,I4,hk4,q4⟩=>?_))
   refine zwb0 (zwp0 ?_)
   simp only[if_true]
   refine zwb0 (noE (thn (hi1 _ s4 σ4 H4 _ I4 q4) fun v5 s5 h5=>?_))
   refine zwb0 (wpAny_standAt (zwb0 (wpAny_of_eq (hs1 v5) ?_)))
   refine zwb0 (wpAny_holding (noE (thn h5 fun itv s6 h6=>?_)))
   obtain ⟨it1,fp1,tn1,J1,H6,rfl,I6,T1,st6,f6,W1,⟨m1,w6⟩,turn1⟩:=h6
   refine zwb0 (wpAny_runOwn (h:=none) (codeAny_mono (yxt (pins:=[]++yf0 fp s3.heap) (c0:=⟨tg,iter,[],0⟩) (R:=fun H'=>∃m',m' < n∧W (i+1) m' H') (tg:=t1) (iter:=i1) (pos:=pos) (scope:=scope) I6 hcalm hxe T1 st6 f6 hg1 hi he w6 turn1) fun r s7 h7=>?_))
   obtain ⟨⟨fl,rfl⟩,H7,I7,m',hm,w7⟩:=h7
   refine zwp0 ⟨rfl,m',hm,i+1,H7,I7.unpinned.weak (by rw[I3.len,I7.len]) hk4,T.keep _ _ _ st3 fun b hb o e=>(I7.pin (b,o) (List.mem_append_right _ (List.mem_append_right _ (yba hb e)))).1,fun b hb=>?_,w7⟩
   obtain ⟨o,e,d⟩:=T.obj _ _ st3 b hb
   exact(I7.pin (b,o) (List.mem_append_right _ (List.mem_append_right _ (yba hb e)))).2.1
 refine codeAny_compStart_list loop (T.self _ 0 s _ _ st loop)
theorem yn7 {pins:List (Addr×Obj)}{σ:St}{H:Hp}{s:Shared}{Q:VK}{it:Addr}{fp:List Addr}{tn:Nat→Heap→Prop}{J:It}{E:Value→Shared→Prop}(I:Inv X pins σ H s)(hcalm:X.calm=true)(S:CompScope X N' ix scope)
 (T:Turn X.prog X.w X.K tg J fp it tn) (st:tn 0 s.heap) (hf:∀b∈fp,ye8 X pins H b)
 (hg:∀C s H fp,PG (yat X N' scope C s H fp) tg g) (hi1:∀C s H fp,PI (yat X N' scope C s H fp) t1 i1 wi1) (hg1:∀C s H fp,PG (yat X N' scope C s H fp) t1 g1) (hi:∀C s H fp,PIfs (yat X N' scope C s H fp) ifs ti) (he:∀C s H fp,PE (yat X N' scope C s H fp) elt te) (hs1:∀C s H fp x,foldedSetIterable i1 (yat X N' scope C s H fp).env x=pure x)
 (h:∀D,H D=none→∃W:Nat→Nat→Hp→Prop,(∃m,W 0 m (upd H D (.lst [])))∧two J (Q (.ref D)) D (ybe ix σ) g wi1 g1 ti te W) :
 wpAny (model X.prog X.w) X.A (newList []) (fun acc s3=>wpAny (model X.prog X.w) X.A (newFunctionEnv scope X.env.globals (ygo X.env scope.names []) [] X.env.qual none .none (some X.env)) (fun cenv s4=>
  codeAny (model X.prog X.w) X.A (.compStart (.ListComp elt [⟨tg,iter,[],0⟩,⟨t1,i1,ifs,0⟩] scope pos) 0 (.ref it) acc { cenv with scope:=relabel scope X.env }) (yhy X pins σ Q acc cenv.locals) s4) E s3) E s:=by
 refine wpAny_newList ?_
 have fresh0:H s.heap.objs.size=none:=I.hok.fresh (Nat.le_refl _)
 have I3:Inv X pins σ (upd H s.heap.objs.size (.lst [])) { s with heap:=s.heap.push { cls:=.type "list",data:=.seq ([]:List Value).toArray } } :=
  I.laid (t':=s.toks) (fun b u e=>Heap.get?_push_of_some _ e) (Nat.le_refl _) ⟨by show 0≤sizeLine;exact Nat.zero_le _,[],0,.nil,Heap.get?_push_size _ rfl⟩
 obtain ⟨W,⟨m0,w0⟩,turn⟩:=h s.heap.objs.size fresh0
 generalize hD:s.heap.objs.size=D at *
 have lt0:∀b∈fp,b<s.heap.objs.size:=fun b hb=>by obtain ⟨o,e,_⟩:=T.obj 0 _ st b hb;exact Heap.lt_size e
 have hf3:∀b∈fp,ye8 X pins (upd H D (.lst [])) b:=fun b hb=>by
  have nb:b≠D:=by rw[← hD];exact Nat.ne_of_lt (lt0 b hb)
  obtain ⟨f0,fr⟩:=hf b hb
  exact⟨by rw[yak nb];exact f0,fr⟩
 have st3:tn 0 (s.heap.push { cls:=.type "list",data:=.seq ([]:List Value).toArray }):=T.keep _ _ _ st fun b hb o e=>Heap.get?_push_of_some _ e
 revert I3 st3
 generalize (s.heap.push { cls:=.type "list",data:=.seq ([]:List Value).toArray })=h3
 intro I3 st3
 have lt3:∀b∈fp,b<h3.objs.size:=fun b hb=>by obtain ⟨o,e,_⟩:=T.obj 0 _ st3 b hb;exact Heap.lt_size e
 refine wpAny_newFunctionEnv S.nocell (fun x hx=>nomatch hx) (fun h4 hns hsb=>?_) S.kind
 have k4:∀b o,h3.get? b=some o→h4.get? b=some o:=fun b o e=>(hsb.2 b (Nat.ne_of_lt (Heap.lt_size e))).trans (Heap.get?_push_of_some _ e)
 have J4:Inv (yat X N' scope h3.objs.size { s with heap:=h3 } (upd H D (.lst [])) fp) [] (ybe ix σ) (upd H D (.lst [])) { s with heap:=h4,toks:=s.toks+([]:List (Str×Value)).length }:=
  ygc (s:={ s with heap:=h3 }) (tk:=s.toks+([]:List (Str×Value)).length) I3 hcalm S hf3 lt3 hns k4
 have st4:tn 0 ({ s with heap:=h4,toks:=s.toks+([]:List (Str×Value)).length }:Shared).heap:=T.keep _ _ _ st3 fun b hb o e=>k4 b o e
 have fr4:∀b∈fp,upd H D (.lst []) b=none:=fun b hb=>(hf3 b hb).1
 revert J4 st4
 generalize ({ s with heap:=h4,toks:=s.toks+([]:List (Str×Value)).length }:Shared)=s4
 intro J4 st4
 have hf4:∀b∈fp,ye8 (yat X N' scope h3.objs.size { s with heap:=h3 } (upd H D (.lst [])) fp) [] (upd H D (.lst [])) b:=fun b hb=>
  ⟨fr4 b hb,Nat.ne_of_lt (lt3 b hb),J4.ok.exfs b hb,.inl hb,fun x c e=>(J4.ok.exf b hb).2 x c e,fun p hp=>nomatch hp⟩
 refine codeAny_mono (yp9 (X':=yat X N' scope h3.objs.size { s with heap:=h3 } (upd H D (.lst [])) fp) (R:=Q (.ref D)) (D:=D) J4 rfl rfl T st4 hf4 (hg _ _ _ _) (hi1 _ _ _ _) (hg1 _ _ _ _) (hi _ _ _ _) (he _ _ _ _) w0 (hs1 _ _ _ _) turn) fun r s' ⟨hr,H',J',q'⟩=>?_
 refine⟨D,H',rfl,hr,I3.call' J'.os J'.base J'.hok J'.bare fun b hb=>?_,?_,?_,q'⟩
 ·obtain ⟨_,f1,_,f3,f4,f5⟩:=hf3 b hb
  exact⟨f3,f1,f4,f5⟩
 ·exact I3.fpOk (H':=H') (Nat.le_refl _) J'.free
 ·obtain ⟨m,hn,_⟩:=J'.loc
  exact⟨m,hn⟩
theorem yu9 (hcalm:X.calm=true)(S:CompScope X N' ix scope)(hit:PI X tg iter wi)
 (hg:∀C s H fp,PG (yat X N' scope C s H fp) tg g) (hi1:∀C s H fp,PI (yat X N' scope C s H fp) t1 i1 wi1) (hg1:∀C s H fp,PG (yat X N' scope C s H fp) t1 g1) (hi:∀C s H fp,PIfs (yat X N' scope C s H fp) ifs ti) (he:∀C s H fp,PE (yat X N' scope C s H fp) elt te)
 (hs1:∀C s H fp x,foldedSetIterable i1 (yat X N' scope C s H fp).env x=pure x:=by intros;rfl) (hs:∀x,foldedSetIterable iter X.env x=pure x:=by intro _;rfl):PE X (.ListComp elt [⟨tg,iter,[],0⟩,⟨t1,i1,ifs,0⟩] scope pos) (yzq ix wi g wi1 g1 ti te):=by
 refine⟨?_⟩
 intro pins s σ H Q I h
 rw[eval_ListComp]
 refine wpAny_comprehension_free (use:=none) rfl hs (ycv I S) S.kind S.loc (thn (hit pins s σ H _ I h) fun v s1 h1=>thn h1 fun itv s2 h2=>?_)
 obtain ⟨it,fp,tn,J,H2,rfl,I2,T,st2,f2,q2⟩:=h2
 refine thn (yn7 (E:=X.xe) (elt:=elt) (iter:=iter) (pos:=pos) I2 hcalm S T st2 f2 hg hi1 hg1 hi he hs1 q2) fun acc s3 h3=>thn h3 fun cenv s4 h4=>codeAny_mono h4 fun r s' hr=>?_
 obtain ⟨D,H',rfl,⟨f,rfl⟩,I',⟨g0,g1,_,g3,g4,g5⟩,⟨m,hm⟩,q'⟩:=hr
 exact⟨m,hm,fun h' hsb=>⟨.ref D,H',I'.turned (t':=s'.toks) (fun b o hb e=>(hsb.2 b hb).trans e) g0 g1 g3 g4 g5,rfl,q'⟩⟩
end
def yji (xs:Array Nat):Prop:=∀(i j:Nat) (hi:i<xs.size) (hj:j<xs.size),i<j→xs[i]<xs[j]
theorem yva {xs:Array Nat}{j:Nat}(h:yji xs):∀(fuel lo hi:Nat),lo≤hi→hi≤xs.size→hi-lo≤fuel→(∀(k:Nat) (hk:k<xs.size),k<lo→xs[k]<j)→(∀(k:Nat) (hk:k<xs.size),hi≤k→j≤xs[k])→
 SetTable.below.go xs j fuel lo hi≤xs.size∧(∀(k:Nat) (hk:k<xs.size),k<SetTable.below.go xs j fuel lo hi→xs[k]<j)∧∀(k:Nat) (hk:k<xs.size),SetTable.below.go xs j fuel lo hi≤k→j≤xs[k]:=by
 intro fuel
 induction fuel with
 |zero=>
  intro lo hi h1 h2 h3 h4 h5
  have e:lo=hi:=by omega
  subst e
  exact⟨h2,h4,h5⟩
 |succ n ih=>
  intro lo hi h1 h2 h3 h4 h5
  unfold SetTable.below.go
  by_cases c:lo<hi
  ·rw[if_pos c]
   dsimp only
   have hm:(lo+hi) / 2<xs.size:=by omega
   have eg:xs.getD ((lo+hi) / 2) j=xs[(lo+hi) / 2]:=by rw[Array.getD_eq_getD_getElem?,Array.getElem?_eq_getElem hm];rfl
   rw[eg]
   by_cases c2:xs[(lo+hi) / 2]<j
   ·rw[if_pos c2]
    refine ih _ _ (by omega) h2 (by omega) (fun k hk hlt=>?_) h5
    by_cases c3:k=(lo+hi) / 2
    ·subst c3;exact c2
    ·have:=h k ((lo+hi) / 2) hk hm (by omega)
     omega
   ·rw[if_neg c2]
    refine ih _ _ (by omega) (by omega) (by omega) h4 (fun k hk hge=>?_)
    by_cases c3:k=(lo+hi) / 2
    ·subst c3;omega
    ·have:=h ((lo+hi) / 2) k hm hk (by omega)
     omega
  ·rw[if_neg c]
   have e:lo=hi:=by omega
   subst e
   exact⟨h2,h4,h5⟩
theorem ygi {xs:Array Nat}(h:yji xs)(j:Nat):SetTable.below xs j≤xs.size∧(∀(k:Nat) (hk:k<xs.size),k<SetTable.below xs j→xs[k]<j)∧∀(k:Nat) (hk:k<xs.size),SetTable.below xs j≤k→j≤xs[k]:=
 yva h xs.size 0 xs.size (Nat.zero_le _) (Nat.le_refl _) (by omega) (fun k _ z=>absurd z (Nat.not_lt_zero _)) (fun k hk z=>absurd hk (by omega))
theorem ye1 {α:Type}(xs:Array α)(p:Nat)(x:α)(hp:p≤xs.size):(SetTable.insertAt xs p x).size=xs.size+1:=by
 unfold SetTable.insertAt
 rw[Array.size_append,Array.size_push,Array.size_extract,Array.size_extract]
 omega
theorem yci {α:Type}(xs:Array α)(p:Nat)(x:α)(hp:p≤xs.size)(i:Nat):(SetTable.insertAt xs p x)[i]? = if i<p then xs[i]? else if i=p then some x else xs[i-1]?:=by
 unfold SetTable.insertAt
 have s1:((xs.extract 0 p).push x).size=p+1:=by rw[Array.size_push,Array.size_extract];omega
 by_cases c1:i<p
 ·rw[if_pos c1,Array.getElem?_append_left (by omega),Array.getElem?_push_lt (by rw[Array.size_extract];omega)]
  rw[← Array.getElem?_eq_getElem,Array.getElem?_extract]
  rw[if_pos (by omega)]
  congr 1
  omega
 ·rw[if_neg c1]
  by_cases c2:i=p
  ·subst c2
   rw[if_pos rfl,Array.getElem?_append_left (by omega),Array.getElem?_push,if_pos (by rw[Array.size_extract];omega)]
  ·rw[if_neg c2,Array.getElem?_append_right (by omega),Array.getElem?_extract,s1]
   by_cases c3:i-(p+1)<xs.size-p
   ·rw[if_pos (by omega)]
    congr 1
    omega
   ·rw[if_neg (by omega),Array.getElem?_eq_none (by omega)]
theorem yig {xs:Array Nat}(h:yji xs){j:Nat}(hn:xs[SetTable.below xs j]?≠some j):yji (SetTable.insertAt xs (SetTable.below xs j) j):=by
 obtain ⟨b1,b2,b3⟩:=ygi h j
 generalize SetTable.below xs j=p at *
 have val:∀(i:Nat) (hi:i<(SetTable.insertAt xs p j).size),some (SetTable.insertAt xs p j)[i]=if i<p then xs[i]? else if i=p then some j else xs[i-1]?:=fun i hi=>by rw[← yci xs p j b1 i,Array.getElem?_eq_getElem hi]
 have above:∀(k:Nat) (hk:k<xs.size),p≤k→j<xs[k]:=fun k hk hpk=>by
  have hp:p<xs.size:=by omega
  have h1:=b3 p hp (Nat.le_refl _)
  have h2:xs[p]≠j:=fun z=>hn (by rw[Array.getElem?_eq_getElem hp,z])
  by_cases c:k=p
  ·subst c;omega
  ·have:=h p k hp hk (by omega)
   omega
 intro i k hi hk hik
 have sz:=ye1 xs p j b1
 have vi:=val i hi
 have vk:=val k hk
 by_cases c1:k<p
 ·rw[if_pos (by omega),Array.getElem?_eq_getElem (by omega)] at vi
  rw[if_pos c1,Array.getElem?_eq_getElem (by omega)] at vk
  rw[Option.some.inj vi,Option.some.inj vk]
  exact h i k (by omega) (by omega) hik
 ·rw[if_neg c1] at vk
  by_cases c2:k=p
  ·rw[if_pos c2] at vk
   rw[if_pos (by omega),Array.getElem?_eq_getElem (by omega)] at vi
   rw[Option.some.inj vi,Option.some.inj vk]
   exact b2 i (by omega) (by omega)
  ·rw[if_neg c2,Array.getElem?_eq_getElem (by omega)] at vk
   rw[Option.some.inj vk]
   by_cases c3:i<p
   ·rw[if_pos c3,Array.getElem?_eq_getElem (by omega)] at vi
    rw[Option.some.inj vi]
    exact h i (k-1) (by omega) (by omega) (by omega)
   ·rw[if_neg c3] at vi
    by_cases c4:i=p
    ·rw[if_pos c4] at vi
     rw[Option.some.inj vi]
     exact above (k-1) (by omega) (by omega)
    ·rw[if_neg c4,Array.getElem?_eq_getElem (by omega)] at vi
     rw[Option.some.inj vi]
     exact h (i-1) (k-1) (by omega) (by omega) (by omega)
theorem yfv (n:Nat):yji (Array.range n):=fun i j hi hj hij=>by simpa using hij
theorem ymf {t:SetTable}{j:Nat}(h:t.slot j = .empty∨t.slot j = .dummy):t.place[SetTable.below t.place j]?≠some j:=fun e=>by
 unfold SetTable.slot at h
 dsimp only at h
 rw[e] at h
 simp at h
theorem yvb {t:SetTable}{ha:Nat→Int}{h:Int}:∀(fuel:Nat) (p:SetTable.Probe) {j:Nat}{d:Option Nat},(∀x,p.dummy=some x→t.slot x = .dummy)→SetTable.probe.go t ha h fuel p=some (.empty j d)→t.slot j = .empty∧∀x,d=some x→t.slot x = .dummy:=by
 intro fuel
 induction fuel with
 |zero=>intro p j d _ e;cases e
 |succ n ih=>
  intro p j d hp e
  unfold SetTable.probe.go at e
  have adv:∀q:SetTable.Probe,(t.advance q).dummy=q.dummy:=fun q=>by unfold SetTable.advance;split <;> rfl
  cases q:t.slot p.j with
  |empty=>
   rw[q] at e
   cases e
   exact⟨q,hp⟩
  |dummy=>
   rw[q] at e
   refine ih _ (fun x hx=>?_) e
   rw[adv] at hx
   cases hx
   exact q
  |live i=>
   rw[q] at e
   dsimp only at e
   split at e
   ·cases e
   ·exact ih _ (fun x hx=>hp x (by rw[adv] at hx;exact hx)) e
theorem yku {t:SetTable}{h:Int}{j:Nat}{b:Bool}(e:t.freeSlot h=some (j,b)):t.place[SetTable.below t.place j]?≠some j:=by
 unfold SetTable.freeSlot at e
 split at e
 ·rename_i j' d hp
  obtain ⟨p1,p2⟩:=yvb _ _ (fun x hx=>(by cases hx)) hp
  cases d with
  |none=>cases e;exact ymf (.inl p1)
  |some x=>cases e;exact ymf (.inr (p2 x rfl))
 ·cases e
theorem yn8 {t:SetTable}(es:Array (Int×Value))(h:Int)(x:Value)(hr:yji t.place):yji (layNew t es h x).2.1.place∧(layNew t es h x).2.1.led=t.led:=by
 unfold layNew
 split
 ·rename_i slot wd e
  dsimp only
  unfold SetTable.orStandIn
  split
  ·exact⟨yig hr (yku e),rfl⟩
  ·exact⟨yfv _,rfl⟩
 ·exact⟨yfv _,rfl⟩
theorem ykv {t:SetTable}(es:Array (Int×Value))(n:Nat):yji (relayAll t es n).2.1.place∧(relayAll t es n).2.1.led=t.led:=by
 unfold relayAll
 split
 ·rename_i t' order e
  dsimp only
  split
  ·unfold SetTable.relaid SetTable.laid at e
   cases q:SetTable.layClean (SetTable.sizeAbove n-1) (es.map (·.1)) with
   |none=>rw[q] at e;cases e
   |some owner=>
    rw[q] at e
    cases e
    refine⟨fun i j hi hj hij=>?_,rfl⟩
    have pw:(((List.range (SetTable.sizeAbove n-1+1)).filterMap fun j=>(owner.getD j none).map (j,·)).map (·.1)).Pairwise (· < ·):=by
     rw[List.pairwise_map]
     refine List.Pairwise.filterMap (R:=(· < ·)) _ (fun a a' haa b hb b' hb'=>?_) List.pairwise_lt_range
     cases q1:owner.getD a none with
     |none=>rw[q1] at hb;cases hb
     |some v1=>
      cases q2:owner.getD a' none with
      |none=>rw[q2] at hb';cases hb'
      |some v2=>rw[q1] at hb;rw[q2] at hb';cases hb;cases hb';exact haa
    have:=List.pairwise_iff_getElem.mp pw i j (by simpa using hi) (by simpa using hj) hij
    simpa using this
  ·exact⟨yfv _,rfl⟩
 ·exact⟨yfv _,rfl⟩
def byT (w:World):Bool:=w.params.followText "set-order"
def kOf (e:Int×Value):Int:=match e.2 with
 |.int k _=>k
 |_=>0
def AllI (l:List (Int×Value)):Prop:=∀e∈l,∃k t,e=(hashInt k,.int k t)
def SetI (w:World)(a:Addr)(ns:List Int)(h:Heap):Prop:=∃o es ep t,h.get? a=some o∧o.ExactSet∧o.data = .set es ep t∧AllI es.toList∧(es.toList.map kOf).Perm ns∧es.size<scanBound∧t.fits es.size=true∧t.led = !byT w∧yji t.place
section
variable {prog:Program}{w:World}{A:Around}{E:Value→Shared→Prop}{s:Shared}
theorem AllI.elems {l:List (Int×Value)}(h:AllI l):ElemsOf (intKind prog w) l:=fun e he=>by
 obtain ⟨k,t,rfl⟩:=h e he
 exact⟨⟨k,intKind_is prog w k t,rfl⟩,rfl⟩
theorem AllI.perm {l l':List (Int×Value)}(h:AllI l)(p:l'.Perm l):AllI l':=fun e he=>h e (p.mem_iff.mp he)
theorem AllI.has {l:List (Int×Value)}(h:AllI l)(x:Int):x∈l.map kOf↔∃e∈l,(intKind prog w).is x e.2=true:=by
 constructor
 ·intro m
  obtain ⟨e,he,rfl⟩:=List.mem_map.mp m
  obtain ⟨k,t,rfl⟩:=h e he
  exact⟨_,he,intKind_is prog w k t⟩
 ·rintro ⟨e,he,hx⟩
  obtain ⟨k,t,rfl⟩:=h e he
  have:x=k:=(intKind prog w).inj _ x k hx (intKind_is prog w k t)
  subst this
  exact List.mem_map.mpr ⟨_,he,rfl⟩
theorem SetI.typeIs {a:Addr}{ns:List Int} (S:SetI w a ns s.heap):s.TypeIs (.ref a) "set" := let ⟨o,_,_,_,ho,hc,_⟩:=S;⟨o,ho,hc.1⟩
theorem SetI.keep {a:Addr}{ns:List Int}{h h':Heap}(S:SetI w a ns h)(k:∀o,h.get? a=some o→h'.get? a=some o):SetI w a ns h':=let ⟨o,es,ep,t,ho,r⟩:=S;⟨o,es,ep,t,k o ho,r⟩
theorem ymg {a:Addr}{o:Obj}{es es':Array (Int×Value)}{ep:Nat}{t t':SetTable}{ns:List Int}{h:Heap}(ho:h.get? a=some o)(hex:o.ExactSet)(hd:o.data = .set es ep t)(r:AllI es'.toList∧(es'.toList.map kOf).Perm ns∧es'.size<scanBound∧t'.fits es'.size=true∧t'.led = !byT w∧yji t'.place) :
 (h.update a (Obj.putSet es' t')).get? a=some { o with data:=.set es' (ep+1) t' }∧SetI w a ns (h.update a (Obj.putSet es' t')):=by
 have hg:(h.update a (Obj.putSet es' t')).get? a=some { o with data:=.set es' (ep+1) t' }:=by
  have:=Heap.get?_update_self (Obj.putSet es' t') ho (by rw[putSet_of es' t' hd];rfl)
  rw[putSet_of es' t' hd] at this
  exact this
 exact⟨hg,_,es',ep+1,t',hg,hex,rfl,r⟩
theorem yxu {Q:Value→Shared→Prop} (h:∀h',(∀b o,s.heap.get? b=some o→h'.get? b=some o)→h'.objs.size=s.heap.objs.size+1→SetI w s.heap.objs.size [] h'→Q (.ref s.heap.objs.size) { s with heap:=h' }):wpAny (model prog w) A (newSet (.type "set")) Q E s:=by
 unfold newSet setsByText
 refine zwb0 (zwb0 (wpAny_askSetting (zwp0 ?_)))
 dsimp only
 simp only[newObj]
 refine zwb0 (wpAny_alloc (zwp0 (h _ (fun b o e=>Heap.get?_push_of_some _ e) (Heap.size_push ..) ⟨_,#[],0,_,Heap.get?_push_size _ rfl,⟨rfl,rfl,rfl⟩,rfl,fun e he=>by simp at he,by exact List.Perm.refl _,by decide,by rfl,rfl,fun i j hi=>by simp [SetTable.fresh] at hi⟩)))
theorem ypd {g:Bool→Sem Unit}(hg:∀(b:Bool) (s₁:Shared) (Q':Unit→Shared→Prop),Q' () s₁→wpAny (model prog w) A (g b) Q' E s₁)
 {a:Addr}{o:Obj}{es es1:Array (Int×Value)}{ep:Nat}{t t2:SetTable}{ns:List Int}{wd:Bool}{R:Option Bool→Shared→Prop} (ho:s.heap.get? a=some o) (hex:o.ExactSet) (hd:o.data = .set es ep t)
 (r:AllI es1.toList∧(es1.toList.map kOf).Perm ns∧es1.size<scanBound∧t2.fits es1.size=true∧t2.led = !byT w∧yji t2.place) (h:∀h',Heap.SameBut a s.heap h'→SetI w a ns h'→R (some true) { s with heap:=h' }) :
 wpAny (model prog w) A (do
  storeSet a es1 t2
  if (!wd&&t2.tooFull)=true then do
   g (relayAll t2 es1 (SetTable.grown es1.size)).2.2
   storeSet a (relayAll t2 es1 (SetTable.grown es1.size)).1 (relayAll t2 es1 (SetTable.grown es1.size)).2.1
   pure (some true)
   else pure (some true)) R E s:=by
 obtain ⟨r1,r2,r3,r4,r5,r6⟩:=id r
 refine zwb0 (wpAny_storeSet_of ho hd ?_ (fits_of_scanBound r3))
 obtain ⟨o1,S1⟩:=ymg (w:=w) ho hex hd r
 have u1:=Heap.SameBut.update s.heap a (Obj.putSet es1 t2)
 split
 ·have hp:=relayAll_perm t2 es1 (SetTable.grown es1.size)
  have hf:=relayAll_fits t2 es1 (SetTable.grown es1.size)
  obtain ⟨hr,hl⟩:=ykv (t:=t2) es1 (SetTable.grown es1.size)
  generalize relayAll t2 es1 (SetTable.grown es1.size)=Rl at hp hf hr hl ⊢
  obtain ⟨es2,t3,gave⟩:=Rl
  dsimp only at hp hf hr hl ⊢
  have hz:es2.size=es1.size:=by rw[← Array.length_toList,hp.length_eq,Array.length_toList]
  refine zwb0 (hg _ _ _ ?_)
  refine zwb0 (wpAny_storeSet_of o1 rfl ?_ (fits_of_scanBound (by rw[hz];exact r3)))
  obtain ⟨_,S2⟩:=ymg (w:=w) (ns:=ns) o1 hex rfl ⟨r1.perm hp,(hp.map kOf).trans r2,by rw[hz];exact r3,hf,by rw[hl];exact r5,hr⟩
  exact zwp0 (h _ (u1.trans (Heap.SameBut.update _ a _)) S2)
 ·exact zwp0 (h _ u1 S1)
theorem yxv {a:Addr}{ns:List Int}{x:Int}{tx:Tok}{Q:Value→Shared→Prop}(S:SetI w a ns s.heap)(hn:ns.length+1<scanBound)
 (h:∀h',Heap.SameBut a s.heap h'→SetI w a (if x∈ns then ns else ns++[x]) h'→Q .none { s with heap:=h',toks:=s.toks+1 }):wpAny (model prog w) A (call (.builtin "set.add") [.ref a,.int x tx]) Q E s:=by
 refine wpAny_call_entry PySem.F.slot_set_add S.typeIs PySem.F.entry_set_add ?_ (PySem.F.args_set_add_2 _ _)
 unfold Builtin.«set.add» Builtin.Frozenset.oneOther
 simp only[List.isEmpty_nil,bind_assoc]
 unfold Builtin.Frozenset.addrOf setAdd
 refine zwb0 (zwp0 ?_)
 try dsimp only
 refine zwb0 (zwp0 ?_)
 try dsimp only
 refine zwb0 (wpAny_holding (zwb0 ((intKind prog w).pyHash (intKind_is prog w x tx) ?_)))
 obtain ⟨o,es,ep,t,ho,hex,hd,hel,hpm,hb,hf,hled,hrise⟩:=S
 have hsz:es.size=ns.length:=by rw[← Array.length_toList,← hpm.length_eq,List.length_map]
 have elems:ElemsOf (intKind prog w) es.toList:=hel.elems
 have key:=intKind_is prog w x tx
 unfold setAddHashed setAddHashedIn
 refine wpAny_holding (zwb0 (wpAny_setState_of (s:={ s with toks:=s.toks+1 }) ho hd hf ?_))
 dsimp only
 rw[byScan_of (x:=.int x tx) rfl hb elems]
 simp only[↓reduceIte]
 unfold setAddByScan
 refine zwb0 (zwb0 (wpAny_rule (zwb0 (wpAny_setScan_of key ho hd hf elems ?_))))
 have mem:=(hel.has (prog:=prog) (w:=w) x)
 cases hr:List.findIdx? (fun e=>(intKind prog w).is x e.2) es.toList with
 |some j=>
  dsimp only
  obtain ⟨hj,hpj,_⟩:=List.findIdx?_eq_some_iff_getElem.mp hr
  have hx:x∈ns:=hpm.mem_iff.mp (mem.mpr ⟨_,List.getElem_mem hj,hpj⟩)
  rw[if_pos hx] at h
  refine zwp0 (zwp0 ?_)
  show wpAny _ _ (ret Value.none) _ _ _
  exact zwp0 ⟨_,rfl,h s.heap (Heap.SameBut.refl a s.heap) ⟨o,es,ep,t,ho,hex,hd,hel,hpm,hb,hf,hled,hrise⟩⟩
 |none=>
  dsimp only
  have hx:x ∉ ns:=fun z=>by
   obtain ⟨e,he,hp⟩:=mem.mp (hpm.mem_iff.mpr z)
   have:=List.findIdx?_eq_none_iff.mp hr e he
   rw[hp] at this
   cases this
  rw[if_neg hx] at h
  have hgw:∀(b:Bool) {s₁:Shared}{Q':Unit→Shared→Prop},Q' () s₁→wpAny (model prog w) A.in1 (match b with|true=>rule "set.scan.the-table-gave-way" | false=>pure ()) Q' E s₁:=fun b s₁ Q' hq=>by cases b <;> first|exact zwp0 hq|exact wpAny_rule hq
  have hp1:=layNew_perm t es ((intKind prog w).hash x) (.int x tx)
  have hf1:=layNew_fits t es ((intKind prog w).hash x) (.int x tx)
  obtain ⟨hr1,hl1⟩:=yn8 es ((intKind prog w).hash x) (.int x tx) hrise
  generalize layNew t es ((intKind prog w).hash x) (.int x tx)=L at hp1 hf1 hr1 hl1 ⊢
  obtain ⟨es1,t1,wd,gave⟩:=L
  dsimp only at hp1 hf1 hr1 hl1 ⊢
  rw[Array.toList_push] at hp1
  have el1:AllI es1.toList:=AllI.perm (l:=es.toList++[((intKind prog w).hash x,.int x tx)]) (fun e he=>by
   rcases List.mem_append.mp he with z|z
   ·exact hel e z
   ·rw[List.mem_singleton.mp z];exact⟨x,tx,rfl⟩) hp1
  have pm1:(es1.toList.map kOf).Perm (ns++[x]):=(hp1.map kOf).trans (by rw[List.map_append];exact hpm.append_right _)
  have sz1:es1.size<scanBound:=by rw[← Array.length_toList,hp1.length_eq,List.length_append,Array.length_toList,hsz];exact hn
  refine zwb0 (hgw _ ?_)
  have fin:∀h',Heap.SameBut a s.heap h'→SetI w a (ns++[x]) h'→wpAny (model prog w) A.in1 (ret Value.none) (fun r s'=>∃v,r = .done (.ret v)∧Q v s') E { s with heap:=h',toks:=s.toks+1 }:=fun h' sb S'=>zwp0 ⟨_,rfl,h h' sb S'⟩
  split
  ·refine zwb0 ?_
   rw[hashByValue_scannable 8 (x:=.int x tx) rfl]
   refine zwp0 ?_
   simp only[plainKind,↓reduceIte]
   refine ypd (w:=w) (ns:=ns++[x]) ?_ ho hex hd ⟨el1,pm1,sz1,hf1,by rw[hl1];exact hled,hr1⟩ ?_
   ·intro b s₁ Q' hq;cases b <;> first|exact zwp0 hq|exact wpAny_rule hq
   ·intro h' sb S';dsimp only;exact zwp0 (fin h' sb S')
  ·refine zwb0 (zwp0 ?_)
   simp only[↓reduceIte]
   refine ypd (w:=w) (ns:=ns++[x]) ?_ ho hex hd ⟨el1,pm1,sz1,hf1,by rw[hl1];exact hled,hr1⟩ ?_
   ·intro b s₁ Q' hq;cases b <;> first|exact zwp0 hq|exact wpAny_rule hq
   ·intro h' sb S';dsimp only;exact zwp0 (fin h' sb S')
end
def HS (w:World)(a:Addr)(ns:List Int):HO:=.ext (SetI w a ns)
theorem yzr {P:Program}{w:World}{H:Hp}{h:Heap}{a:Addr}{ns:List Int}(S:SetI w a ns h):ObjOk P w H h a (HS w a ns):=⟨S,(let ⟨o,_,_,_,ho,_⟩:=S;⟨o,ho⟩),fun h1 h2 S1 k=>S1.keep k⟩
theorem yzs {X:Cx}{pins:List (Addr×Obj)}{σ:St}{H:Hp}{s:Shared}{a:Addr}{ns:List Int}(I:Inv X pins σ H s)(e:H a=some (HS X.w a ns)):SetI X.w a ns s.heap:=(show ObjOk X.prog X.w H s.heap a (HS X.w a ns) from I.hok a _ e).1
theorem zaz {X:Cx}{pins:List (Addr×Obj)}{σ:St}{H:Hp}{s:Shared}{a:Addr}{ns:List Int}{x:Int}{tx:Tok}{A:Around}{E:Value→Shared→Prop}{Q:Value→Shared→Prop}(I:Inv X pins σ H s)(e:H a=some (HS X.w a ns))(hn:ns.length+1<scanBound)
 (h:∀s',Inv X pins σ (upd H a (HS X.w a (if x∈ns then ns else ns++[x]))) s'→Q .none s'):wpAny (model X.prog X.w) A (call (.builtin "set.add") [.ref a,.int x tx]) Q E s :=
 yxv (w:=X.w) (yzs I e) hn fun h' sb S'=>h _ (yif I (by rw[e];exact True.intro) sb (let ⟨o,_,_,_,ho,_⟩:=S';⟨o,ho⟩) (yzr S'))
theorem yhe (elt target iter:Expr)(ifs:List Expr)(scope:Scope)(pos:Pos)(it acc:Value)(env:Env) :
 compTurn (.SetComp elt [⟨target,iter,ifs,0⟩] scope pos) 0 it acc env=(do
  standAt iter.pos
  match ← pyNext it with
  |none=>pure (.done .next)
  |some v=>
   letOwnedTupleGo target it v
   assign target env v
   let mut ok:=true
   for c in ifs do
    if ok then ok ← isTrue c env (eval c env)
   if ok then
    (do let v ← eval elt env;standAt elt.pos;let _ ← call (.builtin "set.add") [acc,v])
   again (.compLoop (.SetComp elt [⟨target,iter,ifs,0⟩] scope pos) 0 it acc env)):=by rfl
section
variable {prog:Program}{w:World}{A:Around}{R:Result→Shared→Prop}{s:Shared}
theorem ygj {elt target iter ifs scope pos it acc env}
 (h0:codeAny (model prog w) A (.compLoop (.SetComp elt [⟨target,iter,ifs,0⟩] scope pos) 0 it acc env) R s)
 (h:wpAny (model prog w) A (pyIter it) (fun it' s'=>codeAny (model prog w) A (.compLoop (.SetComp elt [⟨target,iter,ifs,0⟩] scope pos) 0 it' acc env) R s') (notedBy (model prog w) A env fun x s'=>R (.error x) s') s) :
 codeAny (model prog w) A (.compStart (.SetComp elt [⟨target,iter,ifs,0⟩] scope pos) 0 it acc env) R s:=by
 refine codeAny_of_tree ?_
 show wpAny _ _ ((compStart (.SetComp elt [⟨target,iter,ifs,0⟩] scope pos) 0 it acc env).onRaise (fun x=>do noteFrame x env;standAt theWindowsPlace)) _ _ s
 refine wpAny_notedAt ?_
 unfold compStart
 show wpAny _ _ (ask >>= _) _ _ s
 refine zwb0 (wpAny_askSetting (wpAny_ite ?_))
 split
 ·first|exact zwb0 (zwp0 (zwp0 (And.intro rfl h0)))|exact zwp0 (And.intro rfl h0)
 ·refine zwb0 (wpAny_rule ?_)
  show wpAny _ _ (standAt iter.pos >>= _) _ _ s
  exact zwb0 (wpAny_standAt (zwb0 (wpAny_mono h (fun it' s' h'=>zwp0 (And.intro rfl h')) fun _ _ x=>x)))
end
section
variable {X:Cx}{N':List Str}{ix:List (Option Nat)}{scope:Scope}{elt tg iter:Expr}{ifs:List Expr}{pos:Pos}{wi:TI}{g:TG}{ti:TT}{te:TE}
def yzt (w:World)(ix:List (Option Nat))(wi:TI)(g:TG)(ti:TT)(te:TE):TE:=fun σ H Q=>wi σ H fun J H1=>∀D,H1 D=none→∃W:Nat→Nat→Hp→Prop,(∃m,W 0 m (upd H1 D (HS w D [])))∧∀i m H,W i m H→
 (J.stop i H∧Q (.ref D) H)∨(J.go i H∧∀x H',J.yld i H x H'→g x (ybe ix σ) H' fun σ2 H2=>(∀(k:Nat) v,(ybe ix σ)[k]? = some (some v)→σ2[k]? = some (some v))∧ti σ2 H2 fun b H3=>
  if b=true then te σ2 H3 fun y H4=>∃ns x,H4 D=some (HS w D ns)∧y = .int x∧ns.length+1<scanBound∧∃m',m' < m∧W (i+1) m' (upd H4 D (HS w D (if x∈ns then ns else ns++[x]))) else ∃m',m' < m∧W (i+1) m' H3)
theorem yqa {X':Cx}{σ₀:St}{H:Hp}{s:Shared}{Q:VK}{it D:Addr}{fp:List Addr}{tn:Nat→Heap→Prop}{J:It}{W:Nat→Nat→Hp→Prop}{m0:Nat}(I:Inv X' [] σ₀ H s)(hcalm:X'.calm=true)(hxe:X'.xe=fun _ _=>False)
 (T:Turn X'.prog X'.w X'.K tg J fp it tn) (st:tn 0 s.heap) (hf:∀b∈fp,ye8 X' [] H b) (hg:PG X' tg g) (hi:PIfs X' ifs ti) (he:PE X' elt te) (w0:W 0 m0 H)
 (turn:∀i m H,W i m H→(J.stop i H∧Q (.ref D) H)∨(J.go i H∧∀x H',J.yld i H x H'→g x σ₀ H' fun σ2 H2=>(∀(k:Nat) v,σ₀[k]? = some (some v)→σ2[k]? = some (some v))∧ti σ2 H2 fun b H3=>
  if b=true then te σ2 H3 fun y H4=>∃ns x,H4 D=some (HS X'.w D ns)∧y = .int x∧ns.length+1<scanBound∧∃m',m' < m∧W (i+1) m' (upd H4 D (HS X'.w D (if x∈ns then ns else ns++[x]))) else ∃m',m' < m∧W (i+1) m' H3)) :
 codeAny (model X'.prog X'.w) X'.A (.compStart (.SetComp elt [⟨tg,iter,ifs,0⟩] scope pos) 0 (.ref it) (.ref D) X'.env) (fun r s'=>(∃f,r = .ok f)∧∃H',Inv X' [] σ₀ H' s'∧Q (.ref D) H') s:=by
 have stat:∀{H':Hp},(∀b∈fp,H' b=none)→∀b∈fp,ye8 X' [] H' b:=fun hn b hb=>⟨hn b hb,(hf b hb).2⟩
 have loop:codeAny (model X'.prog X'.w) X'.A (.compLoop (.SetComp elt [⟨tg,iter,ifs,0⟩] scope pos) 0 (.ref it) (.ref D) X'.env) (fun r s'=>(∃f,r = .ok f)∧∃H',Inv X' [] σ₀ H' s'∧Q (.ref D) H') s:=by
  refine codeAny_loop rfl (fun n s'=>∃i H',Inv X' [] σ₀ H' s'∧tn i s'.heap∧(∀b∈fp,H' b=none)∧W i n H') ?_ m0 ⟨0,H,I,st,fun b hb=>(hf b hb).1,w0⟩
  rintro n s1 ⟨i,H1,I1,st1,fr1,w1⟩
  show wpAny _ X'.A ((compTurn (.SetComp elt [⟨tg,iter,ifs,0⟩] scope pos) 0 (.ref it) (.ref D) X'.env).onRaise (fun x=>do noteFrame x X'.env;theTreesLotGoes x)) _ _ s1
  refine wpAny_noted ?_
  have noE:∀{α:Type}{t:Sem α}{P:α→Shared→Prop}{F:Value→Shared→Prop}{s:Shared},wpAny (model X'.prog X'.w) X'.A t P X'.xe s→wpAny (model X'.prog X'.w) X'.A t P F s:=fun h=>wpAny_mono h (fun _ _ x=>x) fun e s' x=>by rw[hxe] at x;exact x.elim
  rw[yhe]
  refine zwb0 (wpAny_standAt (zwb0 ?_))
  rcases turn i n H1 w1 with ⟨stop,qn⟩ | ⟨go,step⟩
  ·refine thn (T.done X' rfl rfl rfl hcalm i [] s1 σ₀ H1 _ I1 (stat fr1) st1 stop) fun r s2 ⟨hr,I2⟩=>?_
   subst hr
   exact zwp0 ⟨⟨_,rfl⟩,H1,I2,qn⟩
  ·refine thn (T.item X' rfl rfl rfl hcalm i [] s1 σ₀ H1 _ I1 (stat fr1) st1 go) fun r s2 ⟨u,hr,h2⟩=>?_
   subst hr
   refine zwb0 (thn h2 fun _ s3 ⟨x,H3,I3,r3,y3,st3,fr3⟩=>?_)
   have I3':=I3.pinned (stat fr3) (T.obj _ _ st3)
   refine zwb0 (noE (thn (hg _ s3 σ₀ H3 x u _ I3' r3 (step x H3 y3)) fun _ s4 ⟨σ4,H4,I4,hk4,q4⟩=>?_))
   refine zwb0 (noE (thn (hi _ s4 σ4 H4 _ I4 q4) fun ok s5 ⟨H5,I5,q5⟩=>?_))
   have again':∀{s7:Shared}{H7:Hp}{m':Nat},Inv X' ([]++yf0 fp s3.heap) σ4 H7 s7→m' < n→W (i+1) m' H7→∃m,m<n∧∃i H',Inv X' [] σ₀ H' s7∧tn i s7.heap∧(∀b∈fp,H' b=none)∧W i m H':=fun {s7 H7 m'} I7 hm w7=>by
    refine⟨m',hm,i+1,H7,I7.unpinned.weak (by rw[I3.len,I7.len]) hk4,T.keep _ _ _ st3 fun b hb o e=>(I7.pin (b,o) (List.mem_append_right _ (List.mem_append_right _ (yba hb e)))).1,fun b hb=>?_,w7⟩
    obtain ⟨o,e,d⟩:=T.obj _ _ st3 b hb
    exact(I7.pin (b,o) (List.mem_append_right _ (List.mem_append_right _ (yba hb e)))).2.1
   cases ok with
   |false=>
    obtain ⟨m',hm,w7⟩:=q5
    exact zwp0 ⟨rfl,again' I5 hm w7⟩
   |true=>
    refine zwb0 (zwb0 (noE (thn (he _ s5 σ4 H5 _ I5 q5) fun y s6 ⟨yv,H6,I6,r6,ns,x6,hD,ey,hz,m',hm,w7⟩=>?_)))
    subst ey
    obtain ⟨tx,rfl⟩:=r6
    refine zwb0 (wpAny_standAt (zwb0 ?_))
    exact zaz I6 hD hz fun s8 I8=>zwp0 (zwp0 ⟨rfl,again' I8 hm w7⟩)
 refine ygj loop (T.self _ 0 s _ _ st loop)
theorem yn9 {pins:List (Addr×Obj)}{σ:St}{H:Hp}{s:Shared}{Q:VK}{it:Addr}{fp:List Addr}{tn:Nat→Heap→Prop}{J:It}{E:Value→Shared→Prop}(I:Inv X pins σ H s)(hcalm:X.calm=true)(S:CompScope X N' ix scope)
 (T:Turn X.prog X.w X.K tg J fp it tn) (st:tn 0 s.heap) (hf:∀b∈fp,ye8 X pins H b)
 (hg:∀C s H fp,PG (yat X N' scope C s H fp) tg g) (hi:∀C s H fp,PIfs (yat X N' scope C s H fp) ifs ti) (he:∀C s H fp,PE (yat X N' scope C s H fp) elt te)
 (h:∀D,H D=none→∃W:Nat→Nat→Hp→Prop,(∃m,W 0 m (upd H D (HS X.w D [])))∧∀i m H,W i m H→
  (J.stop i H∧Q (.ref D) H)∨(J.go i H∧∀x H',J.yld i H x H'→g x (ybe ix σ) H' fun σ2 H2=>(∀(k:Nat) v,(ybe ix σ)[k]? = some (some v)→σ2[k]? = some (some v))∧ti σ2 H2 fun b H3=>
   if b=true then te σ2 H3 fun y H4=>∃ns x,H4 D=some (HS X.w D ns)∧y = .int x∧ns.length+1<scanBound∧∃m',m' < m∧W (i+1) m' (upd H4 D (HS X.w D (if x∈ns then ns else ns++[x]))) else ∃m',m' < m∧W (i+1) m' H3)) :
 wpAny (model X.prog X.w) X.A (newSet (.type "set")) (fun acc s3=>wpAny (model X.prog X.w) X.A (newFunctionEnv scope X.env.globals (ygo X.env scope.names []) [] X.env.qual none .none (some X.env)) (fun cenv s4 =>
  codeAny (model X.prog X.w) X.A (.compStart (.SetComp elt [⟨tg,iter,ifs,0⟩] scope pos) 0 (.ref it) acc { cenv with scope:=relabel scope X.env }) (yhy X pins σ Q acc cenv.locals) s4) E s3) E s:=by
 refine yxu (w:=X.w) fun h3 kk hsz S3=>?_
 have fresh0:H s.heap.objs.size=none:=I.hok.fresh (Nat.le_refl _)
 obtain ⟨W,⟨m0,w0⟩,turn⟩:=h s.heap.objs.size fresh0
 have lt0:∀b∈fp,b<s.heap.objs.size:=fun b hb=>by obtain ⟨o,e,_⟩:=T.obj 0 _ st b hb;exact Heap.lt_size e
 generalize hD:s.heap.objs.size=D at *
 have I3:Inv X pins σ (upd H D (HS X.w D [])) { s with heap:=h3 }:=I.laid (a:=D) (o:=HS X.w D []) (t':=s.toks) kk (Nat.le_of_eq hD) (yzr S3)
 have hf3:∀b∈fp,ye8 X pins (upd H D (HS X.w D [])) b:=fun b hb=>by
  obtain ⟨f0,fr⟩:=hf b hb
  exact⟨by rw[yak (Nat.ne_of_lt (lt0 b hb))];exact f0,fr⟩
 have st3:tn 0 h3:=T.keep _ _ _ st fun b hb o e=>kk b o e
 have lt3:∀b∈fp,b<h3.objs.size:=fun b hb=>by obtain ⟨o,e,_⟩:=T.obj 0 _ st3 b hb;exact Heap.lt_size e
 refine wpAny_newFunctionEnv S.nocell (fun x hx=>nomatch hx) (fun h4 hns hsb=>?_) S.kind
 have k4:∀b o,h3.get? b=some o→h4.get? b=some o:=fun b o e=>(hsb.2 b (Nat.ne_of_lt (Heap.lt_size e))).trans (Heap.get?_push_of_some _ e)
 have J4:Inv (yat X N' scope h3.objs.size { s with heap:=h3 } (upd H D (HS X.w D [])) fp) [] (ybe ix σ) (upd H D (HS X.w D [])) { s with heap:=h4,toks:=s.toks+([]:List (Str×Value)).length }:=
  ygc (s:={ s with heap:=h3 }) (tk:=s.toks+([]:List (Str×Value)).length) I3 hcalm S hf3 lt3 hns k4
 have st4:tn 0 ({ s with heap:=h4,toks:=s.toks+([]:List (Str×Value)).length }:Shared).heap:=T.keep _ _ _ st3 fun b hb o e=>k4 b o e
 have fr4:∀b∈fp,upd H D (HS X.w D []) b=none:=fun b hb=>(hf3 b hb).1
 revert J4 st4
 generalize ({ s with heap:=h4,toks:=s.toks+([]:List (Str×Value)).length }:Shared)=s4
 intro J4 st4
 have hf4:∀b∈fp,ye8 (yat X N' scope h3.objs.size { s with heap:=h3 } (upd H D (HS X.w D [])) fp) [] (upd H D (HS X.w D [])) b:=fun b hb=>
  ⟨fr4 b hb,Nat.ne_of_lt (lt3 b hb),J4.ok.exfs b hb,.inl hb,fun x c e=>(J4.ok.exf b hb).2 x c e,fun p hp=>nomatch hp⟩
 refine codeAny_mono (yqa (X':=yat X N' scope h3.objs.size { s with heap:=h3 } (upd H D (HS X.w D [])) fp) (Q:=Q) (D:=D) J4 rfl rfl T st4 hf4 (hg _ _ _ _) (hi _ _ _ _) (he _ _ _ _) w0 turn) fun r s' ⟨hr,H',J',q'⟩=>?_
 refine⟨D,H',rfl,hr,I3.call' J'.os J'.base J'.hok J'.bare fun b hb=>?_,?_,?_,q'⟩
 ·obtain ⟨_,f1,_,f3,f4,f5⟩:=hf3 b hb
  exact⟨f3,f1,f4,f5⟩
 ·exact I3.fpOk (H':=H') (Nat.le_refl _) J'.free
 ·obtain ⟨m,hn,_⟩:=J'.loc
  exact⟨m,hn⟩
theorem yvc (hcalm:X.calm=true)(S:CompScope X N' ix scope)(hit:PI X tg iter wi)
 (hg:∀C s H fp,PG (yat X N' scope C s H fp) tg g) (hi:∀C s H fp,PIfs (yat X N' scope C s H fp) ifs ti) (he:∀C s H fp,PE (yat X N' scope C s H fp) elt te)
 (hs:∀x,foldedSetIterable iter X.env x=pure x:=by intro _;rfl):PE X (.SetComp elt [⟨tg,iter,ifs,0⟩] scope pos) (yzt X.w ix wi g ti te):=by
 refine⟨?_⟩
 intro pins s σ H Q I h
 show wpAny _ X.A (comprehension (.SetComp elt [⟨tg,iter,ifs,0⟩] scope pos) scope X.env _ (newSet (.type "set")) false (eval iter X.env)) _ _ s
 refine wpAny_comprehension_free (use:=none) rfl hs (ycv I S) S.kind S.loc (thn (hit pins s σ H _ I h) fun v s1 h1=>thn h1 fun itv s2 h2=>?_)
 obtain ⟨it,fp,tn,J,H2,rfl,I2,T,st2,f2,q2⟩:=h2
 refine thn (yn9 (E:=X.xe) (elt:=elt) (iter:=iter) (pos:=pos) I2 hcalm S T st2 f2 hg hi he q2) fun acc s3 h3=>thn h3 fun cenv s4 h4=>codeAny_mono h4 fun r s' hr=>?_
 obtain ⟨D,H',rfl,⟨f,rfl⟩,I',⟨g0,g1,_,g3,g4,g5⟩,⟨m,hm⟩,q'⟩:=hr
 exact⟨m,hm,fun h' hsb=>⟨.ref D,H',I'.turned (t':=s'.toks) (fun b o hb e=>(hsb.2 b hb).trans e) g0 g1 g3 g4 g5,rfl,q'⟩⟩
end
theorem yg1 {α:Type}:∀{l:List α}{i:Nat} (hi:i<l.length),(l[i]::l.eraseIdx i).Perm l
 |x::r,0,_=>List.Perm.refl _
 |x::r,i+1,hi=>by
  have hi':i<r.length:=by simpa using hi
  have h:=yg1 hi'
  show (r[i]::x::r.eraseIdx i).Perm (x::r)
  exact(List.Perm.swap x r[i] _).trans (h.cons x)
theorem yxw {α:Type}(next:Nat→Nat):∀(fuel k:Nat) (left:List α) (out:Array α),left.length=fuel→(pickOrder.go next fuel k left out).toList.Perm (out.toList++left):=by
 intro fuel
 induction fuel with
 |zero=>
  intro k left out h
  rw[List.length_eq_zero_iff.mp h,List.append_nil]
  exact List.Perm.refl _
 |succ n ih=>
  intro k left out h
  unfold pickOrder.go
  have hi:next k % left.length<left.length:=Nat.mod_lt _ (by omega)
  rw[List.getElem?_eq_getElem hi]
  dsimp only
  refine(ih _ _ _ (by rw[List.length_eraseIdx,if_pos hi];omega)).trans ?_
  rw[Array.toList_push,List.append_assoc]
  refine List.Perm.append_left _ ?_
  exact yg1 hi
theorem yih {α:Type}(next:Nat→Nat)(xs:Array α):(pickOrder next xs).toList.Perm xs.toList:=by
 have:=yxw next xs.size 0 xs.toList #[] (by simp)
 simpa [pickOrder] using this
section
variable {prog:Program}{w:World}{A:Around}{E:Value→Shared→Prop}{s:Shared}
theorem ymh {src:Source}{n:Nat}{Q:Nat→Shared→Prop}(hn:n≠0)(h:∀i d,i<n→Q i { s with drawn:=d }):wpAny (model prog w) A (choose src n) Q E s:=
 fun _ _ _=>⟨hn,h _ _ (Nat.mod_lt _ (Nat.pos_of_ne_zero hn))⟩
theorem yii {α:Type}:∀(n:Nat) (xs:List α) (s:Shared) {Q:List α→Shared→Prop},xs.length=n→(∀ys d,ys.Perm xs→Q ys { s with drawn:=d })→wpAny (model prog w) A (drawOrder n xs) Q E s:=by
 intro n
 induction n with
 |zero=>
  intro xs s Q h q
  unfold drawOrder
  rw[List.length_eq_zero_iff.mp h] at q
  exact zwp0 (q [] s.drawn (List.Perm.refl _))
 |succ n ih=>
  intro xs s Q h q
  cases xs with
  |nil=>cases h
  |cons x r=>
   unfold drawOrder
   refine zwb0 (ymh (by simp) fun i d hi=>?_)
   rw[List.getElem?_eq_getElem hi]
   dsimp only
   refine zwb0 (ih _ _ (by rw[List.length_eraseIdx,if_pos hi];omega) fun ys d' hp=>zwp0 (q _ d' ?_))
   exact(hp.cons _).trans (yg1 hi)
end
theorem slot_set_iterator_next:Slot "set_iterator" "__next__" "set_iterator.__next__" :=
 .of (owner := "set_iterator") (n := "__next__") (by rw[typeLookup_type,builtinLookup_eq_fast];kernel_rfl) (by decide +kernel) (by decide +kernel) (by decide +kernel) (by first|exact .inl (by decide +kernel)|exact .inr (by decide +kernel)) (by rw[isSubtype_type];kernel_rfl)
theorem yc9:entryFor table "set_iterator.__next__" = some Builtin.«set_iterator.__next__»:=entryFor_of_tree (by kernel_rfl)
theorem yda (a:Value):argsOk "set_iterator.__next__" ⟨[a],[]⟩:=by unfold argsOk;kernel_rfl
theorem yjj:entryFor table "set.__iter__" = some Builtin.«frozenset.__iter__»:=entryFor_alias (by kernel_rfl) rfl (id' := "frozenset.__iter__") (by decide +kernel) (by kernel_rfl)
def yhl (h:Heap) (I:Addr) (first:Value) (i:Nat) (a:Addr) (n ep:Nat):Prop:=h.get? I=some { cls:=.type "set_iterator",data:=.fields #[first,.int i 0,.ref a,.int n 0,.int ep 0] }
inductive Way (w:World) (a:Addr) (es:Array (Int×Value)) (ep:Nat) (t:SetTable):List Value→(Nat→Heap→Value→Prop)→List Addr→Prop
 |led (h:byT w=false) (hl:t.led=true) (hp:(t.plain || decide (es.size≤1))=true):Way w a es ep t (es.toList.map (·.2)) (fun i _ f=>f=rawInt ((if i=0 then 0 else t.place.getD (i-1) 0+1:Nat):Int)) []
 |text (h:byT w=true):Way w a es ep t ((pickOrder (w.params.setOrder a ep) es).toList.map (·.2)) (fun _ _ f=>f=rawInt 0) []
 |drawn {ps:List Nat}{tp:Addr} (h:ps.Perm (List.range es.size)):Way w a es ep t (ps.filterMap fun i=>(es[i]?).map (·.2)) (fun _ hp f=>f = .ref tp∧∃o n,hp.get? tp=some o∧o.data = .seq (ps.map fun (i:Nat)=>rawInt i).toArray n) [tp]
theorem Way.perm {w:World}{a:Addr}{es:Array (Int×Value)}{ep:Nat}{t:SetTable}{vals:List Value}{F:Nat→Heap→Value→Prop}{ex:List Addr}(y:Way w a es ep t vals F ex):vals.Perm (es.toList.map (·.2)):=by
 cases y with
 |led=>exact List.Perm.refl _
 |text=>exact(yih _ es).map _
 |drawn h=>
  refine(h.filterMap _).trans ?_
  have:(List.range es.size).filterMap (fun i=>(es[i]?).map (·.2))=es.toList.map (·.2):=by
   have e:=PySem.filterMap_getElem?_range es
   rw[← e,List.map_filterMap]
  rw[this]
section
variable {prog:Program}{w:World}{A:Around}{E:Value→Shared→Prop}{s:Shared}
theorem yvd {a:Addr}{o:Obj}{es:Array (Int×Value)}{ep:Nat}{t:SetTable}{Q:Value→Shared→Prop}(ho:s.heap.get? a=some o)(hex:o.ExactSet)(hd:o.data = .set es ep t)(hf:t.fits es.size=true)(hled:t.led = !byT w)(hb:es.size<scanBound)
 (h:∀I h' d vals F ex first,Way w a es ep t vals F ex→F 0 h' first→yhl h' I first 0 a es.size ep→(∀b o,s.heap.get? b=some o→h'.get? b=some o)→s.heap.objs.size≤I→(∀b∈ex,s.heap.objs.size≤b∧b<I)→I<h'.objs.size→Q (.ref I) { s with heap:=h',drawn:=d }):wpAny (model prog w) A (pyIter (.ref a)) Q E s:=by
 have hT:s.TypeIs (.ref a) "set" := ⟨o,ho,hex.1⟩
 refine wpAny_pyIter_slot hT PySem.F.slot_set_iter (wpAny_call_entry PySem.F.slot_set_iter hT yjj ?_ (PySem.F.args_set_iter_1 _))
 unfold Builtin.«frozenset.__iter__» Builtin.Frozenset.slot0 slotArgs
 simp only[List.isEmpty_nil,Bool.not_true,Bool.false_eq_true,↓reduceIte,bind_assoc,List.length_nil,bne_self_eq_false]
 unfold Builtin.Frozenset.addrOf Builtin.Frozenset.sizeOf
 refine zwb0 (zwp0 (zwb0 (zwp0 (zwb0 (zwb0 (wpAny_setEntries_of ho hd hf (zwp0 ?_)))))))
 refine zwb0 ?_
 unfold setDrawn setsByText
 refine zwb0 (wpAny_setState_of ho hd hf ?_)
 dsimp only
 refine zwb0 (zwb0 (wpAny_askSetting (zwp0 (zwp0 ?_))))
 have fin:∀(first:Value) (s1:Shared) (d:Drawn) (h1:Heap),s1 = { s with heap:=h1,drawn:=d }→(∀b o,s.heap.get? b=some o→h1.get? b=some o)→(∀I h',I=h1.objs.size→(∀b o,h1.get? b=some o→h'.get? b=some o)→yhl h' I first 0 a es.size ep→I<h'.objs.size→Q (.ref I) { s with heap:=h',drawn:=d })→
  wpAny (model prog w) A.in1 (do let e ← setEpoch a;let x ← newFields "set_iterator" [first,rawInt 0,Value.ref a,rawInt es.size,rawInt e];ret x) (fun fin s'=>∃v,fin=Fin.done (Flow.ret v)∧∃T' r,s'.TypeIs v T'∧typeLookup (Value.type T') (Str.ofString "__next__")=pure (some r)∧Q v s') E s1:=by
  intro first s1 d h1 e1 k1 q
  subst e1
  refine zwb0 (wpAny_setEpoch_of (k1 _ _ ho) hd hf ?_)
  refine zwb0 (wpAny_newObj_type (zwp0 ⟨_,rfl,"set_iterator",_,⟨_,Heap.get?_push_size _ rfl,rfl⟩,slot_set_iterator_next.lookup,?_⟩))
  exact q h1.objs.size _ rfl (fun b o e=>Heap.get?_push_of_some _ e) (Heap.get?_push_size _ rfl) (by rw[Heap.size_push];exact Nat.lt_succ_self _)
 split
 ·rename_i c0
  refine zwb0 (yii _ _ _ (List.length_range ..) fun ys d hp=>?_)
  have hlen:ys.length=es.size:=by rw[hp.length_eq,List.length_range]
  refine zwb0 (wpAny_newTuple ?_ (by rw[List.length_map,hlen];exact fits_of_scanBound hb))
  refine fin _ _ d (s.heap.push { cls:=.type "tuple",data:=.seq (ys.map fun (i:Nat)=>rawInt i).toArray }) rfl (fun b o e=>Heap.get?_push_of_some _ e) fun I h' eI kI si lI=>?_
  have sz:=Heap.size_push s.heap ({ cls:=.type "tuple",data:=.seq (ys.map fun (i:Nat)=>rawInt i).toArray }:Obj)
  refine h I h' d _ _ _ _ (.drawn (tp:=s.heap.objs.size) hp) ⟨rfl,_,_,kI _ _ (Heap.get?_push_size _ rfl),rfl⟩ si (fun b o e=>kI _ _ (Heap.get?_push_of_some _ e)) (by omega) (fun b hb=>?_) lI
  rw[List.mem_singleton.mp hb]
  exact⟨Nat.le_refl _,by rw[eI];exact Nat.lt_of_lt_of_eq (Nat.lt_succ_self _) sz.symm⟩
 ·rename_i c0
  have c:¬ (!byT w&&(!t.plain&&decide (es.size > 1)))=true:=c0
  refine zwb0 (zwp0 ?_)
  refine fin _ _ s.drawn s.heap rfl (fun b o e=>e) fun I h' eI kI si lI=>?_
  cases bt:byT w with
  |true=>exact h I h' s.drawn _ _ _ _ (.text bt) rfl si kI (by omega) (fun b hb=>by cases hb) lI
  |false=>
   refine h I h' s.drawn _ _ _ _ (.led bt (by rw[hled,bt];rfl) ?_) rfl si kI (by omega) (fun b hb=>by cases hb) lI
   rw[bt] at c
   cases hp:t.plain with
   |true=>rfl
   |false=>
    rw[hp] at c
    have:¬ es.size > 1:=fun z=>c (by simp [z])
    simp
    omega
end
theorem yqb {place:Array Nat}(h:yji place){i:Nat}(hi:i≤place.size):SetTable.below place (if i=0 then 0 else place.getD (i-1) 0+1)=i:=by
 obtain ⟨b1,b2,b3⟩:=ygi h (if i=0 then 0 else place.getD (i-1) 0+1)
 generalize SetTable.below place (if i=0 then 0 else place.getD (i-1) 0+1)=b at *
 by_cases c:i=0
 ·rw[if_pos c] at b2
  by_cases z:b=0
  ·omega
  ·have:=b2 0 (by omega) (by omega)
   omega
 ·rw[if_neg c] at b2 b3
  have hm:i-1<place.size:=by omega
  have eg:place.getD (i-1) 0=place[i-1]:=by rw[Array.getD_eq_getD_getElem?,Array.getElem?_eq_getElem hm];rfl
  rw[eg] at b2 b3
  rcases Nat.lt_trichotomy b i with z|z|z
  ·have:=b3 (i-1) hm (by omega)
   omega
  ·exact z
  ·have h1:=b2 i (by omega) z
   have h2:=h (i-1) i hm (by omega) (by omega)
   omega
section
variable {prog:Program}{w:World}{A:Around}{E:Value→Shared→Prop}{s:Shared}
def yxx (w:World)(h:Heap)(a:Addr)(es:Array (Int×Value))(ep:Nat)(t:SetTable):Prop:=(∃o,h.get? a=some o∧o.data = .set es ep t)∧t.fits es.size=true∧yji t.place
theorem ype {a:Addr}{es:Array (Int×Value)}{ep i g e':Nat}{t:SetTable}{Q:Option (Value×Nat)→Shared→Prop}(hS:yxx w s.heap a es ep t)(bt:byT w=false)(hl:t.led=true)(hp:(t.plain || decide (es.size≤1))=true)(hi:i≤es.size)
 (h1:∀hlt:i<es.size,Q (some (es[i].2,t.place.getD i 0+1)) s) (h2:i=es.size→Q none s):wpAny (model prog w) A (setNext a (if i=0 then 0 else t.place.getD (i-1) 0+1) g e') Q E s:=by
 obtain ⟨⟨o,ho,hd⟩,hf,hr⟩:=hS
 have hz:t.place.size=es.size:=by
  simp only[SetTable.fits,Bool.and_eq_true,beq_iff_eq] at hf
  exact hf.1
 unfold setNext setsByText
 refine zwb0 (wpAny_setState_of ho hd hf ?_)
 dsimp only
 refine zwb0 (zwb0 (wpAny_askSetting (zwp0 ?_)))
 have bt':¬ (⟨(model prog w).prog,(model prog w).w.params⟩ : Setting).params.followText "set-order" = true:=fun z=>by have:byT w=true:=z;rw[bt] at this;cases this
 rw[if_neg bt']
 split
 ·rename_i c0
  have c:(!t.plain&&decide (es.size > 1))=true:=c0
  simp only[Bool.and_eq_true,Bool.not_eq_true',decide_eq_true_eq] at c
  rw[c.1] at hp
  simp at hp
  omega
 ·refine zwb0 ?_
  show wpAny _ _ (if (!t.led && !es.isEmpty)=true then unsupported "set:maker-not-led" else pure ()) _ _ s
  rw[if_neg (by rw[hl];simp)]
  refine zwp0 ?_
  rw[yqb hr (by omega)]
  by_cases c:i<es.size
  ·rw[Array.getElem?_eq_getElem c,Array.getElem?_eq_getElem (by omega)]
   have e1:t.place.getD i 0=t.place[i]'(by omega):=by rw[Array.getD_eq_getD_getElem?,Array.getElem?_eq_getElem (by omega)];rfl
   rw[e1] at h1
   exact zwp0 (h1 c)
  ·rw[Array.getElem?_eq_none (by omega)]
   exact zwp0 (h2 (by omega))
theorem ymi {a:Addr}{es:Array (Int×Value)}{ep i sl:Nat}{t:SetTable}{Q:Option (Value×Nat)→Shared→Prop}(hS:yxx w s.heap a es ep t)(bt:byT w=true)(h:Q (((pickOrder (w.params.setOrder a ep) es)[i]?).map fun e=>(e.2,sl)) s):wpAny (model prog w) A (setNext a sl i ep) Q E s:=by
 obtain ⟨⟨o,ho,hd⟩,hf,hr⟩:=hS
 unfold setNext setsByText
 refine zwb0 (wpAny_setState_of ho hd hf ?_)
 dsimp only
 refine zwb0 (zwb0 (wpAny_askSetting (zwp0 ?_)))
 have bt':(⟨(model prog w).prog,(model prog w).w.params⟩ : Setting).params.followText "set-order" = true:=bt
 rw[if_pos bt',if_neg (by simp)]
 refine zwb0 ?_
 first|refine zwp0 ?_|skip
 unfold setWalk setsByText
 refine zwb0 (wpAny_setState_of ho hd hf ?_)
 dsimp only
 refine zwb0 (zwb0 (wpAny_askSetting (zwp0 ?_)))
 rw[if_pos bt']
 exact zwb0 (wpAny_askSetting (zwp0 (zwp0 h)))
theorem yqc {a:Addr}{es:Array (Int×Value)}{ep k:Nat}{t:SetTable}{Q:Value→Shared→Prop}(hS:yxx w s.heap a es ep t)(hk:k<es.size)(h:Q es[k].2 s):wpAny (model prog w) A (setNextDrawn a k ep) Q E s:=by
 obtain ⟨⟨o,ho,hd⟩,hf,hr⟩:=hS
 unfold setNextDrawn
 refine zwb0 (wpAny_setState_of ho hd hf ?_)
 dsimp only
 rw[if_neg (by simp),Array.getElem?_eq_getElem hk]
 exact zwp0 h
theorem yve {I a:Addr}{es:Array (Int×Value)}{ep:Nat}{t:SetTable}{vals:List Value}{F:Nat→Heap→Value→Prop}{ex:List Addr}{first:Value}{i:Nat}{Q:Option Value→Shared→Prop}(y:Way w a es ep t vals F ex)(hS:yxx w s.heap a es ep t)(hit:yhl s.heap I first i a es.size ep)(hF:F i s.heap first)(nI:∀b∈ex,b≠I)(naI:a≠I)(hi:i<es.size)
 (hQ:∀h' first' v,vals[i]? = some v→yhl h' I first' (i+1) a es.size ep→F (i+1) h' first'→(∀b o,b≠I→s.heap.get? b=some o→h'.get? b=some o)→Q (some v) { s with heap:=h' }):wpAny (model prog w) A (pyNext (.ref I)) Q E s:=by
 obtain ⟨⟨o,ho,hd⟩,hf,hr⟩:=id hS
 have hT:s.TypeIs (.ref I) "set_iterator" := ⟨_,hit,rfl⟩
 unfold pyNext
 refine zwb0 (wpAny_attempt (wpAny_callSpecial?_slot (name:=Str.ofString "__next__") hT slot_set_iterator_next (wpAny_call_entry slot_set_iterator_next hT yc9 ?_ (yda _))))
 unfold Builtin.«set_iterator.__next__»
 refine zwb0 (zwp0 ?_)
 refine zwb0 (wpAny_fieldsOf hit rfl ?_)
 dsimp only
 refine zwb0 (wpAny_setEntries_of ho hd hf ?_)
 rw[if_neg (by simp)]
 have yok:∀{h1:Heap}{f:Value}{k:Nat} (v:Value) {R:Unit→Shared→Prop}{E':Value→Shared→Prop},yhl h1 I f k a es.size ep→(∀h2,yhl h2 I v k a es.size ep→Heap.SameBut I h1 h2→R () { s with heap:=h2 })→wpAny (model prog w) A.in1 (setField (.ref I) 0 v) R E' { s with heap:=h1 }:=fun {h1 f k} v {R E'} x q=>wpAny_setField_rec x (by simp) fun h2 x2 y2=>q h2 x2 y2
 have set1:∀{h1:Heap}{f:Value}{k:Nat}{R:Unit→Shared→Prop}{E':Value→Shared→Prop},yhl h1 I f k a es.size ep→(∀h2,yhl h2 I f (k+1) a es.size ep→Heap.SameBut I h1 h2→R () { s with heap:=h2 })→wpAny (model prog w) A.in1 (setField (.ref I) 1 (rawInt ((k:Int)+1))) R E' { s with heap:=h1 }:=fun {h1 f k R E'} x q=>wpAny_setField_rec x (by simp) fun h2 x2 y2=>q h2 (by
  unfold yhl
  rw[show ((k+1:Nat):Int)=(k:Int)+1 from by omega]
  simpa [rawInt] using x2) y2
 cases y with
 |led bt hl hp=>
  have hF':first=rawInt (if i=0 then 0 else t.place.getD (i-1) 0+1:Nat):=hF
  subst hF'
  show wpAny _ _ (do let r ← setNext a ((if i=0 then 0 else t.place.getD (i-1) 0+1:Nat):Int).toNat (i:Int).toNat (ep:Int).toNat;_) _ _ s
  rw[Int.toNat_natCast,Int.toNat_natCast,Int.toNat_natCast]
  refine zwb0 (ype hS bt hl hp (Nat.le_of_lt hi) (fun hlt=>?_) fun z=>absurd z (by omega))
  dsimp only
  refine zwb0 (yok _ hit fun h2 x2 y2=>zwb0 (set1 x2 fun h3 x3 y3=>?_))
  refine zwp0 ⟨_,rfl,zwp0 (hQ h3 _ _ ?_ x3 ?_ fun b o hb e=>y3.extBut b o hb (y2.extBut b o hb e))⟩
  ·rw[List.getElem?_map,Array.getElem?_toList,Array.getElem?_eq_getElem hi];rfl
  ·show rawInt _=rawInt _
   rw[if_neg (by omega),Nat.add_sub_cancel]
 |text bt=>
  have hF':first=rawInt 0:=hF
  subst hF'
  show wpAny _ _ (do let r ← setNext a (0:Int).toNat (i:Int).toNat (ep:Int).toNat;_) _ _ s
  rw[Int.toNat_natCast,Int.toNat_natCast]
  refine zwb0 (ymi hS bt ?_)
  have hz:(pickOrder (w.params.setOrder a ep) es).size=es.size:=by rw[← Array.length_toList,(yih _ es).length_eq,Array.length_toList]
  rw[Array.getElem?_eq_getElem (by omega)]
  dsimp only [Option.map]
  refine zwb0 (yok _ hit fun h2 x2 y2=>zwb0 (set1 x2 fun h3 x3 y3=>?_))
  refine zwp0 ⟨_,rfl,zwp0 (hQ h3 _ _ ?_ x3 rfl fun b o hb e=>y3.extBut b o hb (y2.extBut b o hb e))⟩
  rw[List.getElem?_map,Array.getElem?_toList,Array.getElem?_eq_getElem (by omega)];rfl
 |@drawn ps tp hp=>
  obtain ⟨rfl,ot,nt,h1,h2⟩:=hF
  dsimp only
  refine zwb0 ?_
  unfold seqItems?
  refine zwb0 (wpAny_load h1 ?_)
  rw[h2]
  refine zwp0 ?_
  dsimp only
  have hl:ps.length=es.size:=by rw[hp.length_eq,List.length_range]
  rw[Int.toNat_natCast,List.getElem?_toArray,List.getElem?_map,List.getElem?_eq_getElem (by omega)]
  have hk:ps[i]'(by omega)<es.size:=List.mem_range.mp (hp.mem_iff.mp (List.getElem_mem _))
  dsimp only [Option.map,rawInt]
  rw[Int.toNat_natCast,Int.toNat_natCast]
  refine zwb0 (yqc hS hk ?_)
  refine zwb0 (set1 hit fun h3 x3 y3=>?_)
  refine zwp0 ⟨_,rfl,zwp0 (hQ h3 _ _ ?_ x3 ⟨rfl,ot,nt,y3.extBut _ _ (nI tp (by simp)) h1,h2⟩ fun b o hb e=>y3.extBut b o hb e)⟩
  have all:∀(l:List Nat),(∀k∈l,k<es.size)→l.filterMap (fun k=>(es[k]?).map (·.2))=l.map fun k=>(es.getD k (0,.none)).2:=by
   intro l
   induction l with
   |nil=>intro _;rfl
   |cons x r ih=>
    intro h
    have hx:=h x (.head _)
    rw[List.filterMap_cons,Array.getElem?_eq_getElem hx,Option.map_some]
    show es[x].2::_=_
    rw[ih fun k hk=>h k (.tail _ hk),List.map_cons,Array.getD_eq_getD_getElem?,Array.getElem?_eq_getElem hx]
    rfl
  rw[all ps fun k hk'=>List.mem_range.mp (hp.mem_iff.mp hk'),List.getElem?_map,List.getElem?_eq_getElem (by omega)]
  show some (es.getD (ps[i]'(by omega)) (0,.none)).2=_
  rw[Array.getD_eq_getD_getElem?,Array.getElem?_eq_getElem hk]
  rfl
theorem yxy {I a:Addr}{es:Array (Int×Value)}{ep:Nat}{t:SetTable}{vals:List Value}{F:Nat→Heap→Value→Prop}{ex:List Addr}{first:Value}{Q:Option Value→Shared→Prop}(hh:A.handled=none)(y:Way w a es ep t vals F ex)(hS:yxx w s.heap a es ep t)(hit:yhl s.heap I first es.size a es.size ep)(hF:F es.size s.heap first)
 (hQ:∀h',(∀b o,b≠I→s.heap.get? b=some o→h'.get? b=some o)→Q none { s with heap:=h' }):wpAny (model prog w) A (pyNext (.ref I)) Q E s:=by
 obtain ⟨⟨o,ho,hd⟩,hf,hr⟩:=id hS
 have hT:s.TypeIs (.ref I) "set_iterator" := ⟨_,hit,rfl⟩
 unfold pyNext
 refine zwb0 (wpAny_attempt (wpAny_callSpecial?_slot (name:=Str.ofString "__next__") hT slot_set_iterator_next (wpAny_call_entry slot_set_iterator_next hT yc9 ?_ (yda _))))
 unfold Builtin.«set_iterator.__next__»
 refine zwb0 (zwp0 ?_)
 refine zwb0 (wpAny_fieldsOf hit rfl ?_)
 dsimp only
 refine zwb0 (wpAny_setEntries_of ho hd hf ?_)
 rw[if_neg (by simp)]
 have stop:∀(h1:Heap),(∃vs,h1.get? I=some { cls:=.type "set_iterator",data:=.fields vs }∧2<vs.size)→(∀b o,b≠I→s.heap.get? b=some o→h1.get? b=some o)→wpAny (model prog w) A.in1 (do setField (.ref I) 2 .none;let x ← newExc (.type "StopIteration") [];raiseNew x) (fun fin s'=>∃v,fin=Fin.done (Flow.ret v)∧wpAny (model prog w) A (pure (some v)) Q E s')
  (fun e s'=>wpAny (model prog w) A (do let b ← isInstance e (.type "StopIteration");if b=true then pure none else throw e) Q E s') { s with heap:=h1 }:=by
  rintro h1 ⟨vs,e1,e2⟩ k1
  refine zwb0 (wpAny_setField e1 rfl e2 ?_)
  refine zwb0 ?_
  simp only[newExc,newTuple]
  refine zwb0 (wpAny_newObj_type ?_ (by size_fits))
  refine zwb0 (m:=firstArgMember _ _) (wpAny_of_eq (a:=Value.none) (by first|rfl|(simp only[firstArgMember];rfl)) ?_)
  refine wpAny_newObj_type ?_ (by size_fits)
  simp only[raiseNew]
  refine zwb0 (wpAny_handled ?_)
  rw[show A.in1.handled=none from hh]
  refine zwb0 (zwp0 (wpAny_throw ?_))
  refine zwb0 (wpAny_isInstance (b:=true) (T := "StopIteration") ⟨_,Heap.get?_push_size _ rfl,rfl⟩ isSubtype_stop ?_)
  have u:=((Heap.SameBut.update h1 I (Obj.mapFields (·.setIfInBounds 2 Value.none))).extBut.push ({ cls:=.type "tuple",data:=.seq ([]:List Value).toArray }:Obj))
  exact zwp0 (hQ _ fun b o hb e=>Heap.get?_push_of_some _ (u b o hb (k1 b o hb e)))
 cases y with
 |led bt hl hp=>
  have hF':first=rawInt (if es.size=0 then 0 else t.place.getD (es.size-1) 0+1:Nat):=hF
  subst hF'
  show wpAny _ _ (do let r ← setNext a ((if es.size=0 then 0 else t.place.getD (es.size-1) 0+1:Nat):Int).toNat (es.size:Int).toNat (ep:Int).toNat;_) _ _ s
  rw[Int.toNat_natCast,Int.toNat_natCast,Int.toNat_natCast]
  refine zwb0 (ype hS bt hl hp (Nat.le_refl _) (fun hlt=>absurd hlt (Nat.lt_irrefl _)) fun _=>?_)
  exact stop s.heap ⟨_,hit,by simp⟩ fun b o _ e=>e
 |text bt=>
  have hF':first=rawInt 0:=hF
  subst hF'
  show wpAny _ _ (do let r ← setNext a (0:Int).toNat (es.size:Int).toNat (ep:Int).toNat;_) _ _ s
  rw[Int.toNat_natCast,Int.toNat_natCast]
  refine zwb0 (ymi hS bt ?_)
  have hz:(pickOrder (w.params.setOrder a ep) es).size=es.size:=by rw[← Array.length_toList,(yih _ es).length_eq,Array.length_toList]
  rw[Array.getElem?_eq_none (by omega)]
  exact stop s.heap ⟨_,hit,by simp⟩ fun b o _ e=>e
 |@drawn ps tp hp=>
  obtain ⟨rfl,ot,nt,h1,h2⟩:=hF
  dsimp only
  refine zwb0 ?_
  unfold seqItems?
  refine zwb0 (wpAny_load h1 ?_)
  rw[h2]
  refine zwp0 ?_
  dsimp only
  have hl:ps.length=es.size:=by rw[hp.length_eq,List.length_range]
  rw[Int.toNat_natCast,List.getElem?_toArray,List.getElem?_map,List.getElem?_eq_none (by omega)]
  dsimp only [Option.map]
  refine zwb0 (wpAny_setField_rec hit (by simp) fun h3 x3 y3=>?_)
  exact stop h3 ⟨_,x3,by simp⟩ fun b o hb e=>y3.extBut b o hb e
end
end L2
namespace L2
open PySem PySem.Spec PySem.W PyProof.Rows
variable {X:Cx}
def zb0 (K:PySem.W.Frag):List V→Hp→VK→Prop:=fun xs H Q=>∃(p:Addr) (ns:List Int),xs=[.ref p]∧SqL K H p (ns.map V.int)∧0<ns.length∧∀M,M∈ns→(∀a∈ns,M≤a)→Q (.int M) H
theorem ysz (hc:X.calm=true):yfa X (.builtin "min") (zb0 X.K):=by
 intro pins s σ H xs us Q I r h
 obtain ⟨p,ns,rfl,hq,hne,q⟩:=h
 obtain ⟨u,rfl,ru⟩:=r.one
 cases ru
 obtain ⟨its,rv,pl,hz⟩:=I.list hq
 have ia:=ygu rv
 obtain ⟨ys,ey⟩:=ia.allInts.items
 have hl:=pl.isList
 have e2:ns=ys.toList.map (·.1):=by rw[← ia.numsOf,← nums_intItems,← ey]
 have hsz:0<ys.size:=by rw[e2,List.length_map,Array.length_toList] at hne;exact hne
 rw[ey] at hl
 refine min_intList (I.ok.hd hc) hl hsz fun v h' tk hv hk=>?_
 obtain ⟨t,rfl⟩:=intItems_at hv
 obtain ⟨h1,h2⟩:=argBest_lt (numAt ys) (ys.size-1)
 refine⟨.int _,H,I.kept (t':=tk) hk,⟨t,rfl⟩,q _ ?_ fun a ha=>?_⟩
 ·rw[e2,numAt_eq];exact getD_mem (by rw[List.length_map,Array.length_toList];omega)
 ·rw[e2] at ha
  obtain ⟨j,hj,rfl⟩:=mem_getD ha
  rw[List.length_map,Array.length_toList] at hj
  rw[← numAt_eq];exact h2 j (by omega)
theorem sub_set_self:isSubtype (.type "set") (.type "set")=pure true:=by rw[isSubtype_type];kernel_rfl
theorem ydb:Slot "set_iterator" "__iter__" "set_iterator.__iter__" :=
 .of (owner := "set_iterator") (n := "__iter__") (by rw[typeLookup_type,builtinLookup_eq_fast];kernel_rfl) (by decide +kernel) (by decide +kernel) (by decide +kernel) (by first|exact .inl (by decide +kernel)|exact .inr (by decide +kernel)) (by rw[isSubtype_type];kernel_rfl)
theorem ye2:entryFor table "set_iterator.__iter__" = some Builtin.«dict_keyiterator.__iter__»:=entryFor_alias (by kernel_rfl) rfl (id' := "dict_keyiterator.__iter__") (by decide +kernel) (by kernel_rfl)
theorem ye7 (a:Value):argsOk "set_iterator.__iter__" ⟨[a],[]⟩:=by unfold argsOk;kernel_rfl
def yxz:Value→Int
 |.int k _=>k
 |_=>0
theorem ypf:∀{l:List Value},(∀v∈l,∃k t,v = .int k t)→IntsAre l (l.map yxz)
 |[],_=>.nil
 |v::r,h=>by
  obtain ⟨k,t,rfl⟩:=h v (.head _)
  exact .cons k t (ypf fun u hu=>h u (.tail _ hu))
section
variable {prog:Program}{w:World}{A:Around}{E:Value→Shared→Prop}{s:Shared}
theorem Way.stay {a:Addr}{es:Array (Int×Value)}{ep:Nat}{t:SetTable}{vals:List Value}{F:Nat→Heap→Value→Prop}{ex:List Addr}(y:Way w a es ep t vals F ex){i:Nat}{h h':Heap}{f:Value}(hF:F i h f)(k:∀b∈ex,∀o,h.get? b=some o→h'.get? b=some o):F i h' f:=by
 cases y with
 |led=>exact hF
 |text=>exact hF
 |drawn hp=>
  obtain ⟨e,o,n,h1,h2⟩:=hF
  exact⟨e,o,n,k _ (by simp) o h1,h2⟩
theorem yvf (hh:A.handled=none){I a:Addr}{es:Array (Int×Value)}{ep:Nat}{t:SetTable}{vals:List Value}{F:Nat→Heap→Value→Prop}{ex:List Addr}(y:Way w a es ep t vals F ex)(nI:∀b∈ex,b≠I)(naI:a≠I) :
 WalksS prog w A I (I::a::ex) [I] Eq es.size (fun i v=>vals[i]? = some v) (fun i s=>yxx w s.heap a es ep t∧∃first,yhl s.heap I first i a es.size ep∧F i s.heap first) where
 sub:=fun b hb=>by rw[List.mem_singleton.mp hb];exact .head _
 grefl:=fun _=>rfl
 gtrans:=fun _ _ _ h1 h2=>h1.trans h2
 frame:=fun i s h' tk ⟨⟨⟨o,ho,hd⟩,r⟩,first,hi,hF⟩ _ k=>⟨⟨⟨o,k a (.tail _ (.head _)) o ho,hd⟩,r⟩,first,k I (.head _) _ hi,y.stay hF fun b hb o e=>k b (.tail _ (.tail _ hb)) o e⟩
 item:=fun i s Q E hi ⟨hS,first,hit,hF⟩ hQ=>yve y hS hit hF nI naI hi fun h' f' v hv x1 x2 k=>by
  obtain ⟨⟨o,ho,hd⟩,r⟩:=hS
  exact hQ v _ hv ⟨⟨⟨o,k a o naI ho,hd⟩,r⟩,f',x1,x2⟩ ⟨fun b o hb e=>k b o (fun z=>hb (by rw[z];exact .head _)) e,rfl,rfl,rfl,Nat.le_refl _⟩
 done:=fun s Q E ⟨hS,first,hit,hF⟩ hQ=>yxy hh y hS hit hF fun h' k=>hQ _ ⟨fun b o hb e=>k b o (fun z=>hb (by rw[z];exact .head _)) e,rfl,rfl,rfl,Nat.le_refl _⟩
 self:=fun i s Q E ⟨_,first,hit,_⟩ h=>by
  have hT:s.TypeIs (.ref I) "set_iterator" := ⟨_,hit,rfl⟩
  refine wpAny_pyIter_slot hT ydb (wpAny_call_entry ydb hT ye2 ?_ (ye7 _))
  show wpAny _ _ (ret (.ref I)) _ _ s
  exact zwp0 ⟨_,rfl,"set_iterator",_,hT,slot_set_iterator_next.lookup,h⟩
theorem yoa {a:Addr}{ns:List Int}{Q:List Value→Shared→Prop}(hh:A.handled=none)(S:SetI w a ns s.heap)
 (hQ:∀vals ms h' d tk,IntsAre vals ms→ms.Perm ns→(∀b o,s.heap.get? b=some o→h'.get? b=some o)→s.toks≤tk→Q vals { s with heap:=h',drawn:=d,toks:=tk }):wpAny (model prog w) A (collect (.ref a)) Q E s:=by
 obtain ⟨o,es,ep,t,ho,hex,hd,hel,hpm,hb,hf,hled,hrise⟩:=id S
 have hSa:s.heap.objs.size≠a:=Nat.ne_of_gt (Heap.lt_size ho)
 have hT:s.TypeIs (.ref a) "set" := ⟨o,ho,hex.1⟩
 unfold collect
 refine zwb0 (wpAny_runValue (codeAny_builtin PySem.F.entry_proto_collect ?_))
 rw[Around.under_plainId PySem.F.plain_proto_collect _]
 show wpAny _ A.in1 (newList [] >>= fun l=>again (.builtin "list.__iadd__" ⟨[l,.ref a],[]⟩)) _ _ s
 refine zwb0 (wpAny_newObj_type ?_)
 refine zwp0 ⟨plainId_quiet PySem.F.plain_list_iadd _,codeAny_builtin PySem.F.entry_list_iadd ?_⟩
 rw[Around.under_plainId PySem.F.plain_list_iadd _]
 have hS1:(s.heap.push { cls:=.type "list",data:=.seq ([]:List Value).toArray }).get? s.heap.objs.size=some { cls:=.type "list",data:=.seq ([]:List Value).toArray }:=Heap.get?_push_size _ rfl
 have k1:∀b o,s.heap.get? b=some o→(s.heap.push { cls:=.type "list",data:=.seq ([]:List Value).toArray }).get? b=some o:=fun b o e=>Heap.get?_push_of_some _ e
 have z1:(s.heap.push { cls:=.type "list",data:=.seq ([]:List Value).toArray }).objs.size=s.heap.objs.size+1:=Heap.size_push ..
 show wpAny _ A.in1 (Builtin.List.listExtendWith (.ref s.heap.objs.size) (.ref a) (.ref s.heap.objs.size)) _ _ _
 generalize s.heap.push { cls:=.type "list",data:=.seq ([]:List Value).toArray } = h1 at *
 generalize hL:s.heap.objs.size=L at *
 have ho1:=k1 _ _ ho
 unfold Builtin.List.listExtendWith
 refine zwb0 (wpAny_typeOf (s:={ s with heap:=h1 }) ⟨o,ho1,hex.1⟩ ?_)
 rw[if_neg (by simp [Builtin.List.listSameRef,hSa])]
 refine zwb0 (yvd (s:={ s with heap:=h1 }) ho1 hex hd hf hled hb fun I h2 d vals F ex first y hF hit k2 lI lex lt=>?_)
 refine zwb0 (wpAny_holding ?_)
 have ho2:=k2 _ _ ho1
 have hS2:=k2 _ _ hS1
 have hT2:Shared.TypeIs { s with heap:=h2,drawn:=d } (.ref a) "set" := ⟨o,ho2,hex.1⟩
 unfold Builtin.List.listLengthHint
 refine zwb0 (wpAny_specialOf hT2 PySem.F.slot_set_len.lookup ?_)
 have hsp:splitId "set.__len__" = some ("set","__len__"):=by decide +kernel
 dsimp only
 rw[hsp]
 dsimp only
 refine zwb0 (wpAny_isInstance (b:=true) hT2 sub_set_self ?_)
 rw[if_neg (by decide),if_pos (by kernel_rfl)]
 refine zwb0 (wpAny_typeOf hT2 ?_)
 refine zwp0 ?_
 rw[if_pos (by kernel_rfl)]
 refine zwb0 (wpAny_rule ?_)
 unfold Builtin.List.listTouch
 refine zwb0 (zwb0 (listUpdate_at (s:={ s with heap:=h2,drawn:=d }) hS2 rfl ?_ (by show 0≤sizeLine;decide) (by show 1≤sizeLine+1;decide)))
 have hS3:(h2.update L (Obj.mapSeq fun x=>x.push Value.none)).get? L=some { cls:=.type "list",data:=.seq (#[].push Value.none) 1 }:=Heap.get?_update_self _ hS2 rfl
 refine listUpdate_at (s:={ s with heap:=h2.update L (Obj.mapSeq fun x=>x.push Value.none),drawn:=d }) hS3 rfl ?_ (by show 1≤sizeLine;decide) (by show 0≤sizeLine+1;decide)
 have hS4:((h2.update L (Obj.mapSeq fun x=>x.push Value.none)).update L (Obj.mapSeq fun x=>x.pop)).get? L=some { cls:=.type "list",data:=.seq #[] 2 }:=Heap.get?_update_self _ hS3 rfl
 have k4:∀b o,b≠L→h2.get? b=some o→((h2.update L (Obj.mapSeq fun x=>x.push Value.none)).update L (Obj.mapSeq fun x=>x.pop)).get? b=some o:=fun b o hb e=>(Heap.get?_update_other _ _ (Ne.symm hb)).trans ((Heap.get?_update_other _ _ (Ne.symm hb)).trans e)
 show wpAny _ _ _ _ _ { s with heap:=(h2.update L (Obj.mapSeq fun x=>x.push Value.none)).update L (Obj.mapSeq fun x=>x.pop),drawn:=d }
 generalize (h2.update L (Obj.mapSeq fun x=>x.push Value.none)).update L (Obj.mapSeq fun x=>x.pop)=h4 at hS4 k4 ⊢
 have lI':L+1≤I:=by rw[← z1];exact lI
 have lex':∀b∈ex,L+1≤b∧b<I:=fun b hb=>⟨by rw[← z1];exact(lex b hb).1,(lex b hb).2⟩
 have naL:a<L:=by rw[← hL];exact Heap.lt_size ho
 have naI:a≠I:=Nat.ne_of_lt (Nat.lt_trans naL lI')
 have nI:∀b∈ex,b≠I:=fun b hb=>Nat.ne_of_lt (lex' b hb).2
 have nLI:I≠L:=Nat.ne_of_gt lI'
 have nLx:∀b∈ex,b≠L:=fun b hb=>Nat.ne_of_gt (lex' b hb).1
 have hLf:L ∉ I::a::ex:=fun m=>by
  rcases List.mem_cons.mp m with z|m
  ·exact nLI z.symm
  ·rcases List.mem_cons.mp m with z|m
   ·exact hSa z
   ·exact nLx L m rfl
 have Wk:WalksS prog w A.in1 I (I::a::ex) [I] Eq es.size (fun i v=>vals[i]? = some v) (fun i s=>yxx w s.heap a es ep t∧∃first,yhl s.heap I first i a es.size ep∧F i s.heap first):=yvf (A:=A.in1) hh y nI naI
 refine zwp0 ⟨plainId_quiet PySem.F.plain_extend_loop _,codeAny_extend_loopS Wk (fits_of_scanBound hb) L hLf _ es.size 0 { s with heap:=h4,drawn:=d } #[] 2 rfl (Nat.zero_le _) ⟨⟨⟨o,k4 _ _ (Ne.symm hSa) ho2,hd⟩,hf,hrise⟩,first,k4 _ _ nLI hit,y.stay hF fun b hb o e=>k4 _ _ (nLx b hb) e⟩ hS4 (ItemsOf.nil _) fun s' acc' c' hm hS' hacc=>?_⟩
 show wpAny _ A (load L >>= _) _ _ s'
 refine zwb0 (wpAny_load hS' (zwp0 ?_))
 have hp:=y.perm
 have hlen:vals.length=es.size:=by rw[hp.length_eq,List.length_map,Array.length_toList]
 have eacc:acc'.toList=vals:=by
  refine List.ext_getElem? fun j=>?_
  by_cases hj:j<acc'.size
  ·rw[Array.getElem?_toList,Array.getElem?_eq_getElem hj]
   exact(hacc.2 j _ (Array.getElem?_eq_getElem hj)).symm
  ·rw[List.getElem?_eq_none (by rw[Array.length_toList];omega),List.getElem?_eq_none (by rw[hlen,← hacc.1];omega)]
 rw[eacc]
 obtain ⟨sh,sg,sd,st,so⟩:=s'
 have m2:s.gens=sg:=hm.gens
 have m4:so=s.os:=hm.os
 subst m2 m4
 refine hQ vals (vals.map yxz) sh sd st (ypf fun v hv=>?_) ?_ (fun b o e=>?_) hm.toks
 ·obtain ⟨e,he,rfl⟩:=List.mem_map.mp (hp.mem_iff.mp hv)
  obtain ⟨k,t,rfl⟩:=hel e he
  exact⟨k,t,rfl⟩
 ·refine(hp.map yxz).trans ?_
  rw[List.map_map]
  exact hpm
 ·have lt:b<L:=by rw[← hL];exact Heap.lt_size e
  refine hm.heap b o (fun z=>?_) (k4 _ _ (Nat.ne_of_lt lt) (k2 _ _ (k1 _ _ e)))
  rcases List.mem_cons.mp z with z|z
  ·exact Nat.ne_of_lt lt z
  ·exact Nat.ne_of_lt (Nat.lt_trans lt lI') (List.mem_singleton.mp z)
end
section
variable {X:Cx}
theorem Inv.drawn {pins:List (Addr×Obj)}{σ:St}{H:Hp}{s:Shared}(I:Inv X pins σ H s)(d:Drawn):Inv X pins σ H { s with drawn:=d }:=
 I.step (g':=s.gens) (d':=d) (t':=s.toks) (h':=s.heap) (ch:=[]) (fun _ z=>nomatch z) (fun b o _ _ _ e _=>e) (fun b o _ _ _ e _=>⟨o.slots,e⟩) (fun _ _ _ _ n=>n) (fun b o _ e=>⟨o,e⟩) (fun _ _ e=>e) (fun _ _ _ e=>e) (fun b ps e=>⟨#[],by rw[e];simp⟩) (fun m hm=>hm) I.hok I.bare
def yzu (w:World):List V→Hp→VK→Prop:=fun xs H Q=>∃(p:Addr) (ns:List Int),xs=[.ref p]∧H p=some (HS w p ns)∧ns.length<64∧∀(l:Addr) (ms:List Int),H l=none→ms.Perm ns→ms.Pairwise (·≤·)→Q (.ref l) (upd H l (.lst (ms.map V.int)))
theorem yqd (hc:X.calm=true):yfa X (.builtin "sorted") (yzu X.w):=by
 intro pins s σ H xs us Q I r h
 obtain ⟨p,ns,rfl,hq,h64,q⟩:=h
 obtain ⟨u,rfl,ru⟩:=r.one
 cases ru
 refine Calls.call_function_entry kind_sorted plain_sorted entry_sorted (args_sorted1 _) ?_
 unfold Builtin.«sorted»
 refine zwb0 (m:=checkCount "sorted" 1 1 _) (zwp0 ?_)
 refine zwb0 (yoa (w:=X.w) (show X.A.in1.handled=none from I.ok.hd hc) (yzs I hq) fun vals ms h1 d tk ia pm k1 htk=>?_)
 have I1:Inv X pins σ H { s with heap:=h1,drawn:=d,toks:=tk }:=(I.kept (h':=h1) (t':=tk) k1).drawn d
 have lv:vals.length<64:=by rw[IntsAre.length ia,pm.length_eq];exact h64
 revert I1
 generalize ({ s with heap:=h1,drawn:=d,toks:=tk }:Shared)=s1
 intro I1
 refine zwb0 (wpAny_newList ?_ (by rw[sizeLine_eq];omega))
 have hoL:(s1.heap.push (seqObj "list" vals.toArray 0)).get? s1.heap.objs.size=some (seqObj "list" vals.toArray 0):=Heap.get?_push_size _ rfl
 show wpAny _ _ _ _ _ { s1 with heap:=s1.heap.push (seqObj "list" vals.toArray 0) }
 refine zwb0 (wpAny_holding (wpAny_call_entry slot_list_sort ⟨_,hoL,rfl⟩ entry_list_sort (list_sort_tree (s:={ s1 with heap:=s1.heap.push (seqObj "list" vals.toArray 0) }) hoL ia lv fun out ms' i1 i2 i3=>⟨_,rfl,?_⟩) (args_list_sort _)))
 refine zwp0 ⟨_,rfl,?_⟩
 obtain ⟨e,he⟩:=sortedHeap_at (out:=out) hoL
 refine⟨.ref s1.heap.objs.size,_,I1.laid (t':=s1.toks) (a:=s1.heap.objs.size) (o:=.lst (ms'.map V.int)) (fun b o e=>?_) (Nat.le_refl _) ⟨?_,out.toList,e,ysj i1,?_⟩,rfl,q _ ms' (I1.hok.fresh (Nat.le_refl _)) (i2.trans pm) i3⟩
 ·have lt:=Heap.lt_size e
  show (sortedHeap _ _ _ _).get? b=some o
  rw[sortedHeap_old (Nat.ne_of_lt lt) (by rw[size_push'];exact Nat.lt_succ_of_lt lt)]
  exact Heap.get?_push_of_some _ e
 ·rw[List.length_map,i2.length_eq,pm.length_eq,sizeLine_eq];omega
 ·rw[he]
end
theorem ys0 {o:Obj}{kvs:List (List Key×V)}{a:Addr}{g:TG}{tb:TS}{D:Ends}{σ:St}{H:Hp}(Pv:Nat→St→Hp→Prop)(h0:Pv 0 σ H)(hl:∀i σ H,Pv i σ H→H a=some (.frz o (.dT kvs)))
 (hs:∀i k x σ H p b,kvs[i]? = some (k,x)→Pv i σ H→H p=none→H b=some (.tup (k.map kV))→g (.ref p) σ (upd H p (.tup [.ref b,x])) fun σ2 H2=>tb { D with nx:=Pv (i+1),ct:=Pv (i+1),bk:=D.nx } σ2 H2) (hd:∀σ H,Pv kvs.length σ H→D.nx σ H) :
 ∃W:Nat→Nat→St→Hp→Prop,(∃m,W 0 m σ H)∧∀i m σ H,W i m σ H→
  ((Itd o kvs a).stop i H∧D.nx σ H)∨((Itd o kvs a).go i H∧∃N:St→Hp→Prop,(∀σ' H',N σ' H'→∃m',m' < m∧W (i+1) m' σ' H')∧∀x H',(Itd o kvs a).yld i H x H'→g x σ H' fun σ2 H2=>tb { D with nx:=N,ct:=N,bk:=D.nx } σ2 H2):=by
 refine⟨fun i m σ H=>m=kvs.length-i∧i≤kvs.length∧Pv i σ H,⟨kvs.length,by simp,Nat.zero_le _,h0⟩,?_⟩
 rintro i m σ H ⟨rfl,hi,p⟩
 have q:=hl i σ H p
 by_cases hlt:i<kvs.length
 ·refine .inr ⟨⟨q,hlt⟩,Pv (i+1),fun σ' H' p'=>⟨kvs.length-(i+1),by omega,rfl,hlt,p'⟩,?_⟩
  rintro x H' ⟨pp,b,k,v,rfl,hp,rfl,e,hb⟩
  exact hs i k v σ H pp b e p hp hb
 ·have e:i=kvs.length:=by omega
  subst e
  exact .inl ⟨⟨q,Nat.le_refl _⟩,hd σ H p⟩
section
variable {o:Obj}{kvs:List (List Key×V)}{a D:Addr}{g:TG}{ti:TT}{te tk tv:TE}{σ₀:St}{H1:Hp}{R:Hp→Prop}
theorem yqe (P:Nat→List V→Hp→Prop)(hD:H1 D=none)(hx:H1 a=some (.frz o (.dT kvs)))(hn:kvs.length≤1000)
 (st:∀i zs H H',P i zs H→(∀b o,b≠D→H b=some o→H' b=some o)→P i zs H') (h0:P 0 [] H1)
 (step:∀i k v zs H p b,kvs[i]? = some (k,v)→Same H1 H→P i zs H→H p=none→H b=some (.tup (k.map kV))→∀(K1:V→Hp→Prop) (K2:Hp→Prop),(∀y H4,Same (upd H p (.tup [.ref b,v])) H4→P (i+1) (zs++[y]) H4→K1 y H4)→(∀H3,Same (upd H p (.tup [.ref b,v])) H3→P (i+1) zs H3→K2 H3)→
  g (.ref p) σ₀ (upd H p (.tup [.ref b,v])) fun σ2 H2=>(∀(k:Nat) v,σ₀[k]? = some (some v)→σ2[k]? = some (some v))∧ti σ2 H2 fun b H3=>if b=true then te σ2 H3 K1 else K2 H3)
 (fin:∀zs H,Same H1 H→P kvs.length zs H→zs.length≤kvs.length→H D=some (.lst zs)→R H) :
 ∃W:Nat→Nat→Hp→Prop,(∃m,W 0 m (upd H1 D (.lst [])))∧∀i m H,W i m H→((Itd o kvs a).stop i H∧R H)∨((Itd o kvs a).go i H∧∀x H',(Itd o kvs a).yld i H x H'→g x σ₀ H' fun σ2 H2=>(∀(k:Nat) v,σ₀[k]? = some (some v)→σ2[k]? = some (some v))∧ti σ2 H2 fun b H3=>
  if b=true then te σ2 H3 fun y H4=>∃zs,H4 D=some (.lst zs)∧zs.length<sizeLine∧∃m',m' < m∧W (i+1) m' (upd H4 D (.lst (zs++[y]))) else ∃m',m' < m∧W (i+1) m' H3):=by
 refine⟨fun i m H=>i+m=kvs.length∧Same H1 H∧∃zs,H D=some (.lst zs)∧zs.length≤i∧P i zs H,⟨kvs.length,by omega,yae hD _,[],yab,Nat.le_refl _,st _ _ _ _ h0 fun b o hb e=>by rw[yak hb];exact e⟩,?_⟩
 rintro i m H ⟨him,s1,zs,hz,hl,hp⟩
 have ex:=s1 _ _ hx
 by_cases hi:i<kvs.length
 ·refine .inr ⟨⟨ex,hi⟩,?_⟩
  rintro x H' ⟨p,b,k,v,rfl,hpn,rfl,e,hb⟩
  have sN:=yae hpn (.tup [.ref b,v])
  exact step i k v zs H p b e s1 hp hpn hb _ _ (fun y H4 s4 p4=>⟨zs,s4 _ _ (sN _ _ hz),yas (by omega),m-1,by omega,by omega,((s1.trans sN).trans s4).young hD,zs++[y],yab,by rw[List.length_append,List.length_singleton];omega,st _ _ _ _ p4 fun b o hb e=>by rw[yak hb];exact e⟩) fun H3 s3 p3=>⟨m-1,by omega,by omega,(s1.trans sN).trans s3,zs,s3 _ _ (sN _ _ hz),by omega,p3⟩
 ·have e:i=kvs.length:=by omega
  subst e
  exact .inl ⟨⟨ex,Nat.le_refl _⟩,fin zs H s1 hp hl hz⟩
theorem ys1 (P:Nat→List V→Hp→Prop)(hD:H1 D=none)(hx:H1 a=some (.frz o (.dT kvs)))(hn:kvs.length≤1000)
 (st:∀i zs H H',P i zs H→(∀b o,b≠D→H b=some o→H' b=some o)→P i zs H') (h0:P 0 [] H1)
 (step:∀i k v zs H,kvs[i]? = some (k,v)→Same H1 H→P i zs H→∀(K1:V→Hp→Prop) (K2:Hp→Prop),(∀y H4,Same H H4→P (i+1) (zs++[y]) H4→K1 y H4)→(∀H3,Same H H3→P (i+1) zs H3→K2 H3)→
  g v σ₀ H fun σ2 H2=>(∀(k:Nat) v,σ₀[k]? = some (some v)→σ2[k]? = some (some v))∧ti σ2 H2 fun b H3=>if b=true then te σ2 H3 K1 else K2 H3)
 (fin:∀zs H,Same H1 H→P kvs.length zs H→zs.length≤kvs.length→H D=some (.lst zs)→R H) :
 ∃W:Nat→Nat→Hp→Prop,(∃m,W 0 m (upd H1 D (.lst [])))∧∀i m H,W i m H→((Itv o kvs a).stop i H∧R H)∨((Itv o kvs a).go i H∧∀x H',(Itv o kvs a).yld i H x H'→g x σ₀ H' fun σ2 H2=>(∀(k:Nat) v,σ₀[k]? = some (some v)→σ2[k]? = some (some v))∧ti σ2 H2 fun b H3=>
  if b=true then te σ2 H3 fun y H4=>∃zs,H4 D=some (.lst zs)∧zs.length<sizeLine∧∃m',m' < m∧W (i+1) m' (upd H4 D (.lst (zs++[y]))) else ∃m',m' < m∧W (i+1) m' H3):=by
 refine⟨fun i m H=>i+m=kvs.length∧Same H1 H∧∃zs,H D=some (.lst zs)∧zs.length≤i∧P i zs H,⟨kvs.length,by omega,yae hD _,[],yab,Nat.le_refl _,st _ _ _ _ h0 fun b o hb e=>by rw[yak hb];exact e⟩,?_⟩
 rintro i m H ⟨him,s1,zs,hz,hl,hp⟩
 have ex:=s1 _ _ hx
 by_cases hi:i<kvs.length
 ·refine .inr ⟨⟨ex,hi⟩,?_⟩
  rintro x H' ⟨rfl,k,e⟩
  exact step i k x zs H' e s1 hp _ _ (fun y H4 s4 p4=>⟨zs,s4 _ _ hz,yas (by omega),m-1,by omega,by omega,(s1.trans s4).young hD,zs++[y],yab,by rw[List.length_append,List.length_singleton];omega,st _ _ _ _ p4 fun b o hb e=>by rw[yak hb];exact e⟩) fun H3 s3 p3=>⟨m-1,by omega,by omega,s1.trans s3,zs,s3 _ _ hz,by omega,p3⟩
 ·have e:i=kvs.length:=by omega
  subst e
  exact .inl ⟨⟨ex,Nat.le_refl _⟩,fin zs H s1 hp hl hz⟩
theorem yvg {K:PySem.W.Frag}{xs:List V}(P:Nat→List (List Key×V)→Hp→Prop)(hD:H1 D=none)(hx:H1 a=some (.lst xs))(hn:xs.length≤1000)
 (st:∀i zs H H',P i zs H→(∀b o,b≠D→H b=some o→H' b=some o)→P i zs H') (h0:P 0 [] H1)
 (step:∀i x zs H,xs[i]? = some x→Same H1 H→P i zs H→∀(K1:V→Hp→V→Hp→Prop) (K2:Hp→Prop),(∀y H4 z H5,Same H H5→(∃k bb,y = .ref bb∧H5 bb=some (.tup (k.map kV))∧P (i+1) (yie zs k z) H5)→K1 y H4 z H5)→(∀H3,Same H H3→P (i+1) zs H3→K2 H3)→
  g x σ₀ H fun σ2 H2=>(∀(k:Nat) v,σ₀[k]? = some (some v)→σ2[k]? = some (some v))∧ti σ2 H2 fun b H3=>if b=true then tk σ2 H3 fun y H4=>tv σ2 H4 fun z H5=>K1 y H4 z H5 else K2 H3)
 (fin:∀zs H,Same H1 H→P xs.length zs H→H D=some (.dT zs)→R H) :
 ∃W:Nat→Nat→Hp→Prop,(∃m,W 0 m (upd H1 D (.dT [])))∧∀i m H,W i m H→((Itl K a).stop i H∧R H)∨((Itl K a).go i H∧∀x H',(Itl K a).yld i H x H'→g x σ₀ H' fun σ2 H2=>(∀(k:Nat) v,σ₀[k]? = some (some v)→σ2[k]? = some (some v))∧ti σ2 H2 fun b H3=>
  if b=true then tk σ2 H3 fun y H4=>tv σ2 H4 fun z H5=>∃kvs k bb,H5 D=some (.dT kvs)∧y = .ref bb∧H5 bb=some (.tup (k.map kV))∧kvs.length<sizeLine∧∃m',m' < m∧W (i+1) m' (upd H5 D (.dT (yie kvs k z))) else ∃m',m' < m∧W (i+1) m' H3):=by
 refine⟨fun i m H=>i+m=xs.length∧Same H1 H∧∃zs,H D=some (.dT zs)∧zs.length≤i∧P i zs H,⟨xs.length,by omega,yae hD _,[],yab,Nat.le_refl _,st _ _ _ _ h0 fun b o hb e=>by rw[yak hb];exact e⟩,?_⟩
 rintro i m H ⟨him,s1,zs,hz,hl,hp⟩
 have ex:=s1 _ _ hx
 by_cases hi:i<xs.length
 ·refine .inr ⟨⟨xs,_,SqL.of ex,List.getElem?_eq_getElem hi⟩,?_⟩
  rintro x H' ⟨rfl,hy⟩
  refine step i x zs H' (hy _ (SqL.of ex)) s1 hp (fun y _ z H5=>∃kvs k bb,H5 D=some (.dT kvs)∧y = .ref bb∧H5 bb=some (.tup (k.map kV))∧kvs.length<sizeLine∧∃m',m' < m∧(i+1+m' = xs.length∧Same H1 (upd H5 D (.dT (yie kvs k z)))∧∃zs,upd H5 D (.dT (yie kvs k z)) D=some (.dT zs)∧zs.length≤i+1∧P (i+1) zs (upd H5 D (.dT (yie kvs k z))))) _ (fun y H4 z H5 s5 ⟨k,bb,ey,hb,p5⟩=>?_) fun H3 s3 p3=>⟨m-1,by omega,by omega,s1.trans s3,zs,s3 _ _ hz,by omega,p3⟩
  have lp:=ye0 zs k z
  exact⟨zs,k,bb,s5 _ _ hz,ey,hb,yas (by omega),m-1,by omega,by omega,(s1.trans s5).young hD,_,yab,by omega,st _ _ _ _ p5 fun b o hb e=>by rw[yak hb];exact e⟩
 ·have e:i=xs.length:=by omega
  subst e
  exact .inl ⟨⟨xs,SqL.of ex,Nat.le_refl _⟩,fin zs H s1 hp hz⟩
theorem yvh {K:PySem.W.Frag}{w:World}{xs:List V}(P:Nat→List Int→Prop)(hD:H1 D=none)(hx:H1 a=some (.lst xs))(hn:xs.length≤1000)(h0:P 0 [])
 (step:∀i x ns H,xs[i]? = some x→Same H1 H→P i ns→∀(K1:V→Hp→Prop) (K2:Hp→Prop),(∀y z H4,y = .int z→Same H H4→P (i+1) (if z∈ns then ns else ns++[z])→K1 y H4)→(∀H3,Same H H3→P (i+1) ns→K2 H3)→
  g x σ₀ H fun σ2 H2=>(∀(k:Nat) v,σ₀[k]? = some (some v)→σ2[k]? = some (some v))∧ti σ2 H2 fun b H3=>if b=true then te σ2 H3 K1 else K2 H3)
 (fin:∀ns H,Same H1 H→P xs.length ns→ns.length≤xs.length→H D=some (HS w D ns)→R H) :
 ∃W:Nat→Nat→Hp→Prop,(∃m,W 0 m (upd H1 D (HS w D [])))∧∀i m H,W i m H→((Itl K a).stop i H∧R H)∨((Itl K a).go i H∧∀x H',(Itl K a).yld i H x H'→g x σ₀ H' fun σ2 H2=>(∀(k:Nat) v,σ₀[k]? = some (some v)→σ2[k]? = some (some v))∧ti σ2 H2 fun b H3=>
  if b=true then te σ2 H3 fun y H4=>∃ns x,H4 D=some (HS w D ns)∧y = .int x∧ns.length+1<scanBound∧∃m',m' < m∧W (i+1) m' (upd H4 D (HS w D (if x∈ns then ns else ns++[x]))) else ∃m',m' < m∧W (i+1) m' H3):=by
 refine⟨fun i m H=>i+m=xs.length∧Same H1 H∧∃ns,H D=some (HS w D ns)∧ns.length≤i∧P i ns,⟨xs.length,by omega,yae hD _,[],yab,Nat.le_refl _,h0⟩,?_⟩
 rintro i m H ⟨him,s1,ns,hz,hl,hp⟩
 have ex:=s1 _ _ hx
 by_cases hi:i<xs.length
 ·refine .inr ⟨⟨xs,_,SqL.of ex,List.getElem?_eq_getElem hi⟩,?_⟩
  rintro x H' ⟨rfl,hy⟩
  refine step i x ns H' (hy _ (SqL.of ex)) s1 hp _ _ (fun y z H4 ey s4 p4=>⟨ns,z,s4 _ _ hz,ey,by have:scanBound=4096:=rfl;omega,m-1,by omega,by omega,(s1.trans s4).young hD,_,yab,?_,p4⟩) fun H3 s3 p3=>⟨m-1,by omega,by omega,s1.trans s3,ns,s3 _ _ hz,by omega,p3⟩
  split
  ·omega
  ·rw[List.length_append,List.length_singleton];omega
 ·have e:i=xs.length:=by omega
  subst e
  exact .inl ⟨⟨xs,SqL.of ex,Nat.le_refl _⟩,fin ns H s1 hp hl hz⟩
end
def ymj (f l:Int):List Key:=[.inl f,.inl l]
def slk (ks:List (Int×Int))(v:Int→Int→Int):List (List Key×V):=ks.map fun p=>(ymj p.1 p.2,.int (v p.1 p.2))
def SlAt (H:Hp)(d:Addr)(ks:List (Int×Int))(v:Int→Int→Int):Prop:=∃o,H d=some (.frz o (.dT (slk ks v)))
theorem SlAt.same {H H':Hp}{d:Addr}{ks:List (Int×Int)}{v:Int→Int→Int}(h:SlAt H d ks v)(s:Same H H'):SlAt H' d ks v:=by
 obtain ⟨o,e⟩:=h
 exact⟨o,s _ _ e⟩
def ydy (rs:List (List Int))(ds:List Int):Prop:=ds.Pairwise (· < ·)∧(∀d,d∈ds↔∃r∈rs,r.getD 0 0=d)∧ds.length≤rs.length
def ybi (ds:List Int):List (Int×Int):=ds.flatMap fun f=>(ds.filter fun l=>decide (f≤l)).map fun l=>(f,l)
def ykw:Sp:=fun vs H Q _=>∃(a:Addr) (rs:List (List Int)),vs=[.ref a]∧Rows H a rs∧(∀r∈rs,r.length=3)∧rs.length≤60∧∀l ds H',H l=none→ydy rs ds→Same H H'→ya0 H' l ds→Q (.ref l) H'
def ye3:Sp:=fun vs H Q _=>∃(a:Addr) (rs:List (List Int)),vs=[.ref a]∧Rows H a rs∧(∀r∈rs,r.length=3)∧rs.length≤31∧∀l ds H',H l=none→ydy rs ds→Same H H'→Rows H' l ((ybi ds).map fun p=>[p.1,p.2])→Q (.ref l) H'
def yd0:Sp:=fun vs H Q _=>∃(a b:Addr) (tm:Int) (rs os:List (List Int)),vs=[.ref a,.ref b,.int tm]∧Rows H a rs∧(∀r∈rs,r.length=3)∧rs.length≤31∧Rows H b os∧(∀r∈os,r.length=2)∧os.length≤100∧∀d ds H',H d=none→ydy rs ds→Same H H'→SlAt H' d (ybi ds) (ya1 os tm)→Q (.ref d) H'
def yd1 (v:Int→Int→Int)(day u:Int):Int→Int→Int:=fun f l=>if f≤day∧day≤l then v f l-u else v f l
def yfw:Sp:=fun vs H Q _=>∃(d:Addr) (day u:Int) (ks:List (Int×Int)) (v:Int→Int→Int),vs=[.ref d,.int day,.int u]∧SlAt H d ks v∧ks.Nodup∧ks.length≤1000∧∀d' H',H d'=none→Same H H'→SlAt H' d' ks (yd1 v day u)→Q (.ref d') H'
def yf6:Sp:=fun vs H Q _=>∃(d:Addr) (ks:List (Int×Int)) (v:Int→Int→Int),vs=[.ref d]∧SlAt H d ks v∧ks.length≤1000∧∀H',Same H H'→Q (.bl (decide (∀p∈ks,0≤v p.1 p.2))) H'
def FreeIs (ks:List (Int×Int))(v:Int→Int→Int)(day left M:Int):Prop:=M≤left∧(∀p∈ks,p.1≤day→day≤p.2→M≤v p.1 p.2)∧(M=left∨∃p∈ks,p.1≤day∧day≤p.2∧M=v p.1 p.2)
def ykx:Sp:=fun vs H Q _=>∃(d p:Addr) (u day c du:Int) (ks:List (Int×Int)) (v:Int→Int→Int),vs=[.ref d,.ref p,.int u]∧SlAt H d ks v∧ks.length≤961∧H p=some (.tup [.int day,.int c,.int du])∧∀M H',Same H H'→FreeIs ks v day (c-u) M→Q (.int M) H'
theorem yf7 {ds:List Int}(h:ds.Pairwise (· < ·)):ds.Nodup:=h.imp fun z=>Int.ne_of_lt z
theorem yij {ds:List Int}(h:ds.Pairwise (· < ·)):(ybi ds).Nodup:=by
 have nd:=yf7 h
 unfold ybi
 suffices hh:∀es:List Int,es.Nodup→(es.flatMap fun f=>(ds.filter fun l=>decide (f≤l)).map fun l=>(f,l)).Nodup from hh ds nd
 intro es
 induction es with
 |nil=>intro _;exact List.nodup_nil
 |cons f r ih=>
  intro hn
  obtain ⟨h1,h2⟩:=List.nodup_cons.mp hn
  rw[List.flatMap_cons,List.nodup_append]
  refine⟨?_,ih h2,fun p hp q hq e=>?_⟩
  ·exact List.Pairwise.map _ (fun a b hab z=>hab (congrArg Prod.snd z)) (nd.filter _)
  ·obtain ⟨l,_,rfl⟩:=List.mem_map.mp hp
   obtain ⟨f',hf',hq'⟩:=List.mem_flatMap.mp hq
   obtain ⟨l',_,rfl⟩:=List.mem_map.mp hq'
   cases e
   exact h1 hf'
theorem yky {ds:List Int}(h:ds.length≤31):(ybi ds).length≤961:=by
 unfold ybi
 have:∀es:List Int,(es.flatMap fun f=>(ds.filter fun l=>decide (f≤l)).map fun l=>(f,l)).length≤es.length*31:=by
  intro es
  induction es with
  |nil=>exact Nat.le_refl _
  |cons f r ih=>
   rw[List.flatMap_cons,List.length_append,List.length_map,List.length_cons]
   have:=List.length_filter_le (fun l=>decide (f≤l)) ds
   omega
 have:=this ds
 omega
theorem mem_str {ds:List Int}{f l:Int}:(f,l)∈ybi ds↔f∈ds∧l∈ds∧f≤l:=by
 unfold ybi
 constructor
 ·intro h
  obtain ⟨f',hf,h'⟩:=List.mem_flatMap.mp h
  obtain ⟨l',hl,e⟩:=List.mem_map.mp h'
  cases e
  obtain ⟨h1,h2⟩:=List.mem_filter.mp hl
  exact⟨hf,h1,of_decide_eq_true h2⟩
 ·rintro ⟨h1,h2,h3⟩
  exact List.mem_flatMap.mpr ⟨f,h1,List.mem_map.mpr ⟨l,List.mem_filter.mpr ⟨h2,decide_eq_true h3⟩,rfl⟩⟩
theorem yx0 {f l f' l':Int}(h:ymj f l=ymj f' l'):f=f'∧l=l':=by
 unfold ymj at h
 simp only[List.cons.injEq,Sum.inl.injEq,and_true] at h
 exact h
theorem ys2 {ks:List (Int×Int)}{v:Int→Int→Int}{f l:Int}(h:(f,l) ∉ ks):yie (slk ks v) (ymj f l) (.int (v f l))=slk (ks++[(f,l)]) v:=by
 have hn:yug (slk ks v) (ymj f l)=none:=by
  unfold yug slk
  rw[Option.map_eq_none_iff,List.find?_eq_none]
  intro x hx z
  obtain ⟨p,hp,rfl⟩:=List.mem_map.mp hx
  obtain ⟨e1,e2⟩:=yx0 (of_decide_eq_true z)
  exact h (by rw[← e1,← e2];exact hp)
 rw[yu3 _ hn]
 unfold slk
 rw[List.map_append];rfl
end L2
namespace L2
def ye6 (ds:List Int)(i j:Nat):List (List Int):=((ds.take i).flatMap fun f=>(ds.filter fun l=>decide (f≤l)).map fun l=>[f,l])++((((ds.take j).filter fun l=>decide (ds.getD i 0≤l)).map fun l=>[ds.getD i 0,l]))
theorem yvi {ds:List Int}{i j:Nat}(h:ds.length≤31):(ye6 ds i j).length≤1000:=by
 unfold ye6
 have:∀es:List Int,(es.flatMap fun f=>(ds.filter fun l=>decide (f≤l)).map fun l=>[f,l]).length≤es.length*31:=by
  intro es
  induction es with
  |nil=>exact Nat.le_refl _
  |cons f r ih=>
   rw[List.flatMap_cons,List.length_append,List.length_map,List.length_cons]
   have:=List.length_filter_le (fun l=>decide (f≤l)) ds
   omega
 have h1:=this (ds.take i)
 have h2:=List.length_filter_le (fun l=>decide (ds.getD i 0≤l)) (ds.take j)
 rw[List.length_append,List.length_map]
 rw[List.length_take] at h1 h2
 omega
end L2
namespace K13
open PySem L2
abbrev yee:Stmt:=top 33
abbrev ymk:List Str:=["lots"]
abbrev yff:List Str:=["lots"]
theorem yqf:FnScope ymk yff (yaa yee):=⟨rfl,rfl,rfl,by decide +kernel,rfl,by decide +kernel,by decide +kernel⟩
abbrev ybu:Stmt:=top 34
abbrev yf2:List Str:=["lots","days"]
abbrev ycm:List Str:=["lots"]
theorem sc_stretches_of:FnScope yf2 ycm (yaa ybu):=⟨rfl,rfl,rfl,by decide +kernel,rfl,by decide +kernel,by decide +kernel⟩
abbrev ybv:Stmt:=top 35
abbrev yf3:List Str:=["lots","outs","term"]
abbrev yb8:List Str:=["lots","outs","term"]
theorem yik:FnScope yf3 yb8 (yaa ybv):=⟨rfl,rfl,rfl,by decide +kernel,rfl,by decide +kernel,by decide +kernel⟩
abbrev yd3:Stmt:=top 36
abbrev yqg:List Str:=["slacks","day","units","told","first","last","slack"]
abbrev yd4:List Str:=["slacks","day","units"]
theorem sc_lessened:FnScope yqg yd4 (yaa yd3):=⟨rfl,rfl,rfl,by decide +kernel,rfl,by decide +kernel,by decide +kernel⟩
abbrev ycb:Stmt:=top 38
abbrev yhf:List Str:=["slacks"]
abbrev ydq:List Str:=["slacks"]
theorem ykz:FnScope yhf ydq (yaa ycb):=⟨rfl,rfl,rfl,by decide +kernel,rfl,by decide +kernel,by decide +kernel⟩
abbrev yef:Stmt:=top 39
abbrev yml:List Str:=["slacks","lot","units","day","count","duty","around"]
abbrev yfg:List Str:=["slacks","lot","units"]
theorem sc_free_at:FnScope yml yfg (yaa yef):=⟨rfl,rfl,rfl,by decide +kernel,rfl,by decide +kernel,by decide +kernel⟩
section
variable {P:Program}{w:World}{K:PySem.W.Frag}{mg:Str→Option Value}{base:Heap}{f:Addr}{fd:FuncData}{cl:Nat→Addr}(T:Txt K mg cl)(B:Bn mg)
include T B
theorem yqh (F:Fun K "days_of" "days_of" yee f fd):FnOk P w K mg base CX0 1 f fd yff ykw:=by
 refine F.ok yqf (fun vs H Q E h=>?_) (fun cdv A outer s H vs Q E hr h=>?_)
 ·obtain ⟨a,rs,rfl,_⟩:=h;rfl
 obtain ⟨a,rs,rfl,hR,h3,hn,q⟩:=h
 refine⟨_,(yai (yaw (yao (yqd rfl) rfl B.sorted PyProof.Rows.boot_sorted (yal (yvc (N':=["day","count","duty"]) (ix:=[none,none,none]) (g:=(ylk K 3 (ybw (ybc 0) (ybw (ybc 1) (ybw (ybc 2) ylj))))) (ti:=yho) (te:=(yck 0)) rfl (yav (N:=ymk) (D:=yaa yee) (by decide +kernel)) (ybd (pv 0)) (fun C s H fp=>(ya4 rfl (yaf (yah (i:=0) (show (["day","count","duty"]:List Str).Nodup by decide +kernel) rfl (Or.inl rfl)) (yaf (yah (i:=1) (show (["day","count","duty"]:List Str).Nodup by decide +kernel) rfl (Or.inl rfl)) (yaf (yah (i:=2) (show (["day","count","duty"]:List Str).Nodup by decide +kernel) rfl (Or.inl rfl)) yay))))) (fun C s H fp=>ybo) (fun C s H fp=>(pv 0))) yac)))),?_⟩
 obtain ⟨xs,ex,ht⟩:=hR.tups
 refine⟨_,rfl,a,rfl,⟨xs,SqL.of ex⟩,fun D hD=>?_⟩
 refine yvh (fun i ns=>ns.Nodup∧∀d,d∈ns↔∃r∈rs.take i,r.getD 0 0=d) hD ex (by rw[ht.1];omega) ⟨List.nodup_nil,fun d=>⟨fun z=>(by cases z),fun ⟨r,hr,_⟩=>(by cases hr)⟩⟩ ?_ ?_
 ·rintro i x ns H1 ei s1 ⟨nd,hm⟩ K1 K2 q1 q2
  obtain ⟨p,r,rfl,er,hp⟩:=ht.at ei
  obtain ⟨d,c,u,rfl⟩:=ynx (h3 r (List.mem_of_getElem? er))
  refine⟨p,_,rfl,SqT.of (s1 _ _ hp),rfl,_,_,rfl,_,_,rfl,_,_,rfl,rfl,yax (yax (yax ybf rfl) rfl) rfl,?_⟩
  refine⟨_,rfl,q1 _ d _ rfl (Same.refl _) ⟨?_,fun e=>?_⟩⟩
  ·split
   ·exact nd
   ·rename_i z
    exact List.nodup_append.mpr ⟨nd,by simp,fun a ha b hb e=>z (by rw[← List.mem_singleton.mp hb,← e];exact ha)⟩
  ·rw[ya7 er]
   have key:(∃r∈rs.take i++[[d,c,u]],r.getD 0 0=e)↔(e∈ns∨e=d):=by
    rw[hm e]
    constructor
    ·rintro ⟨r,hr,e'⟩
     rcases List.mem_append.mp hr with z|z
     ·exact .inl ⟨r,z,e'⟩
     ·rw[List.mem_singleton.mp z] at e';exact .inr e'.symm
    ·rintro (⟨r,z,e'⟩ | z)
     ·exact⟨r,List.mem_append_left _ z,e'⟩
     ·exact⟨_,List.mem_append_right _ (.head _),z.symm⟩
   rw[key]
   split
   ·rename_i z
    exact⟨.inl,fun y=>y.elim id fun y=>by rw[y];exact z⟩
   ·rw[List.mem_append,List.mem_singleton]
 ·rintro ns H1 s1 ⟨nd,hm⟩ hl hz
  rw[ht.1,List.take_length] at hm
  have h1:=ht.1
  refine⟨D,ns,rfl,hz,by omega,fun l ms hl' hp hs=>?_⟩
  refine q l ms _ (s1.free hl') ⟨?_,fun d=>by rw[hp.mem_iff];exact hm d,by rw[hp.length_eq];omega⟩ (s1.trans (yae hl' _)) yab
  exact(hs.and (hp.nodup_iff.mpr nd)).imp fun ⟨z1,z2⟩=>by omega
theorem yil (G_days_of:Cal P w K mg base CX0 1 "days_of" yff ykw) (F:Fun K "stretches_of" "stretches_of" ybu f fd):FnOk P w K mg base CX0 2 f fd ycm ye3:=by
 refine F.ok sc_stretches_of (fun vs H Q E h=>?_) (fun cdv A outer s H vs Q E hr h=>?_)
 ·obtain ⟨a,rs,rfl,_⟩:=h;rfl
 obtain ⟨a,rs,rfl,hR,h3,hn,q⟩:=h
 refine⟨_,(yad (ya2 (i:=1) sc_stretches_of.nd rfl (Or.inr rfl) (yan G_days_of hr rfl ya9 (yal (pv 0) yac)))
  (yai (yaw (yu9 (N':=["first","last","days"]) (ix:=[none,none,some 1]) (g:=(ybc 0)) (wi1:=yyx K (yck 2)) (g1:=(ybc 1)) (ti:=(yrh (tOp (rI0 fun i j=>.bl (decide (i≤j))) (yck 0) (yck 1)))) (te:=(yrn (ybp (yck 0) (ybp (yck 1) yhw)))) rfl (yav (N:=yf2) (D:=yaa ybu) (by decide +kernel)) (ybd (pv 1)) (fun C s H fp=>(yah (i:=0) (show (["first","last","days"]:List Str).Nodup by decide +kernel) rfl (Or.inl rfl))) (fun C s H fp=>(ybd (pv 2))) (fun C s H fp=>(yah (i:=1) (show (["first","last","days"]:List Str).Nodup by decide +kernel) rfl (Or.inl rfl))) (fun C s H fp=>(yhp (ybm yd7 (pv 0) (pv 1) (ybs _)))) (fun C s H fp=>(yb0 (yal (pv 0) (yal (pv 1) yac)))))))),?_⟩
 refine⟨_,rfl,a,rs,rfl,hR,h3,by omega,fun dl ds H1 hdl hds s1 e1=>?_⟩
 have ld:ds.length≤31:=Nat.le_trans hds.2.2 hn
 refine⟨_,rfl,dl,rfl,⟨_,SqL.of e1⟩,fun D hD=>?_⟩
 have part:∀i j,ye6 ds i j=((ds.take i).flatMap fun f=>(ds.filter fun l=>decide (f≤l)).map fun l=>[f,l])++((((ds.take j).filter fun l=>decide (ds.getD i 0≤l)).map fun l=>[ds.getD i 0,l])):=fun i j=>rfl
 refine⟨fun i m H2=>i+m=ds.length∧Same H1 H2∧Rows H2 D (ye6 ds i 0),⟨ds.length,by omega,yae hD _,Rows.nil yab⟩,?_⟩
 rintro i m H2 ⟨him,s2,R2⟩
 have e2:ya0 H2 dl ds:=s2 _ _ e1
 by_cases hi:i<ds.length
 ·refine .inr ⟨⟨_,_,SqL.of e2,List.getElem?_eq_getElem (by rw[List.length_map];exact hi)⟩,?_⟩
  rintro x H' ⟨rfl,hx⟩
  obtain ⟨fi,rfl,efi⟩:=ycs (hx _ (SqL.of e2))
  have gfi:ds.getD i 0=fi:=by rw[List.getD_eq_getElem?_getD,efi];rfl
  refine⟨yax ybf rfl,?_⟩
  refine⟨_,rfl,dl,rfl,⟨_,SqL.of e2⟩,?_⟩
  refine⟨fun j m1 H3=>j+m1=ds.length∧Same H1 H3∧Rows H3 D (ye6 ds i j),⟨ds.length,by omega,s2,R2⟩,?_⟩
  rintro j m1 H3 ⟨hjm,s3,R3⟩
  have e3:ya0 H3 dl ds:=s3 _ _ e1
  by_cases hj:j<ds.length
  ·refine .inr ⟨⟨_,_,SqL.of e3,List.getElem?_eq_getElem (by rw[List.length_map];exact hj)⟩,?_⟩
   rintro y H4 ⟨rfl,hy⟩
   obtain ⟨la,rfl,ela⟩:=ycs (hy _ (SqL.of e3))
   refine⟨yax ybf rfl,?_⟩
   refine⟨_,rfl,_,rfl,_,_,rfl,rfl,_,rfl,?_⟩
   have ft:=yec (rs:=ds) (fun l=>decide (fi≤l)) ela
   by_cases c1:fi≤la
   ·rw[decide_eq_true c1]
    refine yeh ⟨_,rfl,_,rfl,by show 2≤sizeLine;decide,fun t ht=>?_⟩
    obtain ⟨ys,ey,eyl,_⟩:=R3.get
    have e4:ye6 ds i (j+1)=ye6 ds i j++[[fi,la]]:=by
     rw[part,part,gfi,ft,if_pos (decide_eq_true c1),List.map_append,← List.append_assoc];rfl
    refine⟨ys,by rw[yak (yam ey ht)];exact ey,yas (by rw[eyl];exact yvi ld),m1-1,by omega,by omega,(s3.trans (yae ht _)).young hD,?_⟩
    rw[e4]
    exact R3.push (r:=[fi,la]) ey ht
   ·rw[decide_eq_false c1]
    refine ycq ⟨m1-1,by omega,by omega,s3,?_⟩
    have e4:ye6 ds i (j+1)=ye6 ds i j:=by
     rw[part,part,gfi,ft,if_neg (fun z=>c1 (of_decide_eq_true z)),List.append_nil]
    rw[e4]
    exact R3
  ·refine .inl ⟨⟨_,SqL.of e3,by rw[List.length_map];omega⟩,m-1,by omega,by omega,s3,?_⟩
   have e4:ye6 ds (i+1) 0=ye6 ds i j:=by
    rw[part,part,gfi,ya7 efi,List.flatMap_append,List.take_of_length_le (by omega:ds.length≤j)]
    simp
   rw[e4]
   exact R3
 ·refine .inl ⟨⟨_,SqL.of e2,by rw[List.length_map];omega⟩,?_⟩
  refine q D ds H2 (s1.free hD) hds (s1.trans s2) ?_
  have e4:ye6 ds i 0=(ybi ds).map fun p=>[p.1,p.2]:=by
   rw[part,List.take_of_length_le (by omega:ds.length≤i)]
   unfold ybi
   rw[List.map_flatMap]
   simp
   rfl
  rw[← e4]
  exact R2
theorem yim (G_stretches_of:Cal P w K mg base CX0 2 "stretches_of" ycm ye3) (G_going:Cal P w K mg base CX0 1 "going" yh6 ykk) (F:Fun K "against_each" "against_each" ybv f fd):FnOk P w K mg base CX0 3 f fd yb8 yd0:=by
 refine F.ok yik (fun vs H Q E h=>?_) (fun cdv A outer s H vs Q E hr h=>?_)
 ·obtain ⟨a,b,tm,rs,os,rfl,_⟩:=h;rfl
 obtain ⟨a,b,tm,rs,os,rfl,hR,h3,rn,hO,h2,on,q⟩:=h
 refine⟨_,(yai (yaw (ywn (yu5 (N':=["stretch","outs","term"]) (ix:=[none,some 1,some 2]) (g:=(ybc 0)) (ti:=yho) (tk:=(yck 0)) (tv:=(yi7 ykk [] E0 (ybp (yck 1) (ybp (yck 2) (ybp (yck 0) yhw))))) (Nat.lt_of_le_of_lt (Nat.le_add_right _ _) hr.units) rfl (yav (N:=yf3) (D:=yaa ybv) (by decide +kernel)) (ybd (yan G_stretches_of hr rfl ya9 (yal (pv 0) yac))) (fun C s H fp=>(yah (i:=0) (show (["stretch","outs","term"]:List Str).Nodup by decide +kernel) rfl (Or.inl rfl))) (fun C s H fp=>ybo) (fun C s H fp=>(pv 0)) (fun C s H fp=>(yan G_going hr rfl ya9 (yal (pv 1) (yal (pv 2) (yal (pv 0) yac))))))))),?_⟩
 refine⟨_,rfl,a,rs,rfl,hR,h3,rn,fun sl ds H1 hsl hds s1 R1=>?_⟩
 obtain ⟨xs,ex,ht⟩:=R1.tups
 have ld:ds.length≤31:=Nat.le_trans hds.2.2 rn
 have sn:=yky ld
 have nd:=yij hds.1
 have O1:=hO.same s1
 refine⟨sl,rfl,⟨xs,SqL.of ex⟩,fun D hD=>?_⟩
 have lx:xs.length=(ybi ds).length:=by rw[ht.1,List.length_map]
 refine yvg (fun i zs _=>zs=slk ((ybi ds).take i) (ya1 os tm)) hD ex (by omega) (fun i zs H1 H2 h k=>h) rfl ?_ ?_
 ·rintro i x zs H2 ei s2 rfl K1 K2 q1 q2
  obtain ⟨p,r,rfl,er,hp⟩:=ht.at ei
  rw[List.getElem?_map] at er
  cases ep:(ybi ds)[i]? with
  |none=>rw[ep] at er;cases er
  |some pr=>
   rw[ep] at er
   cases er
   obtain ⟨ff,la⟩:=pr
   refine⟨yax ybf rfl,_,rfl,_,rfl,_,rfl,_,rfl,b,p,tm,ff,la,os,rfl,O1.same s2,h2,on,s2 _ _ hp,fun H3 s3=>?_⟩
   refine q1 _ _ _ _ s3 ⟨ymj ff la,p,rfl,s3 _ _ (s2 _ _ hp),?_⟩
   have hni:(ff,la) ∉ (ybi ds).take i:=fun z=>by
    obtain ⟨hi,e'⟩:=List.getElem?_eq_some_iff.mp ep
    have:=List.nodup_append.mp (by rw[← List.take_append_drop i (ybi ds)] at nd;exact nd)
    exact this.2.2 _ z _ (by rw[List.drop_eq_getElem_cons hi,e'];exact .head _) rfl
   rw[ya7 ep]
   exact ys2 hni
 ·rintro zs H2 s2 rfl hz
  rw[lx,List.take_length] at hz
  refine⟨D,_,rfl,hz,fun o=>?_⟩
  exact q D ds _ (s1.free hD) hds ((s1.trans s2).young (s1.free hD)) ⟨o,yab⟩
theorem yob (F:Fun K "lessened" "lessened" yd3 f fd):FnOk P w K mg base CX0 1 f fd yd4 yfw:=by
 refine F.ok sc_lessened (fun vs H Q E h=>?_) (fun cdv A outer s H vs Q E hr h=>?_)
 ·obtain ⟨d,day,u,ks,v,rfl,_⟩:=h;rfl
 obtain ⟨d,day,u,ks,v,rfl,⟨o,ho⟩,nd,kn,q⟩:=h
 refine⟨_,(yad (ya2 (i:=3) sc_lessened.nd rfl (Or.inl rfl) yu4)
  (yad (yei PassesOwn.never rfl (ypc (pv 0)) (ya4 rfl (yaf (ya4 rfl (yaf (yah (i:=4) sc_lessened.nd rfl (Or.inl rfl)) (yaf (yah (i:=5) sc_lessened.nd rfl (Or.inl rfl)) yay))) (yaf (yah (i:=6) sc_lessened.nd rfl (Or.inl rfl)) yay))) (yai (yxq (yy5 hr) (pv 3) (yb0 (yal (pv 4) (yal (pv 5) yac))) (yui (ydj yd7 yd7 (pv 4) (pv 1) (pv 5)) (yb1 yjm (pv 6) (pv 2)) (pv 6)) rfl)))
  (yai (yaw (ywn (pv 3)))))),?_⟩
 refine fun t ht=>?_
 have s1:=yae ht (.dT [])
 refine⟨_,rfl,d,o,_,rfl,s1 _ _ ho,?_⟩
 refine ys0 (fun i σ H3=>∃o4 o5 o6,σ=[some (.ref d),some (.int day),some (.int u),some (.ref t),o4,o5,o6]∧Same H H3∧H3 t=some (.dT (slk (ks.take i) (yd1 v day u)))) ⟨_,_,_,rfl,s1,yab⟩ ?_ ?_ ?_
 ·rintro i σ H3 ⟨o4,o5,o6,rfl,s3,_⟩
  exact s3 _ _ ho
 ·rintro i k x σ H3 p b ei ⟨o4,o5,o6,rfl,s3,e3⟩ hp hb
  unfold slk at ei
  rw[List.getElem?_map] at ei
  cases ep:ks[i]? with
  |none=>rw[ep] at ei;cases ei
  |some pr=>
   rw[ep] at ei
   cases ei
   obtain ⟨ff,la⟩:=pr
   have sN:=yae hp (.tup [.ref b,.int (v ff la)])
   have hb':=sN _ _ hb
   refine⟨p,_,rfl,SqT.of yab,rfl,_,_,rfl,b,_,rfl,SqT.of hb',rfl,_,_,rfl,_,_,rfl,rfl,_,_,rfl,rfl,?_⟩
   have s4:=s3.trans sN
   have e4:=sN _ _ e3
   generalize L2.upd H3 p (.tup [.ref b,.int (v ff la)])=H4 at *
   have hni:(ff,la) ∉ ks.take i:=fun z=>by
    obtain ⟨hi,e'⟩:=List.getElem?_eq_some_iff.mp ep
    have:=List.nodup_append.mp (by rw[← List.take_append_drop i ks] at nd;exact nd)
    exact this.2.2 _ z _ (by rw[List.drop_eq_getElem_cons hi,e'];exact .head _) rfl
   have put:∀z:Int,z=yd1 v day u ff la→∃x H5,V.ref t=V.ref x∧True∧H5=H5:=fun z _=>⟨t,H4,rfl,trivial,rfl⟩
   have fin:∀z:Int,z=yd1 v day u ff la→∀(tp:Addr) (htp:H4 tp=none),∃a H5,V.ref t = .ref a∧DPut (L2.upd H4 tp (.tup [.int ff,.int la])) a (.ref tp) (.int z) H5∧(∃o4 o5 o6,([some (.ref d),some (.int day),some (.int u),some (.ref t),some (.int ff),some (.int la),some (.int (v ff la))]:St)=[some (.ref d),some (.int day),some (.int u),some (.ref t),o4,o5,o6]∧Same H H5∧H5 t=some (.dT (slk (ks.take (i+1)) (yd1 v day u)))):=fun z ez tp htp=>by
    have sT:=yae htp (.tup [.int ff,.int la])
    refine⟨t,_,rfl,DPut.t (k:=ymj ff la) (sT _ _ e4) yab (yas (by unfold slk;rw[List.length_map,List.length_take];omega)),_,_,_,rfl,(s4.trans sT).young ht,?_⟩
    rw[yab,ya7 ep,ez,ys2 hni]
   refine⟨_,rfl,_,rfl,_,_,rfl,rfl,_,rfl,?_⟩
   by_cases c1:ff≤day
   ·rw[decide_eq_true c1]
    refine yeh ⟨_,rfl,_,_,rfl,rfl,_,rfl,?_⟩
    by_cases c2:day≤la
    ·rw[decide_eq_true c2]
     refine yeh ⟨_,rfl,_,rfl,_,_,rfl,rfl,_,rfl,_,rfl,_,rfl,by show 2≤sizeLine;decide,fun tp htp=>?_⟩
     exact fin _ (by unfold yd1;rw[if_pos ⟨c1,c2⟩]) tp htp
    ·rw[decide_eq_false c2]
     refine ycq ⟨_,rfl,_,rfl,_,rfl,_,rfl,by show 2≤sizeLine;decide,fun tp htp=>?_⟩
     exact fin _ (by unfold yd1;rw[if_neg fun z=>c2 z.2]) tp htp
   ·rw[decide_eq_false c1]
    refine ycq ⟨_,rfl,ycq ⟨_,rfl,_,rfl,_,rfl,_,rfl,by show 2≤sizeLine;decide,fun tp htp=>?_⟩⟩
    exact fin _ (by unfold yd1;rw[if_neg fun z=>c1 z.1]) tp htp
 ·rintro σ H3 ⟨o4,o5,o6,rfl,s3,e3⟩
  have lk:(slk ks v).length=ks.length:=by unfold slk;rw[List.length_map]
  rw[lk,List.take_length] at e3
  exact⟨_,rfl,t,_,rfl,e3,fun o'=>q t _ ht (s3.young ht) ⟨o',yab⟩⟩
theorem yk0 (F:Fun K "none_lacks" "none_lacks" ycb f fd):FnOk P w K mg base CX0 1 f fd ydq yf6:=by
 refine F.ok ykz (fun vs H Q E h=>?_) (fun cdv A outer s H vs Q E hr h=>?_)
 ·obtain ⟨d,ks,v,rfl,_⟩:=h;rfl
 obtain ⟨d,ks,v,rfl,⟨o,ho⟩,kn,q⟩:=h
 refine⟨_,(yai (yaw (yao (ygd rfl) rfl B.all PyProof.Rows.boot_all (yal (yem (N':=["slack"]) (ix:=[none]) (g:=(ybc 0)) (ti:=yho) (te:=(tOp (rI0 fun i j=>.bl (decide (j≤i))) (yck 0) (tC (.int 0)))) rfl (yav (N:=yhf) (D:=yaa ycb) (by decide +kernel)) (ysy (pv 0)) (fun C s H fp=>(yah (i:=0) (show (["slack"]:List Str).Nodup by decide +kernel) rfl (Or.inl rfl))) (fun C s H fp=>ybo) (fun C s H fp=>(ygq yw6 (pv 0) yaj (ybs _)))) yac)))),?_⟩
 have lk:(slk ks v).length=ks.length:=by unfold slk;rw[List.length_map]
 refine⟨_,rfl,d,o,_,rfl,ho,fun D hD=>?_⟩
 refine ys1 (fun i zs _=>zs=((ks.take i).map fun p=>decide (0≤v p.1 p.2)).map V.bl) hD ho (by rw[lk];omega) (fun i zs H1 H2 h k=>h) rfl ?_ ?_
 ·rintro i k x zs H1 ei s1 rfl K1 K2 q1 q2
  unfold slk at ei
  rw[List.getElem?_map] at ei
  cases ep:ks[i]? with
  |none=>rw[ep] at ei;cases ei
  |some pr=>
   rw[ep] at ei
   cases ei
   refine⟨yax ybf rfl,_,rfl,_,_,rfl,rfl,q1 _ _ (Same.refl _) ?_⟩
   rw[ya7 ep,List.map_append,List.map_append];rfl
 ·rintro zs H1 s1 rfl hl hz
  rw[lk,List.take_length] at hz
  refine⟨D,_,rfl,SqL.of hz,?_⟩
  have e:(ks.map fun p=>decide (0≤v p.1 p.2)).all id=decide (∀p∈ks,0≤v p.1 p.2):=by
   rw[Bool.eq_iff_iff,List.all_eq_true,decide_eq_true_iff]
   constructor
   ·intro h p hp
    exact of_decide_eq_true (h _ (List.mem_map.mpr ⟨p,hp,rfl⟩))
   ·intro h x hx
    obtain ⟨p,hp,rfl⟩:=List.mem_map.mp hx
    exact decide_eq_true (h p hp)
  rw[e]
  exact q H1 s1
theorem yqi (F:Fun K "free_at" "free_at" yef f fd):FnOk P w K mg base CX0 1 f fd yfg ykx:=by
 refine F.ok sc_free_at (fun vs H Q E h=>?_) (fun cdv A outer s H vs Q E hr h=>?_)
 ·obtain ⟨d,p,u,day,c,du,ks,v,rfl,_⟩:=h;rfl
 obtain ⟨d,p,u,day,c,du,ks,v,rfl,⟨o,ho⟩,kn,hp,q⟩:=h
 refine⟨_,(yad (yc4 (pv 1) (ya4 rfl (yaf (yah (i:=3) sc_free_at.nd rfl (Or.inr rfl)) (yaf (yah (i:=4) sc_free_at.nd rfl (Or.inl rfl)) (yaf (yah (i:=5) sc_free_at.nd rfl (Or.inl rfl)) yay)))))
  (yad (ycw (i:=6) sc_free_at.nd rfl (Or.inl rfl) (N':=["first","last","slack","day"]) (ix:=[none,none,none,some 3]) (g:=(ylk K 2 (ybw (ylk K 2 (ybw (ybc 0) (ybw (ybc 1) ylj))) (ybw (ybc 2) ylj)))) (ti:=(yrh (yoq (rI0 fun i j=>.bl (decide (i≤j))) (rI0 fun i j=>.bl (decide (i≤j))) (yck 0) (yck 3) (yck 1)))) (te:=(yck 2)) rfl (yav (N:=yml) (D:=yaa yef) (by decide +kernel)) (ypc (pv 0)) (fun C s H fp=>(ya4 rfl (yaf (ya4 rfl (yaf (yah (i:=0) (show (["first","last","slack","day"]:List Str).Nodup by decide +kernel) rfl (Or.inl rfl)) (yaf (yah (i:=1) (show (["first","last","slack","day"]:List Str).Nodup by decide +kernel) rfl (Or.inl rfl)) yay))) (yaf (yah (i:=2) (show (["first","last","slack","day"]:List Str).Nodup by decide +kernel) rfl (Or.inl rfl)) yay)))) (fun C s H fp=>(yhp (ydj yd7 yd7 (pv 0) (pv 3) (pv 1)))) (fun C s H fp=>(pv 2)))
  (yai (yaw (yao (ysz rfl) rfl B.min PyProof.Rows.boot_min (yal (yb1 yru (yf1 (yal (yb1 yjm (pv 4) (pv 2)) yac)) (pv 6)) yac)))))),?_⟩
 have lk:(slk ks v).length=ks.length:=by unfold slk;rw[List.length_map]
 refine⟨_,rfl,p,_,rfl,SqT.of hp,rfl,_,_,rfl,_,_,rfl,_,_,rfl,rfl,?_⟩
 refine⟨_,rfl,d,o,_,rfl,ho,fun D hD=>?_⟩
 have arB:∀q:Int×Int,(q.1≤day∧day≤q.2)↔(decide (q.1≤day∧day≤q.2))=true:=fun q=>by rw[decide_eq_true_iff]
 refine yqe (fun i zs _=>zs=(((ks.take i).filter fun q=>decide (q.1≤day∧day≤q.2)).map fun q=>v q.1 q.2).map V.int) hD ho (by rw[lk];omega) (fun i zs H1 H2 h k=>h) rfl ?_ ?_
 ·rintro i k x zs H1 pp b ei s1 rfl hpp hb K1 K2 q1 q2
  unfold slk at ei
  rw[List.getElem?_map] at ei
  cases ep:ks[i]? with
  |none=>rw[ep] at ei;cases ei
  |some pr=>
   rw[ep] at ei
   cases ei
   obtain ⟨ff,la⟩:=pr
   have hb':=yae hpp (.tup [.ref b,.int (v ff la)]) _ _ hb
   have ft:=yec (rs:=ks) (fun q=>decide (q.1≤day∧day≤q.2)) ep
   refine⟨pp,_,rfl,SqT.of yab,rfl,_,_,rfl,b,_,rfl,SqT.of hb',rfl,_,_,rfl,_,_,rfl,rfl,_,_,rfl,rfl,yax (yax (yax ybf rfl) rfl) rfl,?_⟩
   generalize L2.upd H1 pp (.tup [.ref b,.int (v ff la)])=H2 at *
   have no:¬ (ff≤day∧day≤la)→K2 H2:=fun z=>q2 _ (Same.refl _) (by rw[ft,if_neg (fun y=>z (of_decide_eq_true y)),List.append_nil])
   refine⟨_,rfl,_,rfl,_,_,rfl,rfl,_,rfl,?_⟩
   by_cases c1:ff≤day
   ·rw[decide_eq_true c1]
    refine yeh ⟨_,rfl,_,_,rfl,rfl,_,rfl,?_⟩
    by_cases c2:day≤la
    ·rw[decide_eq_true c2]
     refine yeh ⟨_,rfl,q1 _ _ (Same.refl _) ?_⟩
     rw[ft,if_pos (decide_eq_true ⟨c1,c2⟩),List.map_append,List.map_append];rfl
    ·rw[decide_eq_false c2]
     exact ycq (no fun z=>c2 z.2)
   ·rw[decide_eq_false c1]
    exact ycq ⟨_,rfl,ycq (no fun z=>c1 z.1)⟩
 ·rintro zs H1 s1 rfl hl hz
  rw[lk,List.take_length] at hz
  refine⟨_,rfl,_,rfl,_,_,rfl,rfl,by show 1≤sizeLine;decide,fun l1 hl1=>?_⟩
  have s2:=yae (H:=H1) hl1 (.lst [.int (c-u)])
  refine⟨_,rfl,l1,D,_,_,rfl,rfl,yab,s2 _ _ hz,Nat.le_of_lt (yas ?_),fun l2 hl2=>?_⟩
  ·rw[List.length_map,List.length_map,List.length_singleton]
   have:=List.length_filter_le (fun q:Int×Int=>decide (q.1≤day∧day≤q.2)) ks
   omega
  ·refine⟨l2,(c-u)::((ks.filter fun q=>decide (q.1≤day∧day≤q.2)).map fun q=>v q.1 q.2),rfl,SqL.of yab,Nat.succ_pos _,fun M hM hle=>?_⟩
   refine q M _ ((s1.trans s2).trans (yae hl2 _)) ⟨hle _ (.head _),fun pr hpr z1 z2=>?_,?_⟩
   ·exact hle _ (.tail _ (List.mem_map.mpr ⟨pr,List.mem_filter.mpr ⟨hpr,decide_eq_true ⟨z1,z2⟩⟩,rfl⟩))
   ·rcases List.mem_cons.mp hM with z|z
    ·exact .inl z
    ·obtain ⟨pr,hpr,e⟩:=List.mem_map.mp z
     obtain ⟨h1,h2⟩:=List.mem_filter.mp hpr
     have h2':=of_decide_eq_true h2
     exact .inr ⟨pr,h1,h2'.1,h2'.2,e.symm⟩
end
end K13
namespace L2
open PySem PySem.Spec PySem.W PyProof.Rows
def ys3 (v:Int→Int→Int)(day left:Int):List (Int×Int)→Int
 |[]=>left
 |p::ks=>if p.1≤day∧day≤p.2∧v p.1 p.2<ys3 v day left ks then v p.1 p.2 else ys3 v day left ks
theorem yk1 (v:Int→Int→Int)(day left:Int):∀ks,FreeIs ks v day left (ys3 v day left ks)
 |[]=>⟨Int.le_refl _,fun p hp=>(by cases hp),.inl rfl⟩
 |p::ks=>by
  obtain ⟨h1,h2,h3⟩:=yk1 v day left ks
  unfold ys3
  split
  ·rename_i c
   refine⟨by omega,fun q hq a b=>?_,.inr ⟨p,.head _,c.1,c.2.1,rfl⟩⟩
   rcases List.mem_cons.mp hq with e|e
   ·subst e;exact Int.le_refl _
   ·have:=h2 q e a b;omega
  ·rename_i c
   refine⟨h1,fun q hq a b=>?_,?_⟩
   ·rcases List.mem_cons.mp hq with e|e
    ·subst e
     exact Int.not_lt.mp fun z=>c ⟨a,b,z⟩
    ·exact h2 q e a b
   ·rcases h3 with z|⟨q,hq,a,b,e⟩
    ·exact .inl z
    ·exact .inr ⟨q,.tail _ hq,a,b,e⟩
theorem FreeIs.uniq {ks:List (Int×Int)}{v:Int→Int→Int}{day left M M':Int}(h:FreeIs ks v day left M)(h':FreeIs ks v day left M'):M=M':=by
 obtain ⟨a1,a2,a3⟩:=h
 obtain ⟨b1,b2,b3⟩:=h'
 refine Int.le_antisymm ?_ ?_
 ·rcases b3 with z|⟨p,hp,x,y,e⟩
  ·rw[z];exact a1
  ·rw[e];exact a2 p hp x y
 ·rcases a3 with z|⟨p,hp,x,y,e⟩
  ·rw[z];exact b1
  ·rw[e];exact b2 p hp x y
def yep (ks:List (Int×Int))(rs:List (List Int))(v:Int→Int→Int)(i:Int):Int:=ys3 v (yag rs 0 i) (yag rs 1 i) ks
def ybn (ks:List (Int×Int))(rs:List (List Int)):List Int→(Int→Int→Int)→List Int→(Int→Int→Int)×List Int
 |[],v,cs=>(v,cs)
 |i::os,v,cs=>ybn ks rs os (yd1 v (yag rs 0 i) (yep ks rs v i)) (cs.set i.toNat (yep ks rs v i))
theorem ygk (ks:List (Int×Int))(rs:List (List Int)):∀(os ps:List Int) (v:Int→Int→Int) (cs:List Int),ybn ks rs (os++ps) v cs=ybn ks rs ps (ybn ks rs os v cs).1 (ybn ks rs os v cs).2
 |[],ps,v,cs=>rfl
 |i::os,ps,v,cs=>ygk ks rs os ps _ _
theorem yg2 (ks:List (Int×Int))(rs:List (List Int)):∀(os:List Int) (v:Int→Int→Int) (cs:List Int),(ybn ks rs os v cs).2.length=cs.length
 |[],v,cs=>rfl
 |i::os,v,cs=>by
  show (ybn ks rs os _ _).2.length=_
  rw[yg2,List.length_set]
def nN (ks:List (Int×Int))(v:Int→Int→Int):Prop:=∀p∈ks,0≤v p.1 p.2
def Within (rs:List (List Int))(cs:List Int):Prop:=∀(j:Nat) u,cs[j]? = some u→0≤u∧u≤yag rs 1 (j:Int)
theorem yx1 {ks:List (Int×Int)}{rs:List (List Int)}{v:Int→Int→Int}{i:Int}(hv:nN ks v)(hc:0≤yag rs 1 i):0≤yep ks rs v i∧yep ks rs v i≤yag rs 1 i∧nN ks (yd1 v (yag rs 0 i) (yep ks rs v i)):=by
 obtain ⟨h1,h2,h3⟩:=yk1 v (yag rs 0 i) (yag rs 1 i) ks
 refine⟨?_,h1,fun p hp=>?_⟩
 ·rcases h3 with z|⟨p,hp,_,_,e⟩
  ·unfold yep;rw[z];exact hc
  ·unfold yep;rw[e];exact hv p hp
 ·unfold yd1
  split
  ·rename_i c
   have:=h2 p hp c.1 c.2
   unfold yep
   omega
  ·exact hv p hp
theorem yin {ks:List (Int×Int)}{rs:List (List Int)}:∀(os:List Int) (v:Int→Int→Int) (cs:List Int),(∀i∈os,0≤i∧0≤yag rs 1 i)→nN ks v→Within rs cs→nN ks (ybn ks rs os v cs).1∧Within rs (ybn ks rs os v cs).2
 |[],v,cs,_,hv,hc=>⟨hv,hc⟩
 |i::os,v,cs,ho,hv,hc=>by
  obtain ⟨i0,i1⟩:=ho i (.head _)
  obtain ⟨a1,a2,a3⟩:=yx1 hv i1
  refine yin os _ _ (fun j hj=>ho j (.tail _ hj)) a3 fun j u e=>?_
  rw[List.getElem?_set] at e
  split at e
  ·rename_i z
   split at e
   ·cases e
    have:((j:Nat):Int)=i:=by omega
    rw[this]
    exact⟨a1,a2⟩
   ·cases e
  ·exact hc j u e
def BestIs (rs os:List (List Int))(tm:Int)(cs:List Int):Prop:=∃ds ord,ydy rs ds∧yb2 (yxo rs) rs.length ord∧cs=(ybn (ybi ds) rs ord (ya1 os tm) (List.replicate rs.length 0)).2
theorem BestIs.len {rs os:List (List Int)}{tm:Int}{cs:List Int}(h:BestIs rs os tm cs):cs.length=rs.length:=by
 obtain ⟨ds,ord,_,_,rfl⟩:=h
 rw[yg2,List.length_replicate]
theorem ymm {rs rs':List (List Int)}{ds ds':List Int}(h:ydy rs ds)(h':ydy rs' ds')(e:∀d,(∃r∈rs,r.getD 0 0=d)↔∃r∈rs',r.getD 0 0=d):ds=ds':=by
 refine List.Perm.eq_of_pairwise (le:=(· < ·)) (fun a b _ _ x y=>by omega) h.1 h'.1 ?_
 refine(List.perm_ext_iff_of_nodup (yf7 h.1) (yf7 h'.1)).mpr fun d=>?_
 rw[h.2.1 d,h'.2.1 d]
 exact e d
theorem ypg {os:List (List Int)}(h:∀r∈os,0≤r.getD 1 0)(tm f l:Int):0≤ya1 os tm f l:=by
 unfold ya1
 have:∀qs:List (List Int),(∀r∈qs,0≤r.getD 1 0)→0≤(qs.map fun r=>r.getD 1 0).sum:=by
  intro qs
  induction qs with
  |nil=>intro _;exact Int.le_refl _
  |cons r qs ih=>
   intro hh
   rw[List.map_cons,List.sum_cons]
   have:=hh r (.head _)
   have:=ih fun r hr=>hh r (.tail _ hr)
   omega
 exact this _ fun r hr=>h r (List.mem_filter.mp hr).1
theorem yj1 {rs:List (List Int)}(h:∀r∈rs,0≤r.getD 1 0)(i:Int):0≤yag rs 1 i:=by
 unfold yag
 rw[List.getD_eq_getElem?_getD (l:=rs)]
 cases e:rs[i.toNat]? with
 |none=>exact Int.le_refl _
 |some r=>exact h r (List.mem_of_getElem? e)
theorem BestIs.taken {rs os:List (List Int)}{tm:Int}{cs:List Int}(h:BestIs rs os tm cs)(hr:∀r∈rs,0≤r.getD 1 0)(ho:∀r∈os,0≤r.getD 1 0):TakenOk rs cs:=by
 refine⟨h.len,fun j r u hj er eu=>?_⟩
 obtain ⟨ds,ord,_,hord,rfl⟩:=h
 have w:=(yin (rs:=rs) (ks:=ybi ds) ord (ya1 os tm) (List.replicate rs.length 0) (fun i hi=>⟨(uptoN_mem.mp (hord.1.mem_iff.mp hi)).1,yj1 hr i⟩) (fun p _=>ypg ho _ _ _) (fun j u e=>by
  have:=List.mem_of_getElem? e
  rw[(List.mem_replicate.mp this).2]
  exact⟨Int.le_refl _,yj1 hr _⟩)).2 j u eu
 rw[show yag rs 1 (j:Int)=r.getD 1 0 by unfold yag;rw[yfe er]] at w
 exact w
def yk2:Sp:=fun vs H Q _=>∃(a b:Addr) (tm:Int) (rs os:List (List Int)),vs=[.ref a,.ref b,.int tm]∧Rows H a rs∧(∀r∈rs,r.length=3)∧rs.length≤31∧Rows H b os∧(∀r∈os,r.length=2)∧os.length≤100∧∀l cs H',H l=none→BestIs rs os tm cs→Same H H'→ya0 H' l cs→Q (.ref l) H'
def ys4 (cl:Nat→Addr):Sp:=fun vs H Q E=>∃(a b:Addr) (tm:Int) (rs os:List (List Int)),vs=[.ref a,.ref b,.int tm]∧Rows H a rs∧(∀r∈rs,r.length=3)∧Rows H b os∧(∀r∈os,r.length=2)∧
 (∀n,yc8 rs os tm=some n→∀H',Same H H'→E (.ref (cl n)) none H')∧(yc8 rs os tm=none→∀l cs H',H l=none→BestIs rs os tm cs→Same H H'→ya0 H' l cs→Q (.ref l) H')
theorem yoc {rs os:List (List Int)}{tm:Int}(h:yc8 rs os tm=none):rs.length≤30∧os.length≤30∧ybg rs=none∧ybg os=none:=by
 have one:∀{qs:List (List Int)},yc7 qs=none→qs.length≤30∧ybg qs=none:=by
  intro qs e
  unfold yc7 at e
  split at e
  ·cases e
  ·rename_i z
   exact⟨by omega,Option.map_eq_none_iff.mp e⟩
 unfold yc8 at h
 cases e1:yc7 rs with
 |some n=>rw[e1] at h;cases h
 |none=>
  rw[e1] at h
  cases e2:yc7 os with
  |some n=>rw[e2] at h;cases h
  |none=>exact⟨(one e1).1,(one e2).1,(one e1).2,(one e2).2⟩
end L2
namespace K13
open PySem L2
abbrev yel:Stmt:=top 29
abbrev yk3:List Str:=["rows","ages"]
abbrev ygl:List Str:=["rows"]
theorem sc_eldest:FnScope yk3 ygl (yaa yel):=⟨rfl,rfl,rfl,by decide +kernel,rfl,by decide +kernel,by decide +kernel⟩
abbrev ydr:Stmt:=top 30
abbrev yio:List Str:=["lots","ranks"]
abbrev yfh:List Str:=["lots"]
theorem sc_dearest:FnScope yio yfh (yaa ydr):=⟨rfl,rfl,rfl,by decide +kernel,rfl,by decide +kernel,by decide +kernel⟩
abbrev ybx:Stmt:=top 28
abbrev yip:List Str:=["lots","taken","lot","units"]
abbrev ycc:List Str:=["lots","taken"]
theorem sc_checked_taken:FnScope yip ycc (yaa ybx):=⟨rfl,rfl,rfl,by decide +kernel,rfl,by decide +kernel,by decide +kernel⟩
abbrev yeq:Stmt:=top 52
abbrev ys5:List Str:=["lots","outs","term","counts","slacks","at"]
abbrev yfi:List Str:=["lots","outs","term"]
theorem sc_best_of:FnScope ys5 yfi (yaa yeq):=⟨rfl,rfl,rfl,by decide +kernel,rfl,by decide +kernel,by decide +kernel⟩
abbrev yj2:Stmt:=top 53
abbrev yzv:List Str:=["lots","outs","term","goods","gone"]
abbrev ymn:List Str:=["lots","outs","term"]
theorem sc_best:FnScope yzv ymn (yaa yj2):=⟨rfl,rfl,rfl,by decide +kernel,rfl,by decide +kernel,by decide +kernel⟩
section
variable {P:Program}{w:World}{K:PySem.W.Frag}{mg:Str→Option Value}{base:Heap}{f:Addr}{fd:FuncData}{cl:Nat→Addr}(T:Txt K mg cl)(B:Bn mg)
include T B
theorem ys6 (F:Fun K "eldest" "eldest" yel f fd):FnOk P w K mg base CX0 1 f fd ygl (yp5 keyE okE):=by
 refine F.ok sc_eldest (fun vs H Q E h=>?_) (fun cdv A outer s H vs Q E hr h=>?_)
 ·obtain ⟨a,rs,rfl,_⟩:=h;rfl
 obtain ⟨a,rs,rfl,hR,h60,hok,q⟩:=h
 refine⟨_,(yad (ycw (i:=1) sc_eldest.nd rfl (Or.inl rfl) (N':=["at","row"]) (ix:=[none,none]) (g:=(ylk K 2 (ybw (ybc 0) (ybw (ybc 1) ylj)))) (ti:=yho) (te:=(yrn (ybp (tOp (yxb K) (yck 1) (tC (.int 0))) (ybp (yck 0) yhw)))) rfl (yav (N:=yk3) (D:=yaa yel) (by decide +kernel)) (yr8 rfl B.enumerate (yal (pv 0) yac)) (fun C s H fp=>(ya4 rfl (yaf (yah (i:=0) (show (["at","row"]:List Str).Nodup by decide +kernel) rfl (Or.inl rfl)) (yaf (yah (i:=1) (show (["at","row"]:List Str).Nodup by decide +kernel) rfl (Or.inl rfl)) yay)))) (fun C s H fp=>ybo) (fun C s H fp=>(yb0 (yal (ya8 yca (pv 1) yaj (fun _ _=>rfl)) (yal (pv 0) yac)))))
  (yai (yaw (yem (N':=["day","at"]) (ix:=[none,none]) (g:=(ylk K 2 (ybw (ybc 0) (ybw (ybc 1) ylj)))) (ti:=yho) (te:=(yck 1)) rfl (yav (N:=yk3) (D:=yaa yel) (by decide +kernel)) (ybd (yao ygv rfl B.sorted PyProof.Rows.boot_sorted (yal (pv 1) yac))) (fun C s H fp=>(ya4 rfl (yaf (yah (i:=0) (show (["day","at"]:List Str).Nodup by decide +kernel) rfl (Or.inl rfl)) (yaf (yah (i:=1) (show (["day","at"]:List Str).Nodup by decide +kernel) rfl (Or.inl rfl)) yay)))) (fun C s H fp=>ybo) (fun C s H fp=>(pv 1)))))),?_⟩
 obtain ⟨xs,ex,exl,exi⟩:=hR.get
 refine⟨_,rfl,a,xs,rfl,SqL.of ex,fun D1 hD1=>⟨fun i m H3=>i+m=xs.length∧Same H H3∧Rows H3 D1 ((yce i).map (keyE rs)),⟨xs.length,by omega,yae hD1 _,Rows.nil yab⟩,?_⟩⟩
 rintro i m H3 ⟨him,sm,R3⟩
 by_cases hi:i<xs.length
 ·refine .inr ⟨⟨xs,xs[i],SqL.of (sm _ _ ex),List.getElem?_eq_getElem hi⟩,?_⟩
  rintro x H' ⟨p,x',rfl,hp,rfl,hx⟩
  have e1:=hx xs (SqL.of (sm _ _ ex))
  obtain ⟨pr,r,rfl,er,hpr⟩:=exi i x' e1
  obtain ⟨d,r',rfl⟩ : ∃d r',r=d::r':=by
   match r,hok r (List.mem_of_getElem? er) with
   |d::r',_=>exact⟨d,r',rfl⟩
  refine⟨p,_,rfl,SqT.of yab,rfl,_,_,rfl,_,_,rfl,rfl,?_,?_⟩
  ·intro k v e
   match k,e with
   |0,e=>cases e
   |1,e=>cases e
   |k+2,e=>cases e
  ·have hpr':L2.upd H3 p (.tup [.int (i:Int),.ref pr]) pr=some (.tup ((d::r').map V.int)):=yae hp _ _ _ (sm _ _ hpr)
   refine⟨_,rfl,pr,_,_,.int d,rfl,rfl,SqT.of hpr',ydl (by decide) rfl,_,rfl,by show 2≤sizeLine;decide,fun t ht=>?_⟩
   obtain ⟨ys,ey,eyl,_⟩:=(R3.same (yae hp (.tup [.int (i:Int),.ref pr]))).get
   refine⟨ys,yae ht _ _ _ ey,yas (by rw[eyl,List.length_map,ya5];omega),m-1,by omega,by omega,((sm.trans (yae hp _)).trans (yae ht _)).young hD1,?_⟩
   have e2:keyE rs ((i:Nat):Int)=[d,(i:Int)]:=by
    unfold keyE yag
    rw[yfe er];rfl
   rw[ygw,List.map_append,List.map_singleton,e2]
   exact(R3.same (yae hp _)).push (r:=[d,(i:Int)]) ey ht
 ·refine .inl ⟨⟨xs,SqL.of (sm _ _ ex),by omega⟩,?_⟩
  have ei:i=rs.length:=by omega
  subst ei
  refine⟨_,rfl,D1,_,2,rfl,R3,by rw[List.length_map,ya5];omega,fun r hr=>?_,by decide,fun l ss H4 hl4 hp4 ho4 s4 R4=>?_⟩
  ·obtain ⟨j,_,rfl⟩:=List.mem_map.mp hr
   rfl
  have lss:ss.length=rs.length:=by rw[hp4.length_eq,List.length_map,ya5]
  have wss:∀r∈ss,∃x y:Int,r=[x,y]:=fun r hr=>by
   obtain ⟨j,_,rfl⟩:=List.mem_map.mp (hp4.mem_iff.mp hr)
   exact⟨_,_,rfl⟩
  obtain ⟨zs,ez,ezl,ezi⟩:=R4.get
  refine⟨l,rfl,⟨zs,SqL.of ez⟩,fun D2 hD2=>⟨fun i m H5=>i+m=zs.length∧Same H4 H5∧H5 D2=some (.lst ((ss.take i).map fun r=>V.int (r.getD 1 0))),⟨zs.length,by omega,yae hD2 _,yab⟩,?_⟩⟩
  rintro i m H5 ⟨him5,s5,h5⟩
  by_cases hi5:i<zs.length
  ·refine .inr ⟨⟨zs,zs[i],SqL.of (s5 _ _ ez),List.getElem?_eq_getElem hi5⟩,?_⟩
   rintro x H' ⟨rfl,hx⟩
   have e1:=hx zs (SqL.of (s5 _ _ ez))
   obtain ⟨pr,r,rfl,er,hpr⟩:=ezi i x e1
   obtain ⟨x1,x2,rfl⟩:=wss r (List.mem_of_getElem? er)
   refine⟨pr,_,rfl,SqT.of (s5 _ _ hpr),rfl,_,_,rfl,_,_,rfl,rfl,?_,?_⟩
   ·intro k v e
    match k,e with
    |0,e=>cases e
    |1,e=>cases e
    |k+2,e=>cases e
   ·refine⟨_,rfl,_,h5,yas (by rw[List.length_map,List.length_take];omega),m-1,by omega,by omega,s5.young hD2,?_⟩
    rw[yab,← yeo er,List.map_append]
    rfl
  ·refine .inl ⟨⟨zs,SqL.of (s5 _ _ ez),by omega⟩,?_⟩
   have ei5:ss.take i=ss:=List.take_of_length_le (by omega)
   rw[ei5] at h5
   refine q D2 (ss.map fun r=>r.getD 1 0) H5 ?_ ((sm.trans s4).trans s5) (yjx (lst:=fun r=>r.getD 1 0) (fun _=>rfl) hp4 ho4) (by rw[List.map_map];exact h5)
   exact(sm.trans s4).free hD2
theorem yqj (F:Fun K "dearest" "dearest" ydr f fd):FnOk P w K mg base CX0 1 f fd yfh (yp5 yxo okD):=by
 refine F.ok sc_dearest (fun vs H Q E h=>?_) (fun cdv A outer s H vs Q E hr h=>?_)
 ·obtain ⟨a,rs,rfl,_⟩:=h;rfl
 obtain ⟨a,rs,rfl,hR,h60,hok,q⟩:=h
 refine⟨_,(yad (ycw (i:=1) sc_dearest.nd rfl (Or.inl rfl) (N':=["at","day","count","duty"]) (ix:=[none,none,none,none]) (g:=(ylk K 2 (ybw (ybc 0) (ybw (ylk K 3 (ybw (ybc 1) (ybw (ybc 2) (ybw (ybc 3) ylj)))) ylj)))) (ti:=yho) (te:=(yrn (ybp (tUn (rU fun i=>.int (-i)) (yck 3)) (ybp (yck 1) (ybp (yck 0) yhw))))) rfl (yav (N:=yio) (D:=yaa ydr) (by decide +kernel)) (yr8 rfl B.enumerate (yal (pv 0) yac)) (fun C s H fp=>(ya4 rfl (yaf (yah (i:=0) (show (["at","day","count","duty"]:List Str).Nodup by decide +kernel) rfl (Or.inl rfl)) (yaf (ya4 rfl (yaf (yah (i:=1) (show (["at","day","count","duty"]:List Str).Nodup by decide +kernel) rfl (Or.inl rfl)) (yaf (yah (i:=2) (show (["at","day","count","duty"]:List Str).Nodup by decide +kernel) rfl (Or.inl rfl)) (yaf (yah (i:=3) (show (["at","day","count","duty"]:List Str).Nodup by decide +kernel) rfl (Or.inl rfl)) yay)))) yay)))) (fun C s H fp=>ybo) (fun C s H fp=>(yb0 (yal (zam yyz (pv 3)) (yal (pv 1) (yal (pv 0) yac))))))
  (yai (yaw (yem (N':=["duty","day","at"]) (ix:=[none,none,none]) (g:=(ylk K 3 (ybw (ybc 0) (ybw (ybc 1) (ybw (ybc 2) ylj))))) (ti:=yho) (te:=(yck 2)) rfl (yav (N:=yio) (D:=yaa ydr) (by decide +kernel)) (ybd (yao ygv rfl B.sorted PyProof.Rows.boot_sorted (yal (pv 1) yac))) (fun C s H fp=>(ya4 rfl (yaf (yah (i:=0) (show (["duty","day","at"]:List Str).Nodup by decide +kernel) rfl (Or.inl rfl)) (yaf (yah (i:=1) (show (["duty","day","at"]:List Str).Nodup by decide +kernel) rfl (Or.inl rfl)) (yaf (yah (i:=2) (show (["duty","day","at"]:List Str).Nodup by decide +kernel) rfl (Or.inl rfl)) yay))))) (fun C s H fp=>ybo) (fun C s H fp=>(pv 2)))))),?_⟩
 obtain ⟨xs,ex,exl,exi⟩:=hR.get
 refine⟨_,rfl,a,xs,rfl,SqL.of ex,fun D1 hD1=>⟨fun i m H3=>i+m=xs.length∧Same H H3∧Rows H3 D1 ((yce i).map (yxo rs)),⟨xs.length,by omega,yae hD1 _,Rows.nil yab⟩,?_⟩⟩
 rintro i m H3 ⟨him,sm,R3⟩
 by_cases hi:i<xs.length
 ·refine .inr ⟨⟨xs,xs[i],SqL.of (sm _ _ ex),List.getElem?_eq_getElem hi⟩,?_⟩
  rintro x H' ⟨p,x',rfl,hp,rfl,hx⟩
  have e1:=hx xs (SqL.of (sm _ _ ex))
  obtain ⟨pr,r,rfl,er,hpr⟩:=exi i x' e1
  obtain ⟨d,c,u,rfl⟩:=ynx (hok r (List.mem_of_getElem? er))
  have hpr':L2.upd H3 p (.tup [.int (i:Int),.ref pr]) pr=some (.tup ([d,c,u].map V.int)):=yae hp _ _ _ (sm _ _ hpr)
  refine⟨p,_,rfl,SqT.of yab,rfl,_,_,rfl,_,_,rfl,⟨pr,_,rfl,SqT.of hpr',rfl,_,_,rfl,_,_,rfl,_,_,rfl,rfl,rfl,?_,?_⟩⟩
  ·intro k v e
   match k,e with
   |0,e=>cases e
   |1,e=>cases e
   |2,e=>cases e
   |3,e=>cases e
   |k+4,e=>cases e
  ·refine⟨_,rfl,_,rfl,_,rfl,_,rfl,by show 3≤sizeLine;decide,fun t ht=>?_⟩
   obtain ⟨ys,ey,eyl,_⟩:=(R3.same (yae hp (.tup [.int (i:Int),.ref pr]))).get
   refine⟨ys,yae ht _ _ _ ey,yas (by rw[eyl,List.length_map,ya5];omega),m-1,by omega,by omega,((sm.trans (yae hp _)).trans (yae ht _)).young hD1,?_⟩
   have e2:yxo rs ((i:Nat):Int)=[-u,d,(i:Int)]:=by
    unfold yxo yag
    rw[yfe er];rfl
   rw[ygw,List.map_append,List.map_singleton,e2]
   exact(R3.same (yae hp _)).push (r:=[-u,d,(i:Int)]) ey ht
 ·refine .inl ⟨⟨xs,SqL.of (sm _ _ ex),by omega⟩,?_⟩
  have ei:i=rs.length:=by omega
  subst ei
  refine⟨_,rfl,D1,_,3,rfl,R3,by rw[List.length_map,ya5];omega,fun r hr=>?_,by decide,fun l ss H4 hl4 hp4 ho4 s4 R4=>?_⟩
  ·obtain ⟨j,_,rfl⟩:=List.mem_map.mp hr
   rfl
  have lss:ss.length=rs.length:=by rw[hp4.length_eq,List.length_map,ya5]
  have wss:∀r∈ss,∃x y z:Int,r=[x,y,z]:=fun r hr=>by
   obtain ⟨j,_,rfl⟩:=List.mem_map.mp (hp4.mem_iff.mp hr)
   exact⟨_,_,_,rfl⟩
  obtain ⟨zs,ez,ezl,ezi⟩:=R4.get
  refine⟨l,rfl,⟨zs,SqL.of ez⟩,fun D2 hD2=>⟨fun i m H5=>i+m=zs.length∧Same H4 H5∧H5 D2=some (.lst ((ss.take i).map fun r=>V.int (r.getD 2 0))),⟨zs.length,by omega,yae hD2 _,yab⟩,?_⟩⟩
  rintro i m H5 ⟨him5,s5,h5⟩
  by_cases hi5:i<zs.length
  ·refine .inr ⟨⟨zs,zs[i],SqL.of (s5 _ _ ez),List.getElem?_eq_getElem hi5⟩,?_⟩
   rintro x H' ⟨rfl,hx⟩
   have e1:=hx zs (SqL.of (s5 _ _ ez))
   obtain ⟨pr,r,rfl,er,hpr⟩:=ezi i x e1
   obtain ⟨x1,x2,x3,rfl⟩:=wss r (List.mem_of_getElem? er)
   refine⟨pr,_,rfl,SqT.of (s5 _ _ hpr),rfl,_,_,rfl,_,_,rfl,_,_,rfl,rfl,?_,?_⟩
   ·intro k v e
    match k,e with
    |0,e=>cases e
    |1,e=>cases e
    |2,e=>cases e
    |k+3,e=>cases e
   ·refine⟨_,rfl,_,h5,yas (by rw[List.length_map,List.length_take];omega),m-1,by omega,by omega,s5.young hD2,?_⟩
    rw[yab,← yeo er,List.map_append]
    rfl
  ·refine .inl ⟨⟨zs,SqL.of (s5 _ _ ez),by omega⟩,?_⟩
   have ei5:ss.take i=ss:=List.take_of_length_le (by omega)
   rw[ei5] at h5
   refine q D2 (ss.map fun r=>r.getD 2 0) H5 ?_ ((sm.trans s4).trans s5) (yjx (lst:=fun r=>r.getD 2 0) (fun _=>rfl) hp4 ho4) (by rw[List.map_map];exact h5)
   exact(sm.trans s4).free hD2
theorem yhm (F:Fun K "checked_taken" "checked_taken" ybx f fd):FnOk P w K mg base (CXE P w) 2 f fd ycc (ygx (cl 7)):=by
 refine F.okE sc_checked_taken (fun vs H Q E h=>?_) (fun cdv A outer s H vs Q E hr h=>?_)
 ·obtain ⟨a,b,rs,ts,rfl,_⟩:=h;rfl
 obtain ⟨a,b,rs,ts,rfl,hR,h3,hb,hn,hm,q1,q2⟩:=h
 refine⟨_,(yad (ydn (ybm yrg (yao yau rfl B.len PySem.boot_len (yal (pv 1) yac)) (yao yau rfl B.len PySem.boot_len (yal (pv 0) yac)) (ybs _)) (yai (ydz (E:=E) rfl T.gBadTaken T.eBadTaken PySem.F.excBase_ValueError rfl yf9 (yal yf8 yac))) ybb)
  (yad (yei PassesOwn.leaving rfl (you rfl B.zip (yal (pv 0) (yal (pv 1) yac))) (ya4 rfl (yaf (yah (i:=2) sc_checked_taken.nd rfl (Or.inl rfl)) (yaf (yah (i:=3) sc_checked_taken.nd rfl (Or.inl rfl)) yay))) (yai (ydn (ye9 (ydj yd7 yd7 yaj (pv 3) (ya8 yca (pv 2) yaj (fun _ _=>rfl)))) (yai (ydz (E:=E) rfl T.gBadTaken T.eBadTaken PySem.F.excBase_ValueError rfl yf9 (yal yf8 yac))) ybb)))
  (yai (yaw (yen yfc rfl B.list PyProof.Rows.boot_list (yal (pv 1) yac)))))),?_⟩
 obtain ⟨xs,ex,exl,exi⟩:=hR.get
 refine⟨_,rfl,b,_,rfl,.inl (SqL.of hb),_,rfl,a,_,rfl,.inl (SqL.of ex),rfl,_,rfl,?_⟩
 rw[List.length_map]
 by_cases c:ts.length=rs.length
 ·rw[decide_eq_true (by rw[exl,c]:V.int (ts.length:Int)=V.int (xs.length:Int))]
  refine ycq ?_
  refine⟨_,rfl,_,rfl,true,true,a,b,xs,_,rfl,SqL.of ex,SqL.of hb,?_⟩
  refine yr9 (xs:=xs) (ys:=ts.map V.int) (b1:=true) (b2:=true) (fun i σ H3=>∃o2 o3,σ=[some (.ref a),some (.ref b),o2,o3]∧Same H H3∧yl4 rs ts i) ⟨_,_,rfl,Same.refl H,ynz⟩ ?_ ?_ ?_
  ·rintro i σ H3 hi ⟨o2,o3,rfl,sm,_⟩
   exact⟨SqL.of (sm _ _ ex),SqL.of (sm _ _ hb)⟩
  ·rintro i x y σ H3 p e1 e2 ⟨o2,o3,rfl,sm,hg⟩ hp
   obtain ⟨pr,r,rfl,er,hpr⟩:=exi i x e1
   obtain ⟨v,rfl,ev⟩:=ycs e2
   obtain ⟨d,cc,u,rfl⟩:=ynx (h3 r (List.mem_of_getElem? er))
   have sp:=sm.trans (yae hp (.tup [.ref pr,.int v]))
   refine⟨p,_,rfl,SqT.of yab,rfl,_,_,rfl,_,_,rfl,rfl,?_⟩
   have bad:¬ (0≤v∧v≤cc)→¬ TakenOk rs ts:=fun z ok=>z (ok.2 i _ _ (List.getElem?_eq_some_iff.mp er).1 er ev)
   refine⟨_,rfl,_,_,rfl,rfl,_,rfl,?_⟩
   by_cases c1:0≤v
   ·rw[decide_eq_true c1]
    refine yeh ⟨_,rfl,pr,_,_,.int cc,rfl,rfl,SqT.of (sp _ _ hpr),rfl,_,_,rfl,rfl,_,rfl,?_⟩
    by_cases c2:v≤cc
    ·rw[decide_eq_true c2]
     exact ycq ⟨_,_,rfl,sp,(yn0 er ev).mpr ⟨hg,c1,c2⟩⟩
    ·rw[decide_eq_false c2]
     exact yeh ⟨by show 1≤sizeLine;decide,q1 (bad fun z=>c2 z.2) _ sp⟩
   ·rw[decide_eq_false c1]
    exact ycq ⟨_,rfl,yeh ⟨by show 1≤sizeLine;decide,q1 (bad fun z=>c1 z.1) _ sp⟩⟩
  ·rintro σ H3 ⟨o2,o3,rfl,sm,hg⟩
   rw[List.length_map,show min xs.length ts.length=rs.length by omega] at hg
   exact⟨_,rfl,b,_,rfl,.inl (SqL.of (sm _ _ hb)),fun l hl=>q2 ⟨c,hg⟩ l _ (sm.free hl) (sm.trans (yae hl _)) yab⟩
 ·rw[decide_eq_false (by intro z;have:=V.int.inj z;omega:¬ V.int (ts.length:Int)=V.int (xs.length:Int))]
  exact yeh ⟨by show 1≤sizeLine;decide,q1 (fun z=>c z.1) H (Same.refl H)⟩
theorem yqk (G_against_each:Cal P w K mg base CX0 3 "against_each" yb8 yd0) (G_dearest:Cal P w K mg base CX0 1 "dearest" yfh (yp5 yxo okD)) (G_free_at:Cal P w K mg base CX0 1 "free_at" yfg ykx) (G_lessened:Cal P w K mg base CX0 1 "lessened" yd4 yfw) (F:Fun K "best_of" "best_of" yeq f fd):FnOk P w K mg base CX0 4 f fd yfi yk2:=by
 refine F.ok sc_best_of (fun vs H Q E h=>?_) (fun cdv A outer s H vs Q E hr h=>?_)
 ·obtain ⟨a,b,tm,rs,os,rfl,_⟩:=h;rfl
 obtain ⟨a,b,tm,rs,os,rfl,hR,h3,rn,hO,h2,on,q⟩:=h
 refine⟨_,(yad (ya2 (i:=3) sc_best_of.nd rfl (Or.inl rfl) (yb1 yrv (yf1 (yal yaj yac)) (yao yau rfl B.len PySem.boot_len (yal (pv 0) yac))))
  (yad (ya2 (i:=4) sc_best_of.nd rfl (Or.inl rfl) (yan G_against_each hr rfl ya9 (yal (pv 0) (yal (pv 1) (yal (pv 2) yac)))))
  (yad (yei PassesOwn.never rfl (ybd (yan G_dearest hr rfl ya9 (yal (pv 0) yac))) (yah (i:=5) sc_best_of.nd rfl (Or.inl rfl)) (yad (yc4 (yan G_free_at hr rfl ya9 (yal (pv 4) (yal (ya8 ya3 (pv 0) (pv 5) (fun _ _=>rfl)) (yal yaj yac)))) (yfz (pv 3) (pv 5) ycp))
   (yai (ya2 (i:=4) sc_best_of.nd rfl (Or.inl rfl) (yan G_lessened hr rfl ya9 (yal (pv 4) (yal (ya8 yca (ya8 ya3 (pv 0) (pv 5) (fun _ _=>rfl)) yaj (fun _ _=>rfl)) (yal (ya8 ya3 (pv 3) (pv 5) (fun _ _=>rfl)) yac))))))))
  (yai (yaw (pv 3)))))),?_⟩
 obtain ⟨xs,ex,ht⟩:=hR.tups
 have lx:=ht.1
 refine⟨by show 1≤sizeLine;decide,fun z hz=>?_⟩
 have sz:=yae (H:=H) hz (.lst [.int 0])
 refine⟨_,rfl,a,xs,rfl,.inl (SqL.of (sz _ _ ex)),z,(xs.length:Int),_,rfl,rfl,yab,by omega,by omega,?_,fun l hl=>?_⟩
 ·show 1*(xs.length:Int).toNat≤sizeLine
  exact Nat.le_of_lt (yas (by omega))
 have s1:=sz.trans (yae hl (.lst (List.replicate (xs.length:Int).toNat [V.int 0]).flatten))
 have hl0:H l=none:=sz.free hl
 have e1:ya0 (L2.upd (L2.upd H z (.lst [.int 0])) l (.lst (List.replicate (xs.length:Int).toNat [V.int 0]).flatten)) l (List.replicate rs.length 0):=by
  unfold ya0
  rw[yab,List.map_replicate,Int.toNat_natCast,lx]
  congr 2
  induction rs.length with
  |zero=>rfl
  |succ k ih=>rw[List.replicate_succ,List.flatten_cons,ih];rfl
 generalize L2.upd (L2.upd H z (.lst [.int 0])) l (.lst (List.replicate (xs.length:Int).toNat [V.int 0]).flatten)=H1 at s1 e1 ⊢
 refine⟨_,rfl,_,rfl,_,rfl,a,b,tm,rs,os,rfl,hR.same s1,h3,rn,hO.same s1,h2,on,fun d ds H2 hd hds s2 S2=>?_⟩
 have ld:ds.length≤31:=Nat.le_trans hds.2.2 rn
 have sn:=yky ld
 have nd:=yij hds.1
 refine⟨_,rfl,a,rs,rfl,hR.same (s1.trans s2),by omega,h3,fun dl ord H3 hdl s3 hord e3=>?_⟩
 refine⟨dl,rfl,⟨_,SqL.of e3⟩,?_⟩
 have s13:=s2.trans s3
 have hdl1:H1 dl=none:=s2.free hdl
 have nl:l≠dl:=yam e1 hdl1
 refine yej (xs:=ord.map V.int) (fun i σ H4=>∃d4 o5,σ=[some (.ref a),some (.ref b),some (.int tm),some (.ref l),some (.ref d4),o5]∧Same H H4∧H4 dl=some (.lst (ord.map V.int))∧SlAt H4 d4 (ybi ds) (ybn (ybi ds) rs (ord.take i) (ya1 os tm) (List.replicate rs.length 0)).1∧ya0 H4 l (ybn (ybi ds) rs (ord.take i) (ya1 os tm) (List.replicate rs.length 0)).2) ⟨_,_,rfl,s1.trans s13,e3,S2.same s3,s13 _ _ e1⟩ ?_ ?_ ?_
 ·rintro i σ H4 hi ⟨d4,o5,rfl,sm,e4,_⟩
  exact SqL.of e4
 ·rintro i x σ H4 exi ⟨d4,o5,rfl,sm,e4,S4,I4⟩
  obtain ⟨at',rfl,eat⟩:=ycs exi
  have hat:=uptoN_mem.mp (hord.1.mem_iff.mp (List.mem_of_getElem? eat))
  obtain ⟨k,rfl⟩ : ∃k:Nat,at'=(k:Int):=⟨at'.toNat,by omega⟩
  have hk:k<xs.length:=by omega
  obtain ⟨p,r,ep,er,hp⟩:=ht.at (List.getElem?_eq_getElem hk)
  obtain ⟨dd,cc,uu,rfl⟩:=ynx (h3 r (List.mem_of_getElem? er))
  have c0:yag rs 0 (k:Int)=dd:=by unfold yag;rw[yfe er];rfl
  have c1:yag rs 1 (k:Int)=cc:=by unfold yag;rw[yfe er];rfl
  have eix:atI xs (k:Int)=some (.ref p):=yfb (by rw[List.getElem?_eq_getElem hk,ep])
  have next:ybn (ybi ds) rs (ord.take (i+1)) (ya1 os tm) (List.replicate rs.length 0)=(yd1 (ybn (ybi ds) rs (ord.take i) (ya1 os tm) (List.replicate rs.length 0)).1 dd (yep (ybi ds) rs (ybn (ybi ds) rs (ord.take i) (ya1 os tm) (List.replicate rs.length 0)).1 (k:Int)),(ybn (ybi ds) rs (ord.take i) (ya1 os tm) (List.replicate rs.length 0)).2.set k (yep (ybi ds) rs (ybn (ybi ds) rs (ord.take i) (ya1 os tm) (List.replicate rs.length 0)).1 (k:Int))):=by
   rw[ya7 eat,ygk]
   show (yd1 _ (yag rs 0 (k:Int)) _,_)=_
   rw[c0]
   rfl
  rw[next]
  have lc:(ybn (ybi ds) rs (ord.take i) (ya1 os tm) (List.replicate rs.length 0)).2.length=rs.length:=by rw[yg2,List.length_replicate]
  generalize (ybn (ybi ds) rs (ord.take i) (ya1 os tm) (List.replicate rs.length 0)).1=v at *
  generalize (ybn (ybi ds) rs (ord.take i) (ya1 os tm) (List.replicate rs.length 0)).2=cs at *
  clear next
  refine⟨_,rfl,_,rfl,_,rfl,a,xs,_,.ref p,rfl,rfl,SqL.of (sm _ _ ex),eix,d4,p,0,dd,cc,uu,ybi ds,v,rfl,S4,sn,sm _ _ hp,fun M H5 s5 hM=>?_⟩
  have eM:M=yep (ybi ds) rs v (k:Int):=by
   rw[Int.sub_zero] at hM
   refine hM.uniq ?_
   unfold yep
   rw[c0,c1]
   exact yk1 _ _ _ _
  rw[← eM]
  have I5:ya0 H5 l cs:=s5 _ _ I4
  have S5:=S4.same s5
  have ndl:d4≠l:=by
   obtain ⟨o,ho⟩:=S5
   exact yi5 ho I5 (by intro z;cases z)
  refine⟨_,rfl,_,rfl,l,_,(k:Int),k,rfl,rfl,I5,by unfold ixN;rw[List.length_map,if_pos (by omega),Int.toNat_natCast,if_pos (by omega)],?_⟩
  have s6:Same H (L2.upd H5 l (.lst ((cs.map V.int).set k (.int M)))):=(sm.trans s5).young hl0
  have S6:SlAt (L2.upd H5 l (.lst ((cs.map V.int).set k (.int M)))) d4 (ybi ds) v:=by
   obtain ⟨o,ho⟩:=S5
   exact⟨o,by rw[yak ndl];exact ho⟩
  have I6:ya0 (L2.upd H5 l (.lst ((cs.map V.int).set k (.int M)))) l (cs.set k M):=by
   unfold ya0
   rw[yab,List.map_set]
  have e6:L2.upd H5 l (.lst ((cs.map V.int).set k (.int M))) dl=some (.lst (ord.map V.int)):=by
   rw[yak nl.symm]
   exact s5 _ _ e4
  generalize L2.upd H5 l (.lst ((cs.map V.int).set k (.int M)))=H6 at *
  have eiM:atI ((cs.set k M).map V.int) (k:Int)=some (.int M):=yfb (by rw[List.getElem?_map,List.getElem?_set_self (by omega)];rfl)
  refine⟨_,rfl,_,rfl,_,rfl,a,xs,_,.ref p,rfl,rfl,SqL.of (s6 _ _ ex),eix,p,_,_,.int dd,rfl,rfl,SqT.of (s6 _ _ hp),rfl,_,rfl,_,rfl,l,_,_,.int M,rfl,rfl,SqL.of I6,eiM,d4,dd,M,ybi ds,v,rfl,S6,nd,by omega,fun d5 H7 hd5 s7 S7=>?_⟩
  exact⟨d5,_,rfl,s6.trans s7,s7 _ _ e6,S7,s7 _ _ I6⟩
 ·rintro σ H4 ⟨d4,o5,rfl,sm,e4,S4,I4⟩
  rw[List.length_map,List.take_length] at I4
  exact⟨_,rfl,q l _ H4 hl0 ⟨ds,ord,hds,hord,rfl⟩ sm I4⟩
theorem yx2 (G_checked_both:Cal P w K mg base (CXE P w) 4 "checked_both" ybt (ymb cl)) (G_best_of:Cal P w K mg base CX0 4 "best_of" yfi yk2) (F:Fun K "best" "best" yj2 f fd):FnOk P w K mg base (CXE P w) 5 f fd ymn (ys4 cl):=by
 refine F.okE sc_best (fun vs H Q E h=>?_) (fun cdv A outer s H vs Q E hr h=>?_)
 ·obtain ⟨a,b,tm,rs,os,rfl,_⟩:=h;rfl
 obtain ⟨a,b,tm,rs,os,rfl,hR,h3,hO,h2,q1,q2⟩:=h
 refine⟨_,(yad (yc4 (yan (E:=E) G_checked_both hr rfl (yez fun _ _ z=>z) (yal (pv 0) (yal (pv 1) (yal (pv 2) yac)))) (ya4 rfl (yaf (yah (i:=3) sc_best.nd rfl (Or.inl rfl)) (yaf (yah (i:=4) sc_best.nd rfl (Or.inl rfl)) yay))))
  (yai (yaw (yan G_best_of hr rfl ya9 (yal (pv 3) (yal (pv 4) (yal (pv 2) yac))))))),?_⟩
 refine⟨_,rfl,_,rfl,_,rfl,a,b,tm,rs,os,rfl,hR,h3,hO,h2,q1,fun bn t g o H1 ht hg ho s1 R1 O1 e1=>?_⟩
 obtain ⟨rn,on,_,_⟩:=yoc bn
 refine⟨t,_,rfl,SqT.of e1,rfl,_,_,rfl,_,_,rfl,rfl,?_⟩
 refine⟨_,rfl,_,rfl,_,rfl,g,o,tm,rs,os,rfl,R1,h3,by omega,O1,h2,by omega,fun l cs H2 hl hb s2 e2=>?_⟩
 exact q2 bn l cs H2 (s1.free hl) hb (s1.trans s2) e2
end
end K13
namespace L2
open PySem PySem.Spec PySem.W PyProof.Rows
def yfj (rs:List (List Int))(ts:List Int)(v:Int→Int→Int):Nat→Int→Int→Int
 |0=>v
 |n+1=>yd1 (yfj rs ts v n) (yag rs 0 (n:Int)) (ts.getD n 0)
def yk4 (rs:List (List Int))(ts:List Int)(f l:Int):Nat→Int
 |0=>0
 |n+1=>yk4 rs ts f l n+if f≤yag rs 0 (n:Int)∧yag rs 0 (n:Int)≤l then ts.getD n 0 else 0
theorem yiq (rs:List (List Int))(ts:List Int)(v:Int→Int→Int)(f l:Int):∀n,yfj rs ts v n f l=v f l-yk4 rs ts f l n
 |0=>by show v f l=v f l-0;omega
 |n+1=>by
  have ih:=yiq rs ts v f l n
  show yd1 (yfj rs ts v n) (yag rs 0 (n:Int)) (ts.getD n 0) f l=v f l-(yk4 rs ts f l n+if f≤yag rs 0 (n:Int)∧yag rs 0 (n:Int)≤l then ts.getD n 0 else 0)
  unfold yd1
  split <;> omega
def yfk (rs os:List (List Int))(tm:Int)(ts:List Int):Int→Int→Int:=yfj rs ts (ya1 os tm) rs.length
def yvj (ks:List (Int×Int))(v:Int→Int→Int):Prop:=¬ ∀p∈ks,0≤v p.1 p.2
def yg3:Sp:=fun vs H Q _=>∃(a b t:Addr) (tm:Int) (rs os:List (List Int)) (ts:List Int),vs=[.ref a,.ref b,.int tm,.ref t]∧Rows H a rs∧(∀r∈rs,r.length=3)∧rs.length≤31∧Rows H b os∧(∀r∈os,r.length=2)∧os.length≤100∧ya0 H t ts∧ts.length=rs.length∧∀d ds H',H d=none→ydy rs ds→Same H H'→SlAt H' d (ybi ds) (yfk rs os tm ts)→Q (.ref d) H'
def yir (c:Addr):Sp:=fun vs H Q E=>∃(d:Addr) (ks:List (Int×Int)) (v:Int→Int→Int),vs=[.ref d]∧SlAt H d ks v∧ks.length≤1000∧(¬ yvj ks v→∀H',Same H H'→Q .non H')∧(yvj ks v→∀H',Same H H'→E (.ref c) none H')
end L2
namespace K13
open PySem L2
abbrev ydg:Stmt:=top 37
abbrev yod:List Str:=["lots","outs","term","taken","slacks","lot","units"]
abbrev yeg:List Str:=["lots","outs","term","taken"]
theorem sc_slacks_of:FnScope yod yeg (yaa ydg):=⟨rfl,rfl,rfl,by decide +kernel,rfl,by decide +kernel,by decide +kernel⟩
abbrev ybr:Stmt:=top 40
abbrev yhn:List Str:=["slacks"]
abbrev yb3:List Str:=["slacks"]
theorem yg4:FnScope yhn yb3 (yaa ybr):=⟨rfl,rfl,rfl,by decide +kernel,rfl,by decide +kernel,by decide +kernel⟩
section
variable {P:Program}{w:World}{K:PySem.W.Frag}{mg:Str→Option Value}{base:Heap}{f:Addr}{fd:FuncData}{cl:Nat→Addr}(T:Txt K mg cl)(B:Bn mg)
include T B
theorem ymo (G_against_each:Cal P w K mg base CX0 3 "against_each" yb8 yd0) (G_lessened:Cal P w K mg base CX0 1 "lessened" yd4 yfw) (F:Fun K "slacks_of" "slacks_of" ydg f fd):FnOk P w K mg base CX0 4 f fd yeg yg3:=by
 refine F.ok sc_slacks_of (fun vs H Q E h=>?_) (fun cdv A outer s H vs Q E hr h=>?_)
 ·obtain ⟨a,b,t,tm,rs,os,ts,rfl,_⟩:=h;rfl
 obtain ⟨a,b,t,tm,rs,os,ts,rfl,hR,h3,rn,hO,h2,on,hT,hl,q⟩:=h
 refine⟨_,(yad (ya2 (i:=4) sc_slacks_of.nd rfl (Or.inl rfl) (yan G_against_each hr rfl ya9 (yal (pv 0) (yal (pv 1) (yal (pv 2) yac)))))
  (yad (yei PassesOwn.never rfl (you rfl B.zip (yal (pv 0) (yal (pv 3) yac))) (ya4 rfl (yaf (yah (i:=5) sc_slacks_of.nd rfl (Or.inl rfl)) (yaf (yah (i:=6) sc_slacks_of.nd rfl (Or.inl rfl)) yay))) (yai (ya2 (i:=4) sc_slacks_of.nd rfl (Or.inl rfl) (yan G_lessened hr rfl ya9 (yal (pv 4) (yal (ya8 yca (pv 5) yaj (fun _ _=>rfl)) (yal (pv 6) yac)))))))
  (yai (yaw (pv 4))))),?_⟩
 refine⟨_,rfl,_,rfl,_,rfl,a,b,tm,rs,os,rfl,hR,h3,rn,hO,h2,on,fun d ds H1 hd hds s1 S1=>?_⟩
 have ld:ds.length≤31:=Nat.le_trans hds.2.2 rn
 have sn:=yky ld
 have nd:=yij hds.1
 obtain ⟨xs,ex,exl,exi⟩:=(hR.same s1).get
 have hb:=s1 _ _ hT
 refine⟨_,rfl,_,rfl,true,true,a,t,xs,_,rfl,SqL.of ex,SqL.of hb,?_⟩
 refine yr9 (xs:=xs) (ys:=ts.map V.int) (b1:=true) (b2:=true) (fun i σ H3=>∃d4 o5 o6,σ=[some (.ref a),some (.ref b),some (.int tm),some (.ref t),some (.ref d4),o5,o6]∧H d4=none∧Same H1 H3∧SlAt H3 d4 (ybi ds) (yfj rs ts (ya1 os tm) i)) ⟨d,_,_,rfl,hd,Same.refl H1,S1⟩ ?_ ?_ ?_
 ·rintro i σ H3 hi ⟨d4,o5,o6,rfl,_,sm,_⟩
  exact⟨SqL.of (sm _ _ ex),SqL.of (sm _ _ hb)⟩
 ·rintro i x y σ H3 p e1 e2 ⟨d4,o5,o6,rfl,hd4,sm,S4⟩ hp
  obtain ⟨pr,r,rfl,er,hpr⟩:=exi i x e1
  obtain ⟨v,rfl,ev⟩:=ycs e2
  obtain ⟨dd,cc,u,rfl⟩:=ynx (h3 r (List.mem_of_getElem? er))
  have sN:=yae hp (.tup [.ref pr,.int v])
  have sp:=sm.trans sN
  refine⟨p,_,rfl,SqT.of yab,rfl,_,_,rfl,_,_,rfl,rfl,?_⟩
  refine⟨_,rfl,_,rfl,pr,_,_,.int dd,rfl,rfl,SqT.of (sp _ _ hpr),rfl,_,rfl,d4,dd,v,ybi ds,_,rfl,S4.same sN,nd,by omega,fun d5 H5 hd5 s5 S5=>?_⟩
  refine⟨d5,_,_,rfl,(s1.trans sp).free hd5,sp.trans s5,?_⟩
  have c0:yag rs 0 (i:Int)=dd:=by unfold yag;rw[yfe er];rfl
  have tv:ts.getD i 0=v:=by rw[List.getD_eq_getElem?_getD,ev];rfl
  show SlAt H5 d5 (ybi ds) (yd1 (yfj rs ts (ya1 os tm) i) (yag rs 0 (i:Int)) (ts.getD i 0))
  rw[c0,tv]
  exact S5
 ·rintro σ H3 ⟨d4,o5,o6,rfl,hd4,sm,S4⟩
  rw[List.length_map,show min xs.length ts.length=rs.length by omega] at S4
  exact⟨_,rfl,q d4 ds H3 hd4 hds (s1.trans sm) S4⟩
theorem yg5 (G_none_lacks:Cal P w K mg base CX0 1 "none_lacks" ydq yf6) (F:Fun K "check_dealable" "check_dealable" ybr f fd):FnOk P w K mg base (CXE P w) 2 f fd yb3 (yir (cl 8)):=by
 refine F.okE yg4 (fun vs H Q E h=>?_) (fun cdv A outer s H vs Q E hr h=>?_)
 ·obtain ⟨d,ks,v,rfl,_⟩:=h;rfl
 obtain ⟨d,ks,v,rfl,hS,kn,q1,q2⟩:=h
 refine⟨_,(yai (ydn (ye9 (yek (yan G_none_lacks hr rfl ya9 (yal (pv 0) yac)) (fun _=>rfl))) (yai (ydz (E:=E) rfl T.gNotDealable T.eNotDealable PySem.F.excBase_ValueError rfl yf9 (yal yf8 yac))) ybb)),?_⟩
 refine⟨_,rfl,d,ks,v,rfl,hS,kn,fun H1 s1=>⟨_,rfl,?_⟩⟩
 by_cases c:∀p∈ks,0≤v p.1 p.2
 ·rw[decide_eq_true c]
  exact ycq (q1 (fun z=>z c) H1 s1)
 ·rw[decide_eq_false c]
  exact yeh ⟨by show 1≤sizeLine;decide,q2 c H1 s1⟩
end
end K13
namespace L2
open PySem PySem.Spec PySem.W PyProof.Rows
def zb1 (K:PySem.W.Frag)(te:TE):TT:=fun σ H Q=>te σ H fun x H'=>∃k,zan K x H' k∧Q k H'
def yc2 (tm d b:Int):Bool:=decide (max 1 (d-tm)≤b∧b≤d)
def ye4 (j:Int)(st:Int×List Int×List (List Int))(i:Int):Int×List Int×List (List Int):=
 if 0<min st.1 (st.2.1.getD i.toNat 0) then (st.1-min st.1 (st.2.1.getD i.toNat 0),st.2.1.set i.toNat (st.2.1.getD i.toNat 0-min st.1 (st.2.1.getD i.toNat 0)),st.2.2++[[i,j,min st.1 (st.2.1.getD i.toNat 0)]]) else st
def ynf (rs os:List (List Int))(tm:Int)(ages:List Int)(st:List Int×List (List Int))(j:Int):List Int×List (List Int):=
 ((ages.filter fun i=>yc2 tm (yag os 0 j) (yag rs 0 i)).foldl (ye4 j) (yag os 1 j,st.1,st.2)).2
def yx3 (rs os:List (List Int))(tm:Int)(ages outs ts:List Int):List Int×List (List Int):=outs.foldl (ynf rs os tm ages) (ts,[])
theorem ys7 {j:Int}{st:Int×List Int×List (List Int)}{i:Int}:(ye4 j st i).2.1.length=st.2.1.length∧(ye4 j st i).2.2.length≤st.2.2.length+1:=by
 unfold ye4
 split
 ·exact⟨List.length_set,by rw[List.length_append,List.length_singleton];exact Nat.le_refl _⟩
 ·exact⟨rfl,Nat.le_succ _⟩
theorem yk5 {j:Int}:∀(is:List Int) (st:Int×List Int×List (List Int)),(is.foldl (ye4 j) st).2.1.length=st.2.1.length∧(is.foldl (ye4 j) st).2.2.length≤st.2.2.length+is.length
 |[],st=>⟨rfl,Nat.le_refl _⟩
 |i::is,st=>by
  obtain ⟨a,b⟩:=yk5 (j:=j) is (ye4 j st i)
  obtain ⟨c,d⟩:=ys7 (j:=j) (st:=st) (i:=i)
  rw[List.foldl_cons,List.length_cons]
  exact⟨a.trans c,by omega⟩
theorem yph {rs os:List (List Int)}{tm:Int}{ages:List Int}:∀(outs:List Int) (st:List Int×List (List Int)),(outs.foldl (ynf rs os tm ages) st).1.length=st.1.length∧(outs.foldl (ynf rs os tm ages) st).2.length≤st.2.length+outs.length*ages.length
 |[],st=>⟨rfl,by rw[List.length_nil,Nat.zero_mul];exact Nat.le_refl _⟩
 |j::outs,st=>by
  obtain ⟨a,b⟩:=yph (rs:=rs) (os:=os) (tm:=tm) (ages:=ages) outs (ynf rs os tm ages st j)
  obtain ⟨c,d⟩:=yk5 (j:=j) (ages.filter fun i=>yc2 tm (yag os 0 j) (yag rs 0 i)) (yag os 1 j,st.1,st.2)
  have e:=List.length_filter_le (fun i=>yc2 tm (yag os 0 j) (yag rs 0 i)) ages
  have c':(ynf rs os tm ages st j).1.length=st.1.length:=c
  have d':(ynf rs os tm ages st j).2.length≤st.2.length+(ages.filter fun i=>yc2 tm (yag os 0 j) (yag rs 0 i)).length:=d
  rw[List.foldl_cons,List.length_cons,Nat.succ_mul]
  exact⟨a.trans c',by omega⟩
def yoe (cl:Nat→Addr):Sp:=fun vs H Q E=>∃d tm:Int,vs=[.int d,.int tm]∧(¬ inB d 999→E (.ref (cl 1)) none H)∧(inB d 999→(¬ ye5 tm→E (.ref (cl 2)) none H)∧(ye5 tm→∀p H',H p=none→Same H H'→H' p=some (.tup [.int (max 1 (d-tm)),.int d])→Q (.ref p) H'))
def yfl:Sp:=fun vs H Q _=>∃d tm b:Int,vs=[.int d,.int tm,.int b]∧inB d 999∧ye5 tm∧∀H',Same H H'→Q (.bl (yc2 tm d b)) H'
def ys8 (rs os:List (List Int))(tm:Int)(ts:List Int)(us:List (List Int)):Prop:=∃ages outs,yb2 (keyE rs) rs.length ages∧yb2 (keyE os) os.length outs∧us=(yx3 rs os tm ages outs ts).2
def yis:Sp:=fun vs H Q _=>∃(a b t:Addr) (tm:Int) (rs os:List (List Int)) (ts:List Int),vs=[.ref a,.ref b,.int tm,.ref t]∧Rows H a rs∧(∀r∈rs,r.length=3)∧rs.length≤30∧Rows H b os∧(∀r∈os,r.length=2∧inB (r.getD 0 0) 999)∧os.length≤30∧ye5 tm∧ya0 H t ts∧ts.length=rs.length∧∀l us H',H l=none→ys8 rs os tm ts us→Same H H'→Rows H' l us→Q (.ref l) H'
def yof (cl:Nat→Addr):Sp:=fun vs H Q E=>∃(a b t:Addr) (tm:Int) (rs os:List (List Int)) (ts:List Int),vs=[.ref a,.ref b,.int tm,.ref t]∧Rows H a rs∧(∀r∈rs,r.length=3)∧Rows H b os∧(∀r∈os,r.length=2)∧ya0 H t ts∧ts.length≤100∧
 (∀n,yc8 rs os tm=some n→∀H',Same H H'→E (.ref (cl n)) none H')∧(yc8 rs os tm=none→(¬ TakenOk rs ts→∀H',Same H H'→E (.ref (cl 7)) none H')∧(TakenOk rs ts→∀ds,ydy rs ds→
  (yvj (ybi ds) (yfk rs os tm ts)→∀H',Same H H'→E (.ref (cl 8)) none H')∧(¬ yvj (ybi ds) (yfk rs os tm ts)→∀l us H',H l=none→ys8 rs os tm ts us→Same H H'→Rows H' l us→Q (.ref l) H')))
theorem ymp {rs os:List (List Int)}{tm:Int}(h:yc8 rs os tm=none):ye5 tm:=by
 have h':=h
 unfold yc8 at h
 cases e1:yc7 rs with
 |some n=>rw[e1] at h;cases h
 |none=>
  rw[e1] at h
  cases e2:yc7 os with
  |some n=>rw[e2] at h;cases h
  |none=>
   rw[yf5 e1 e2] at h'
   by_cases c:ye5 tm
   ·exact c
   ·rw[if_neg c] at h';cases h'
theorem ys9 {os:List (List Int)}(h:ybg os=none)(h2:∀r∈os,r.length=2):∀r∈os,r.length=2∧inB (r.getD 0 0) 999:=by
 unfold ybg at h
 rw[List.findSome?_eq_none_iff] at h
 intro r hr
 have e:=h r hr
 refine⟨h2 r hr,?_⟩
 obtain ⟨d,c,rfl⟩:=yyn (h2 r hr)
 simp only[ydo] at e
 split at e
 ·rename_i z;exact z
 ·cases e
end L2
namespace K13
open PySem L2
abbrev yg6:Stmt:=top 17
abbrev yx4:List Str:=["day","term"]
abbrev yit:List Str:=["day","term"]
theorem yvk:FnScope yx4 yit (yaa yg6):=⟨rfl,rfl,rfl,by decide +kernel,rfl,by decide +kernel,by decide +kernel⟩
abbrev yer:Stmt:=top 43
abbrev yta:List Str:=["day","term","back","first","last"]
abbrev yet:List Str:=["day","term","back"]
theorem sc_reaches:FnScope yta yet (yaa yer):=⟨rfl,rfl,rfl,by decide +kernel,rfl,by decide +kernel,by decide +kernel⟩
abbrev ydh:Stmt:=top 44
abbrev yj3:List Str:=["lots","outs","term","taken","left","ages","told","out","day","wanted","within","lot","units"]
abbrev yeu:List Str:=["lots","outs","term","taken"]
theorem sc_dealt_of:FnScope yj3 yeu (yaa ydh):=⟨rfl,rfl,rfl,by decide +kernel,rfl,by decide +kernel,by decide +kernel⟩
abbrev yg7:Stmt:=top 45
abbrev yx5:List Str:=["lots","outs","term","taken","goods","gone","counts"]
abbrev yiu:List Str:=["lots","outs","term","taken"]
theorem sc_dealt:FnScope yx5 yiu (yaa yg7):=⟨rfl,rfl,rfl,by decide +kernel,rfl,by decide +kernel,by decide +kernel⟩
section
variable {P:Program}{w:World}{K:PySem.W.Frag}{mg:Str→Option Value}{base:Heap}{f:Addr}{fd:FuncData}{cl:Nat→Addr}(T:Txt K mg cl)(B:Bn mg)
include T B
theorem yvl (G_check_day:Cal P w K mg base (CXE P w) 2 "check_day" yct (yq4 (cl 1) 999)) (G_check_term:Cal P w K mg base (CXE P w) 2 "check_term" ycy (yo5 (cl 2))) (F:Fun K "reach" "reach" yg6 f fd):FnOk P w K mg base (CXE P w) 3 f fd yit (yoe cl):=by
 refine F.okE yvk (fun vs H Q E h=>?_) (fun cdv A outer s H vs Q E hr h=>?_)
 ·obtain ⟨d,tm,rfl,_⟩:=h;rfl
 obtain ⟨d,tm,rfl,q1,q2⟩:=h
 refine⟨_,(yad (yb9 (yan (E:=E) G_check_day hr rfl (yez fun _ _ z=>z) (yal (pv 0) yac)))
  (yad (yb9 (yan (E:=E) G_check_term hr rfl (yez fun _ _ z=>z) (yal (pv 1) yac)))
  (yai (yaw (yb0 (yal (yao (yri rfl) rfl B.max PyProof.Rows.boot_max (yal (yh2 rfl T.FIRST_DAY) (yal (yb1 yjm (pv 0) (pv 1)) yac))) (yal (pv 0) yac))))))),?_⟩
 refine⟨_,rfl,d,rfl,fun c=>?_,q1⟩
 obtain ⟨q3,q4⟩:=q2 c
 refine⟨_,rfl,tm,rfl,fun c2=>?_,q3⟩
 refine⟨_,rfl,_,rfl,_,_,rfl,rfl,_,_,rfl,_,rfl,by show 2≤sizeLine;decide,fun p hp=>?_⟩
 refine q4 c2 p _ hp (yae hp _) ?_
 have e:(if d-tm > 1 then d-tm else 1)=max 1 (d-tm):=by split <;> omega
 rw[← e]
 exact yab
theorem yql (G_reach:Cal P w K mg base (CXE P w) 3 "reach" yit (yoe cl)) (F:Fun K "reaches" "reaches" yer f fd):FnOk P w K mg base CX0 4 f fd yet yfl:=by
 refine F.ok sc_reaches (fun vs H Q E h=>?_) (fun cdv A outer s H vs Q E hr h=>?_)
 ·obtain ⟨d,tm,b,rfl,_⟩:=h;rfl
 obtain ⟨d,tm,b,rfl,hd,ht,q⟩:=h
 refine⟨_,(yad (yc4 (yan G_reach hr rfl yso (yal (pv 0) (yal (pv 1) yac))) (ya4 rfl (yaf (yah (i:=3) sc_reaches.nd rfl (Or.inl rfl)) (yaf (yah (i:=4) sc_reaches.nd rfl (Or.inl rfl)) yay))))
  (yai (yaw (yor yd7 yd7 (pv 3) (pv 2) (pv 4))))),?_⟩
 refine⟨_,rfl,_,rfl,d,tm,rfl,fun z=>absurd hd z,fun _=>⟨fun z=>absurd ht z,fun _ p H1 hp s1 e1=>?_⟩⟩
 refine⟨p,_,rfl,SqT.of e1,rfl,_,_,rfl,_,_,rfl,rfl,?_⟩
 have e:∀z:Bool,z=yc2 tm d b→Q (.bl z) H1:=fun z ez=>by rw[ez];exact q H1 s1
 refine⟨_,rfl,_,rfl,_,_,rfl,rfl,_,rfl,?_⟩
 refine yym (fun c=>?_) (fun c=>?_)
 ·have c1:=of_decide_eq_true c
  refine⟨_,rfl,_,_,rfl,rfl,e _ ?_⟩
  unfold yc2
  by_cases z:b≤d
  ·rw[decide_eq_true z,decide_eq_true ⟨c1,z⟩]
  ·rw[decide_eq_false z,decide_eq_false fun y=>z y.2]
 ·have c1:=of_decide_eq_false (Bool.eq_false_iff.mpr c)
  refine e _ ?_
  unfold yc2
  rw[decide_eq_false fun y=>c1 y.1]
theorem yog (G_eldest:Cal P w K mg base CX0 1 "eldest" ygl (yp5 keyE okE)) (G_reaches:Cal P w K mg base CX0 4 "reaches" yet yfl) (F:Fun K "dealt_of" "dealt_of" ydh f fd):FnOk P w K mg base CX0 5 f fd yeu yis:=by
 refine F.ok sc_dealt_of (fun vs H Q E h=>?_) (fun cdv A outer s H vs Q E hr h=>?_)
 ·obtain ⟨a,b,t,tm,rs,os,ts,rfl,_⟩:=h;rfl
 obtain ⟨a,b,t,tm,rs,os,ts,rfl,hR,h3,rn,hO,h2,on,okT,hT,hl,q⟩:=h
 refine⟨_,(yad (ya2 (i:=4) sc_dealt_of.nd rfl (Or.inl rfl) (yen yfc rfl B.list PyProof.Rows.boot_list (yal (pv 3) yac)))
  (yad (ya2 (i:=5) sc_dealt_of.nd rfl (Or.inl rfl) (yan G_eldest hr rfl ya9 (yal (pv 0) yac)))
  (yad (ya2 (i:=6) sc_dealt_of.nd rfl (Or.inl rfl) (yf1 yac))
  (yad (yei PassesOwn.never rfl (ybd (yan G_eldest hr rfl ya9 (yal (pv 1) yac))) (yah (i:=7) sc_dealt_of.nd rfl (Or.inl rfl)) (yad (yc4 (ya8 ya3 (pv 1) (pv 7) (fun _ _=>rfl)) (ya4 rfl (yaf (yah (i:=8) sc_dealt_of.nd rfl (Or.inr rfl)) (yaf (yah (i:=9) sc_dealt_of.nd rfl (Or.inl rfl)) yay))))
   (yad (ycw (i:=10) sc_dealt_of.nd rfl (Or.inl rfl) (N':=["lot","day","term","lots"]) (ix:=[none,some 8,some 2,some 0]) (g:=(ybc 0)) (ti:=(zb1 K (yi7 yfl [] E0 (ybp (yck 1) (ybp (yck 2) (ybp (tOp (yxb K) (tOp (zap K) (yck 3) (yck 0)) (tC (.int 0))) yhw)))))) (te:=(yck 0)) rfl (yav (N:=yj3) (D:=yaa ydh) (by decide +kernel)) (ybd (pv 5)) (fun C s H fp=>(yah (i:=0) (show (["lot","day","term","lots"]:List Str).Nodup by decide +kernel) rfl (Or.inl rfl))) (fun C s H fp=>(yhp (yek (yan G_reaches hr rfl ya9 (yal (pv 1) (yal (pv 2) (yal (ya8 yca (ya8 ya3 (pv 3) (pv 0) (fun _ _=>rfl)) yaj (fun _ _=>rfl)) yac)))) (fun _=>rfl)))) (fun C s H fp=>(pv 0)))
   (yai (yei PassesOwn.never rfl (ybd (pv 10)) (yah (i:=11) sc_dealt_of.nd rfl (Or.inl rfl)) (yad (ya2 (i:=12) sc_dealt_of.nd rfl (Or.inl rfl) (yao (yrj rfl) rfl B.min PyProof.Rows.boot_min (yal (pv 9) (yal (ya8 ya3 (pv 4) (pv 11) (fun _ _=>rfl)) yac))))
    (yai (ydn (ybm yw5 (pv 12) yaj (ybs _)) (yad (yb9 (yno PySem.F.plainAttrs_list PySem.F.slot_list_append PySem.F.type_list_append yd8 (pv 6) (yal (yb0 (yal (pv 11) (yal (pv 7) (yal (pv 12) yac)))) yac)))
     (yad (yra (pv 4) (pv 11) yo6 (pv 12) ywc ycp)
     (yai (yyv (i:=9) sc_dealt_of.nd rfl (Or.inl rfl) (pv 12) ywc)))) ybb))))))))
  (yai (yaw (pv 6))))))),?_⟩
 refine⟨_,rfl,t,_,rfl,.inl (SqL.of hT),fun lf hlf=>?_⟩
 have s1:=yae (H:=H) hlf (.lst (ts.map V.int))
 have I1:ya0 (L2.upd H lf (.lst (ts.map V.int))) lf ts:=yab
 generalize L2.upd H lf (.lst (ts.map V.int))=H1 at *
 refine⟨_,rfl,a,rs,rfl,hR.same s1,by omega,fun r hr=>by unfold okE;rw[h3 r hr];decide,fun ag ages H2 hag s2 hages e2=>?_⟩
 refine⟨by show 0≤sizeLine;decide,fun tl htl=>?_⟩
 have s3:=yae (H:=H2) htl (.lst [])
 have s23:=s2.trans s3
 have s13:=s1.trans s23
 have I3:ya0 (L2.upd H2 tl (.lst [])) lf ts:=s23 _ _ I1
 have R3:Rows (L2.upd H2 tl (.lst [])) tl []:=Rows.nil yab
 have e3:=s3 _ _ e2
 have htl0:H tl=none:=(s1.trans s2).free htl
 have hag0:H1 ag=none:=hag
 have nlt:lf≠tl:=yam (s2 _ _ I1) htl
 have nla:lf≠ag:=yam I1 hag
 have nta:ag≠tl:=yam e2 htl
 generalize L2.upd H2 tl (.lst [])=H3 at *
 have lag:ages.length=rs.length:=by rw[hages.1.length_eq,ya5]
 refine⟨_,rfl,b,os,rfl,hO.same s13,by omega,fun r hr=>by unfold okE;rw[(h2 r hr).1];decide,fun ol outs H4 hol s4 houts e4=>?_⟩
 have lou:outs.length=os.length:=by rw[houts.1.length_eq,ya5]
 have nlo:lf≠ol:=yam I3 hol
 have nto:tl≠ol:=by obtain ⟨z,ez,_⟩:=R3.get;exact yam ez hol
 have s14:=s13.trans s4
 refine⟨ol,rfl,⟨_,SqL.of e4⟩,?_⟩
 refine yej (xs:=outs.map V.int) (fun i σ H5=>∃o7 o8 o9 o10 o11 o12,σ=[some (.ref a),some (.ref b),some (.int tm),some (.ref t),some (.ref lf),some (.ref ag),some (.ref tl),o7,o8,o9,o10,o11,o12]∧Same H H5∧H5 ol=some (.lst (outs.map V.int))∧H5 ag=some (.lst (ages.map V.int))∧ya0 H5 lf ((outs.take i).foldl (ynf rs os tm ages) (ts,[])).1∧Rows H5 tl ((outs.take i).foldl (ynf rs os tm ages) (ts,[])).2) ⟨_,_,_,_,_,_,rfl,s14,e4,s4 _ _ e3,s4 _ _ I3,R3.same s4⟩ ?_ ?_ ?_
 ·rintro i σ H5 hi ⟨o7,o8,o9,o10,o11,o12,rfl,sm,e5,_⟩
  exact SqL.of e5
 ·rintro i x σ H5 exi ⟨o7,o8,o9,o10,o11,o12,rfl,sm,e5,a5,I5,R5⟩
  obtain ⟨j',rfl,ej⟩:=ycs exi
  have hj:=uptoN_mem.mp (houts.1.mem_iff.mp (List.mem_of_getElem? ej))
  obtain ⟨j,rfl⟩ : ∃k:Nat,j'=(k:Int):=⟨j'.toNat,by omega⟩
  obtain ⟨xs,ex,hx⟩:=(hR.same sm).tups
  obtain ⟨ys,ey,hy⟩:=(hO.same sm).tups
  have lx:=hx.1
  have ly:=hy.1
  have hjy:j<ys.length:=by omega
  obtain ⟨po,r,ep,er,hpo⟩:=hy.at (List.getElem?_eq_getElem hjy)
  obtain ⟨r2,rd⟩:=h2 r (List.mem_of_getElem? er)
  obtain ⟨dd,cc,rfl⟩:=yyn r2
  have c0:yag os 0 (j:Int)=dd:=by unfold yag;rw[yfe er];rfl
  have c1:yag os 1 (j:Int)=cc:=by unfold yag;rw[yfe er];rfl
  have eix:atI ys (j:Int)=some (.ref po):=yfb (by rw[List.getElem?_eq_getElem hjy,ep])
  refine⟨_,rfl,_,rfl,b,ys,_,.ref po,rfl,rfl,SqL.of ey,eix,po,_,rfl,SqT.of hpo,rfl,_,_,rfl,_,_,rfl,rfl,?_⟩
  refine⟨_,rfl,ag,rfl,⟨_,SqL.of a5⟩,fun D hD=>?_⟩
  refine yn4 (fun i zs _=>zs=((ages.take i).filter fun i=>yc2 tm dd (yag rs 0 i)).map V.int) hD a5 (by rw[List.length_map];omega) (fun i zs H1 H2 h k=>h) rfl ?_ ?_
  ·rintro m x zs H6 em s6 rfl K1 K2 q1 q2
   obtain ⟨v,rfl,ev⟩:=ycs em
   have hv:=uptoN_mem.mp (hages.1.mem_iff.mp (List.mem_of_getElem? ev))
   obtain ⟨k,rfl⟩ : ∃k:Nat,v=(k:Int):=⟨v.toNat,by omega⟩
   have hk:k<xs.length:=by omega
   obtain ⟨pl,rl,epl,erl,hpl⟩:=hx.at (List.getElem?_eq_getElem hk)
   obtain ⟨ld,lc,lu,rfl⟩:=ynx (h3 rl (List.mem_of_getElem? erl))
   have l0:yag rs 0 (k:Int)=ld:=by unfold yag;rw[yfe erl];rfl
   have eil:atI xs (k:Int)=some (.ref pl):=yfb (by rw[List.getElem?_eq_getElem hk,epl])
   have ft:=yec (rs:=ages) (fun i=>yc2 tm dd (yag rs 0 i)) ev
   refine⟨yax ybf rfl,?_⟩
   refine⟨_,rfl,_,rfl,_,rfl,_,rfl,a,xs,_,.ref pl,rfl,rfl,SqL.of (s6 _ _ ex),eil,pl,_,_,.int ld,rfl,rfl,SqT.of (s6 _ _ hpl),rfl,dd,tm,ld,rfl,rd,okT,fun H7 s7=>⟨_,rfl,?_⟩⟩
   rw[l0] at ft
   cases hb:yc2 tm dd ld with
   |true=>
    refine yeh ⟨_,rfl,q1 _ _ s7 ?_⟩
    rw[ft,if_pos hb,List.map_append];rfl
   |false=>
    refine ycq (q2 _ s7 ?_)
    rw[ft,if_neg (by rw[hb];exact Bool.false_ne_true),List.append_nil]
  rintro zs H6 s6 rfl hz hD6
  rw[List.length_map,List.take_length] at hD6
  have fold:(outs.take (i+1)).foldl (ynf rs os tm ages) (ts,[])=((ages.filter fun i=>yc2 tm dd (yag rs 0 i)).foldl (ye4 (j:Int)) (cc,((outs.take i).foldl (ynf rs os tm ages) (ts,[])).1,((outs.take i).foldl (ynf rs os tm ages) (ts,[])).2)).2:=by
   rw[ya7 ej,List.foldl_append]
   show ynf rs os tm ages _ (j:Int)=_
   unfold ynf
   rw[c0,c1]
  rw[fold]
  have len:=yph (rs:=rs) (os:=os) (tm:=tm) (ages:=ages) (outs.take i) (ts,[])
  have li:(outs.take i).length≤29:=by rw[List.length_take];have:=(List.getElem?_eq_some_iff.mp ej).1;omega
  have lw:(ages.filter fun i=>yc2 tm dd (yag rs 0 i)).length≤30:=Nat.le_trans (List.length_filter_le _ _) (by omega)
  have win:∀v∈ages.filter fun i=>yc2 tm dd (yag rs 0 i),0≤v∧v<(rs.length:Int):=fun v hv=>uptoN_mem.mp (hages.1.mem_iff.mp (List.mem_filter.mp hv).1)
  generalize ((outs.take i).foldl (ynf rs os tm ages) (ts,[])).1=left at *
  generalize ((outs.take i).foldl (ynf rs os tm ages) (ts,[])).2=told at *
  generalize (ages.filter fun i=>yc2 tm dd (yag rs 0 i))=within at *
  have tlen:told.length≤870:=by
   have:=len.2
   have h9:(outs.take i).length*ages.length≤29*30:=Nat.mul_le_mul li (by omega)
   have h0:([]:List (List Int)).length=0:=rfl
   show told.length≤870
   dsimp only at this
   omega
  have llen:left.length=rs.length:=len.1.trans hl
  clear fold len
  have D6:lf≠D:=yam I5 hD
  have D7:D≠tl:=by obtain ⟨z,ez,_⟩:=R5.get;exact(yam ez hD).symm
  refine⟨_,rfl,D,rfl,⟨_,SqL.of hD6⟩,?_⟩
  have s56:=sm.trans s6
  refine yej (xs:=within.map V.int) (fun k σ H7=>∃o11 o12,σ=[some (.ref a),some (.ref b),some (.int tm),some (.ref t),some (.ref lf),some (.ref ag),some (.ref tl),some (.int (j:Int)),some (.int dd),some (.int ((within.take k).foldl (ye4 (j:Int)) (cc,left,told)).1),some (.ref D),o11,o12]∧Same H H7∧H7 ol=some (.lst (outs.map V.int))∧H7 ag=some (.lst (ages.map V.int))∧H7 D=some (.lst (within.map V.int))∧ya0 H7 lf ((within.take k).foldl (ye4 (j:Int)) (cc,left,told)).2.1∧Rows H7 tl ((within.take k).foldl (ye4 (j:Int)) (cc,left,told)).2.2) ⟨_,_,rfl,s56,s6 _ _ e5,s6 _ _ a5,hD6,s6 _ _ I5,R5.same s6⟩ ?_ ?_ ?_
  ·rintro k σ H7 hk ⟨o11,o12,rfl,s7,_,_,D8,_⟩
   exact SqL.of D8
  ·rintro k x σ H7 exk ⟨o11,o12,rfl,s7,e7,a7,D8,I7,R7⟩
   obtain ⟨v',rfl,ev⟩:=ycs exk
   have hv:=win _ (List.mem_of_getElem? ev)
   obtain ⟨v,rfl⟩ : ∃k:Nat,v'=(k:Int):=⟨v'.toNat,by omega⟩
   have fl:=yk5 (j:=(j:Int)) (within.take k) (cc,left,told)
   have kl:k<within.length:=(List.getElem?_eq_some_iff.mp ev).1
   have tk:(within.take k).length=k:=by rw[List.length_take];omega
   have next:(within.take (k+1)).foldl (ye4 (j:Int)) (cc,left,told)=ye4 (j:Int) ((within.take k).foldl (ye4 (j:Int)) (cc,left,told)) (v:Int):=by
    rw[ya7 ev,List.foldl_append];rfl
   rw[next]
   generalize (within.take k).foldl (ye4 (j:Int)) (cc,left,told)=st at *
   obtain ⟨wt,lft,tld⟩:=st
   dsimp only at fl I7 R7 ⊢
   have hvl:v<lft.length:=by omega
   have eiv:atI (lft.map V.int) (v:Int)=some (.int lft[v]):=yuy rfl hvl
   have gv:lft.getD (v:Int).toNat 0=lft[v]:=by rw[Int.toNat_natCast,List.getD_eq_getElem?_getD,List.getElem?_eq_getElem hvl];rfl
   refine⟨_,rfl,_,rfl,_,rfl,lf,_,_,.int lft[v],rfl,rfl,SqL.of I7,eiv,_,_,rfl,?_⟩
   have em:(if lft[v]<wt then lft[v] else wt)=min wt lft[v]:=by
    split <;> omega
   rw[em]
   have hstep:ye4 (j:Int) (wt,lft,tld) (v:Int)=if 0<min wt lft[v] then (wt-min wt lft[v],lft.set v (lft[v]-min wt lft[v]),tld++[[(v:Int),(j:Int),min wt lft[v]]]) else (wt,lft,tld):=by
    unfold ye4
    dsimp only
    rw[gv,Int.toNat_natCast]
   rw[hstep]
   generalize hm:min wt lft[v]=m
   refine⟨_,rfl,_,_,rfl,rfl,_,rfl,?_⟩
   by_cases c:0<m
   ·rw[decide_eq_true c]
    rw[if_pos c]
    refine yeh ?_
    obtain ⟨zs,ez,ezl,_⟩:=R7.get
    refine⟨_,rfl,.inl ⟨rfl,_,SqL.of ez⟩,?_⟩
    refine⟨_,rfl,_,rfl,_,rfl,by show 3≤sizeLine;decide,fun tp htp=>?_⟩
    refine⟨tl,zs,.ref tp,rfl,rfl,by rw[yak (yam ez htp)];exact ez,yas (by omega),?_⟩
    have sT:=yae (H:=H7) htp (.tup [.int (v:Int),.int (j:Int),.int m])
    have R8:Rows (L2.upd (L2.upd H7 tp (.tup [.int (v:Int),.int (j:Int),.int m])) tl (.lst (zs++[.ref tp]))) tl (tld++[[(v:Int),(j:Int),m]]):=R7.push (r:=[(v:Int),(j:Int),m]) ez htp
    have s8:Same H (L2.upd (L2.upd H7 tp (.tup [.int (v:Int),.int (j:Int),.int m])) tl (.lst (zs++[.ref tp]))):=(s7.trans sT).young htl0
    have I8:ya0 (L2.upd (L2.upd H7 tp (.tup [.int (v:Int),.int (j:Int),.int m])) tl (.lst (zs++[.ref tp]))) lf lft:=by unfold ya0;rw[yak nlt];exact sT _ _ I7
    have e8:L2.upd (L2.upd H7 tp (.tup [.int (v:Int),.int (j:Int),.int m])) tl (.lst (zs++[.ref tp])) ol=some (.lst (outs.map V.int)):=by rw[yak nto.symm];exact sT _ _ e7
    have a8:L2.upd (L2.upd H7 tp (.tup [.int (v:Int),.int (j:Int),.int m])) tl (.lst (zs++[.ref tp])) ag=some (.lst (ages.map V.int)):=by rw[yak nta];exact sT _ _ a7
    have D9:L2.upd (L2.upd H7 tp (.tup [.int (v:Int),.int (j:Int),.int m])) tl (.lst (zs++[.ref tp])) D=some (.lst (within.map V.int)):=by rw[yak D7];exact sT _ _ D8
    generalize L2.upd (L2.upd H7 tp (.tup [.int (v:Int),.int (j:Int),.int m])) tl (.lst (zs++[.ref tp]))=H8 at *
    refine⟨_,rfl,_,rfl,lf,_,(v:Int),.int lft[v],rfl,rfl,SqL.of I8,by omega,by rw[Int.toNat_natCast,List.getElem?_map,List.getElem?_eq_getElem hvl];rfl,_,rfl,_,_,rfl,rfl,?_⟩
    refine⟨lf,_,(v:Int),v,rfl,rfl,I8,by unfold ixN;rw[List.length_map,if_pos (by omega),Int.toNat_natCast,if_pos (by omega)],?_⟩
    refine⟨_,rfl,_,rfl,_,_,rfl,rfl,?_⟩
    obtain ⟨ws,ew,hw⟩:=R8.tups
    refine⟨_,_,rfl,s8.young hlf,?_,?_,?_,?_,?_⟩
    ·rw[yak nlo.symm];exact e8
    ·rw[yak nla.symm];exact a8
    ·rw[yak D6.symm];exact D9
    ·unfold ya0
     rw[yab,List.map_set]
    ·refine Tups.rows (xs:=ws) (hw.but I8 fun b o hb e=>by rw[yak hb];exact e) ?_
     rw[yak nlt.symm];exact ew
   ·rw[decide_eq_false c]
    rw[if_neg c]
    exact ycq ⟨_,_,rfl,s7,e7,a7,D8,I7,R7⟩
  ·rintro σ H7 ⟨o11,o12,rfl,s7,e7,a7,D8,I7,R7⟩
   rw[List.length_map,List.take_length] at I7 R7
   exact⟨_,_,_,_,_,_,rfl,s7,e7,a7,I7,R7⟩
 ·rintro σ H5 ⟨o7,o8,o9,o10,o11,o12,rfl,sm,e5,a5,I5,R5⟩
  rw[List.length_map,List.take_length] at I5 R5
  exact⟨_,rfl,q tl _ H5 htl0 ⟨ages,outs,hages,houts,rfl⟩ sm R5⟩
theorem yvm (G_checked_both:Cal P w K mg base (CXE P w) 4 "checked_both" ybt (ymb cl)) (G_checked_taken:Cal P w K mg base (CXE P w) 2 "checked_taken" ycc (ygx (cl 7))) (G_slacks_of:Cal P w K mg base CX0 4 "slacks_of" yeg yg3) (G_check_dealable:Cal P w K mg base (CXE P w) 2 "check_dealable" yb3 (yir (cl 8))) (G_dealt_of:Cal P w K mg base CX0 5 "dealt_of" yeu yis) (F:Fun K "dealt" "dealt" yg7 f fd):FnOk P w K mg base (CXE P w) 6 f fd yiu (yof cl):=by
 refine F.okE sc_dealt (fun vs H Q E h=>?_) (fun cdv A outer s H vs Q E hr h=>?_)
 ·obtain ⟨a,b,t,tm,rs,os,ts,rfl,_⟩:=h;rfl
 obtain ⟨a,b,t,tm,rs,os,ts,rfl,hR,h3,hO,h2,hT,tn,q1,q2⟩:=h
 refine⟨_,(yad (yc4 (yan (E:=E) G_checked_both hr rfl (yez fun _ _ z=>z) (yal (pv 0) (yal (pv 1) (yal (pv 2) yac)))) (ya4 rfl (yaf (yah (i:=4) sc_dealt.nd rfl (Or.inl rfl)) (yaf (yah (i:=5) sc_dealt.nd rfl (Or.inl rfl)) yay))))
  (yad (ya2 (i:=6) sc_dealt.nd rfl (Or.inl rfl) (yan (E:=E) G_checked_taken hr rfl (yez fun _ _ z=>z) (yal (pv 4) (yal (pv 3) yac))))
  (yad (yb9 (yan (E:=E) G_check_dealable hr rfl (yez fun _ _ z=>z) (yal (yan G_slacks_of hr rfl ya9 (yal (pv 4) (yal (pv 5) (yal (pv 2) (yal (pv 6) yac))))) yac)))
  (yai (yaw (yan G_dealt_of hr rfl ya9 (yal (pv 4) (yal (pv 5) (yal (pv 2) (yal (pv 6) yac)))))))))),?_⟩
 refine⟨_,rfl,_,rfl,_,rfl,a,b,tm,rs,os,rfl,hR,h3,hO,h2,q1,fun bn tp g o H1 ht hg ho s1 R1 O1 e1=>?_⟩
 obtain ⟨rn,on,_,ob⟩:=yoc bn
 have rn':rs.length≤31:=by omega
 obtain ⟨q3,q4⟩:=q2 bn
 refine⟨tp,_,rfl,SqT.of e1,rfl,_,_,rfl,_,_,rfl,rfl,?_⟩
 refine⟨_,rfl,_,rfl,g,t,rs,ts,rfl,R1,h3,s1 _ _ hT,by omega,tn,fun z H' s'=>q3 z H' (s1.trans s'),fun tk l H2 hl s2 I2=>?_⟩
 have s12:=s1.trans s2
 refine⟨_,rfl,_,rfl,_,rfl,_,rfl,g,o,l,tm,rs,os,ts,rfl,R1.same s2,h3,rn',O1.same s2,h2,by omega,I2,tk.1,fun d ds H3 hd hds s3 S3=>?_⟩
 have sn:=yky (Nat.le_trans hds.2.2 rn')
 have s13:=s12.trans s3
 obtain ⟨q5,q6⟩:=q4 tk ds hds
 refine⟨d,_,_,rfl,S3,by omega,fun ok H4 s4=>?_,fun z H4 s4=>q5 z H4 (s13.trans s4)⟩
 have s14:=s13.trans s4
 have s24:=s2.trans (s3.trans s4)
 refine⟨_,rfl,_,rfl,_,rfl,_,rfl,g,o,l,tm,rs,os,ts,rfl,R1.same s24,h3,rn,O1.same s24,ys9 ob h2,on,ymp bn,(s3.trans s4) _ _ I2,tk.1,fun u us H5 hu hus s5 R5=>?_⟩
 exact q6 ok u us H5 (s14.free hu) hus (s14.trans s5) R5
end
end K13
namespace L2
open PySem PySem.Spec PyProof.Rows
def lpw (m:Nat)(h:Int):Nat→Nat×Nat
 |0=>(SetTable.bits h % (m+1),SetTable.bits h)
 |k+1=>SetTable.leap m (lpw m h k).1 (lpw m h k).2
def rlw (m i:Nat):Nat:=SetTable.runEnd m i-i
theorem ywp (m i:Nat):rlw m i≤9:=by unfold rlw SetTable.runEnd;split <;> omega
theorem yx6 (m i:Nat):SetTable.runEnd m i=i+rlw m i:=by unfold rlw SetTable.runEnd;split <;> omega
theorem ywq {m i r:Nat}(hi:i≤m)(h:r≤rlw m i):i+r≤m:=by
 unfold rlw SetTable.runEnd at h;split at h <;> omega
theorem ytb (m:Nat)(h:Int):∀k,(lpw m h k).1≤m
 |0=>Nat.le_of_lt_succ (Nat.mod_lt _ (Nat.succ_pos _))
 |k+1=>Nat.le_of_lt_succ (Nat.mod_lt _ (Nat.succ_pos _))
theorem ypi (m:Nat)(h:Int):∀k,(lpw m h k).2=SetTable.bits h / 32 ^ k
 |0=>by rw[Nat.pow_zero,Nat.div_one];rfl
 |k+1=>by
  show (lpw m h k).2 / 32=_
  rw[ypi m h k,Nat.div_div_eq_div_mul,Nat.pow_succ]
theorem yvn (m:Nat)(h:Int)(k:Nat)(hk:13≤k):(lpw m h k).2=0:=by
 rw[ypi]
 refine Nat.div_eq_of_lt ?_
 have h1:SetTable.bits h<2 ^ 64:=by
  unfold SetTable.bits
  have:=Int.emod_lt_of_pos h (show (0:Int)<2 ^ 64 by decide)
  have:=Int.emod_nonneg h (show (2 ^ 64:Int)≠0 by decide)
  omega
 exact Nat.lt_of_lt_of_le h1 (Nat.le_trans (show 2 ^ 64≤32 ^ 13 by decide) (Nat.pow_le_pow_right (by decide) hk))
def itw (m:Nat):Nat→Nat→Nat
 |0,i=>i
 |k+1,i=>(itw m k i*5+1) % (m+1)
theorem yk6 (m:Nat):∀a b i,itw m (a+b) i=itw m a (itw m b i)
 |0,b,i=>by rw[Nat.zero_add];rfl
 |a+1,b,i=>by
  rw[show a+1+b=(a+b)+1 by omega]
  show (itw m (a+b) i*5+1) % (m+1)=(itw m a (itw m b i)*5+1) % (m+1)
  rw[yk6 m a b i]
theorem ytc (m:Nat)(h:Int):∀d,(lpw m h (13+d)).1=itw m d (lpw m h 13).1
 |0=>rfl
 |d+1=>by
  show ((lpw m h (13+d)).1*5+1+(lpw m h (13+d)).2 / 32) % (m+1)=(itw m d (lpw m h 13).1*5+1) % (m+1)
  rw[yvn m h (13+d) (by omega),ytc m h d,Nat.zero_div,Nat.add_zero]
def FullW (m:Nat):Prop:=itw m (m+1) 0=0∧∀e,e≤m→∃d,d≤m∧itw m d 0=e
theorem yk7 {m:Nat}(h0:itw m (m+1) 0=0)(h:((List.range (m+1)).all fun e=>((List.range (m+1)).map fun d=>itw m d 0).contains e)=true):FullW m:=by
 refine⟨h0,fun e he=>?_⟩
 have h1:=List.all_eq_true.mp h e (List.mem_range.mpr (by omega))
 obtain ⟨d,hd,e1⟩:=List.mem_map.mp (List.contains_iff_mem.mp h1)
 exact⟨d,Nat.le_of_lt_succ (List.mem_range.mp hd),e1⟩
theorem za0:FullW 7:=yk7 (by decide +kernel) (by decide +kernel)
theorem ywr:FullW 31:=yk7 (by decide +kernel) (by decide +kernel)
theorem ytd:FullW 127:=yk7 (by decide +kernel) (by decide +kernel)
theorem FullW.reach {m:Nat}(F:FullW m)(h:Int){e:Nat}(he:e≤m):∃K,K≤13+m∧(lpw m h K).1=e:=by
 obtain ⟨f0,f1⟩:=F
 obtain ⟨a,ha,ea⟩:=f1 _ (ytb m h 13)
 obtain ⟨b,hb,eb⟩:=f1 e he
 by_cases c:a≤b
 ·refine⟨13+(b-a),by omega,?_⟩
  rw[ytc,← ea,← yk6,show b-a+a=b by omega];exact eb
 ·refine⟨13+(m+1-a+b),by omega,?_⟩
  rw[ytc,← ea,← yk6,show m+1-a+b+a=b+(m+1) by omega,yk6,f0];exact eb
def BefW (m:Nat)(h:Int)(P:Nat→Prop)(k r:Nat):Prop:=(∀k',k' < k→∀r',r'≤rlw m (lpw m h k').1→P ((lpw m h k').1+r'))∧∀r',r' < r→P ((lpw m h k).1+r')
theorem BefW.zero {m:Nat}{h:Int}{P:Nat→Prop}:BefW m h P 0 0:=⟨fun k' hk=>absurd hk (Nat.not_lt_zero _),fun r' hr=>absurd hr (Nat.not_lt_zero _)⟩
theorem BefW.next {m:Nat}{h:Int}{P:Nat→Prop}{k r:Nat}(b:BefW m h P k r)(p:P ((lpw m h k).1+r)):BefW m h P k (r+1):=
 ⟨b.1,fun r' hr=>(Nat.lt_succ_iff_lt_or_eq.mp hr).elim (b.2 r') fun e=>e ▸ p⟩
theorem BefW.leap {m:Nat}{h:Int}{P:Nat→Prop}{k r:Nat}(b:BefW m h P k r)(p:P ((lpw m h k).1+r))(hr:rlw m (lpw m h k).1≤r):BefW m h P (k+1) 0:=
 ⟨fun k' hk r' hr'=>(Nat.lt_succ_iff_lt_or_eq.mp hk).elim (fun z=>b.1 k' z r' hr') fun e=>by
  subst e
  by_cases c:r' < r
  ·exact b.2 r' c
  ·rw[show r'=r by omega];exact p,fun r' hr=>absurd hr (Nat.not_lt_zero _)⟩
theorem BefW.mono {m:Nat}{h:Int}{P R:Nat→Prop}{k r:Nat}(b:BefW m h P k r)(f:∀j,P j→R j):BefW m h R k r:=⟨fun k' hk r' hr=>f _ (b.1 k' hk r' hr),fun r' hr=>f _ (b.2 r' hr)⟩
def OnW (m:Nat)(h:Int)(P:Nat→Prop)(j:Nat):Prop:=∃k r,r≤rlw m (lpw m h k).1∧j=(lpw m h k).1+r∧BefW m h P k r
theorem OnW.mono {m:Nat}{h:Int}{P R:Nat→Prop}{j:Nat}(b:OnW m h P j)(f:∀j,P j→R j):OnW m h R j:=let ⟨k,r,h1,h2,h3⟩:=b;⟨k,r,h1,h2,h3.mono f⟩
theorem OnW.le {m:Nat}{h:Int}{P:Nat→Prop}{j:Nat}(b:OnW m h P j):j≤m:=let ⟨k,r,h1,h2,_⟩:=b;h2 ▸ ywq (ytb m h k) h1
theorem yte {m:Nat}{h:Int}{P R:Nat→Prop}{k r j:Nat}(hr:r≤rlw m (lpw m h k).1)(b:BefW m h P k r)(o:OnW m h R j)(n1:¬ R ((lpw m h k).1+r))(n2:¬ P j):j=(lpw m h k).1+r:=by
 obtain ⟨k2,r2,h1,rfl,b2⟩:=o
 rcases Nat.lt_trichotomy k2 k with z|z|z
 ·exact absurd (b.1 k2 z r2 h1) n2
 ·subst z
  rcases Nat.lt_trichotomy r2 r with y|y|y
  ·exact absurd (b.2 r2 y) n2
  ·rw[y]
  ·exact absurd (b2.2 r y) n1
 ·exact absurd (b2.1 k z r hr) n1
def prw (m:Nat)(h:Int)(k r:Nat):SetTable.Probe:={ j:=(lpw m h k).1+r,more:=rlw m (lpw m h k).1-r,i:=(lpw m h k).1,perturb:=(lpw m h k).2,dummy:=none }
theorem ytf (t:SetTable)(h:Int):t.probeStart h=prw t.mask h 0 0:=rfl
theorem ypj {t:SetTable}{h:Int}{k r:Nat}(hr:r<rlw t.mask (lpw t.mask h k).1):t.advance (prw t.mask h k r)=prw t.mask h k (r+1):=by
 unfold SetTable.advance prw
 dsimp only
 rw[if_pos (by omega)]
 congr 1
theorem ypk {t:SetTable}{h:Int}{k r:Nat}(hr:rlw t.mask (lpw t.mask h k).1≤r):t.advance (prw t.mask h k r)=prw t.mask h (k+1) 0:=by
 unfold SetTable.advance prw
 dsimp only
 rw[if_neg (by omega)]
 rfl
def Liv (p:Array Nat)(j:Nat):Prop:=∃i:Nat,p[i]? = some j
theorem yvo {p:Array Nat}(R:yji p){i k j:Nat}(h1:p[i]? = some j)(h2:p[k]? = some j):i=k:=by
 obtain ⟨a1,b1⟩:=Array.getElem?_eq_some_iff.mp h1
 obtain ⟨a2,b2⟩:=Array.getElem?_eq_some_iff.mp h2
 rcases Nat.lt_trichotomy i k with z|z|z
 ·have:=R i k a1 a2 z;omega
 ·exact z
 ·have:=R k i a2 a1 z;omega
theorem ymq {t:SetTable}(R:yji t.place){i j:Nat}(h:t.place[i]? = some j):t.slot j = .live i:=by
 obtain ⟨b1,b2,b3⟩:=ygi R j
 obtain ⟨a1,a2⟩:=Array.getElem?_eq_some_iff.mp h
 have e:SetTable.below t.place j=i:=by
  rcases Nat.lt_trichotomy (SetTable.below t.place j) i with z|z|z
  ·have h1:=b3 _ (by omega) (Nat.le_refl _)
   have h2:=R _ i (by omega) a1 z
   omega
  ·exact z
  ·have:=b2 i a1 z;omega
 unfold SetTable.slot
 dsimp only
 rw[e,h]
 simp
theorem ytg {t:SetTable}{j:Nat}(hd:t.dummies = #[])(h:¬ Liv t.place j):t.slot j = .empty:=by
 unfold SetTable.slot
 dsimp only
 rw[if_neg (fun e=>h ⟨_,by simpa using e⟩),hd]
 simp [SetTable.has]
theorem yqm {t:SetTable}(R:yji t.place)(hd:t.dummies = #[])(j:Nat):(∃i,t.place[i]? = some j∧t.slot j = .live i)∨(¬ Liv t.place j∧t.slot j = .empty):=by
 by_cases c:Liv t.place j
 ·obtain ⟨i,e⟩:=c;exact .inl ⟨i,e,ymq R e⟩
 ·exact .inr ⟨c,ytg hd c⟩
theorem yth {p:Array Nat}{m:Nat}(R:yji p)(hz:p.size≤m):∃e,e≤m∧¬ Liv p e:=by
 apply Classical.byContradiction
 intro n
 have all:∀e,e≤m→Liv p e:=fun e he=>Classical.byContradiction fun c=>n ⟨e,he,c⟩
 have ge:∀e,e≤m→∀i:Nat,p[i]? = some e→e≤i:=by
  intro e
  induction e with
  |zero=>intro _ i _;omega
  |succ e ih=>
   intro he i hi
   obtain ⟨k,hk⟩:=all e (by omega)
   have:=ih (by omega) k hk
   obtain ⟨a1,a2⟩:=Array.getElem?_eq_some_iff.mp hi
   obtain ⟨c1,c2⟩:=Array.getElem?_eq_some_iff.mp hk
   rcases Nat.lt_trichotomy i k with z|z|z
   ·have:=R i k a1 c1 z;omega
   ·subst z;omega
   ·omega
 obtain ⟨i,hi⟩:=all m (Nat.le_refl _)
 have:=ge m (Nat.le_refl _) i hi
 obtain ⟨a1,_⟩:=Array.getElem?_eq_some_iff.mp hi
 omega
def yx7 (ow:Array (Option Nat))(j:Nat):Prop:=∃k,ow.getD j none=some k
theorem yqn {ow:Array (Option Nat)}{j:Nat}(h:j<ow.size):ow.getD j (some 0)=ow.getD j none:=by
 rw[Array.getD_eq_getD_getElem?,Array.getD_eq_getD_getElem?,Array.getElem?_eq_getElem h];rfl
theorem yx8 {m:Nat}{h:Int}{ow:Array (Option Nat)}(hz:ow.size=m+1):∀(fuel k K:Nat),BefW m h (yx7 ow) k 0→k≤K→K-k<fuel→ow.getD (lpw m h K).1 none=none→
 ∃j,SetTable.layClean.free m ow fuel (lpw m h k).1 (lpw m h k).2=some j∧OnW m h (yx7 ow) j∧ow.getD j none=none:=by
 intro fuel
 induction fuel with
 |zero=>intro k K _ _ z;omega
 |succ f ih=>
  intro k K b hk hf he
  have hi:=ytb m h k
  have rl:=yx6 m (lpw m h k).1
  have atj:∀r,r≤rlw m (lpw m h k).1→ow.getD ((lpw m h k).1+r) (some 0)=ow.getD ((lpw m h k).1+r) none:=fun r hr=>yqn (by have:=ywq hi hr;omega)
  unfold SetTable.layClean.free
  have el:SetTable.runEnd m (lpw m h k).1+1-(lpw m h k).1=rlw m (lpw m h k).1+1:=by rw[rl];omega
  rw[el]
  cases q:(List.range (rlw m (lpw m h k).1+1)).find? fun r=>(ow.getD ((lpw m h k).1+r) (some 0)).isNone with
  |some r=>
   obtain ⟨p1,p2,p3⟩:=List.find?_range_eq_some.mp q
   have hr:r≤rlw m (lpw m h k).1:=Nat.le_of_lt_succ (List.mem_range.mp p2)
   refine⟨_,rfl,⟨k,r,hr,rfl,b.1,fun r' hr'=>?_⟩,?_⟩
   ·have:=p3 r' hr'
    rw[atj r' (by omega)] at this
    cases c:ow.getD ((lpw m h k).1+r') none with
    |none=>rw[c] at this;simp at this
    |some v=>exact⟨v,c⟩
   ·rw[← atj r hr];simpa using p1
  |none=>
   have no:=List.find?_range_eq_none.mp q
   have all:∀r,r≤rlw m (lpw m h k).1→yx7 ow ((lpw m h k).1+r):=fun r hr=>by
    have:=no r (by omega)
    rw[atj r hr] at this
    cases c:ow.getD ((lpw m h k).1+r) none with
    |none=>rw[c] at this;simp at this
    |some v=>exact⟨v,c⟩
   have nk:k≠K:=fun e=>by
    obtain ⟨v,e1⟩:=all 0 (Nat.zero_le _)
    rw[Nat.add_zero,e,he] at e1
    cases e1
   refine ih (k+1) K ⟨fun k' hk' r' hr'=>?_,fun r' hr'=>absurd hr' (Nat.not_lt_zero _)⟩ (by omega) (by omega) he
   rcases Nat.lt_succ_iff_lt_or_eq.mp hk' with z|z
   ·exact b.1 k' z r' hr'
   ·subst z;exact all r' hr'
def yws (m:Nat)(f:Nat→Bool):Nat:=(List.range (m+1)).countP f
theorem ypl {f g:Nat→Bool}{j0:Nat}(h1:f j0=false)(h2:g j0=true)(h3:∀j,j≠j0→g j=f j):∀n,(List.range n).countP g=(List.range n).countP f+if j0<n then 1 else 0
 |0=>rfl
 |n+1=>by
  rw[List.range_succ,List.countP_append,List.countP_append,ypl h1 h2 h3 n,List.countP_singleton,List.countP_singleton]
  by_cases c:n=j0
  ·subst c;simp [h1,h2]
  ·rw[h3 n c]
   have:(j0<n+1)=(j0<n):=propext ⟨fun z=>by omega,fun z=>by omega⟩
   simp only[this]
   omega
theorem yvp {m:Nat}{f:Nat→Bool}(h:yws m f≤m):∃e,e≤m∧f e=false:=by
 apply Classical.byContradiction
 intro n
 have:yws m f=m+1:=by
  unfold yws
  have:=List.countP_eq_length (p:=f) (l:=List.range (m+1))
  rw[List.length_range] at this
  refine this.mpr fun a ha=>?_
  cases c:f a with
  |true=>rfl
  |false=>exact absurd ⟨a,Nat.le_of_lt_succ (List.mem_range.mp ha),c⟩ n
 omega
structure LayW (m:Nat) (ds:List Int) (ow:Array (Option Nat)):Prop where
 sz:ow.size=m+1
 cnt:yws m (fun j=>(ow.getD j none).isSome)=ds.length
 has:∀k h,ds[k]? = some h→∃j,ow.getD j none=some k∧OnW m h (yx7 ow) j
 low:∀j k,ow.getD j none=some k→∃h,ds[k]? = some h∧OnW m h (yx7 ow) j
theorem yti {m:Nat}(F:FullW m){ds:List Int}{ow:Array (Option Nat)}(L:LayW m ds ow)(hm:ds.length≤m)(h:Int) :
 ∃j,SetTable.layClean.free m ow (SetTable.turns m) (SetTable.bits h % (m+1)) (SetTable.bits h)=some j∧LayW m (ds++[h]) (ow.setIfInBounds j (some ds.length)):=by
 obtain ⟨e,he,fe⟩:=yvp (m:=m) (f:=fun j=>(ow.getD j none).isSome) (by rw[L.cnt];exact hm)
 have fe':ow.getD e none=none:=by cases c:ow.getD e none with
  |none=>rfl
  |some v=>rw[c] at fe;cases fe
 obtain ⟨K,hK,eK⟩:=F.reach h he
 obtain ⟨j,h1,h2,h3⟩:=yx8 L.sz (SetTable.turns m) 0 K BefW.zero (Nat.zero_le _) (by unfold SetTable.turns;omega) (by rw[eK];exact fe')
 have hj:=h2.le
 have gs:∀i,(ow.setIfInBounds j (some ds.length)).getD i none=if i=j then some ds.length else ow.getD i none:=fun i=>by
  rw[Array.getD_eq_getD_getElem?,Array.getD_eq_getD_getElem?,Array.getElem?_setIfInBounds]
  by_cases c:i=j
  ·subst c;rw[if_pos rfl,if_pos rfl,if_pos (by rw[L.sz];omega)];rfl
  ·rw[if_neg (fun z=>c z.symm),if_neg c]
 have grow:∀i,yx7 ow i→yx7 (ow.setIfInBounds j (some ds.length)) i:=fun i ⟨k,hk⟩=>by
  refine⟨k,?_⟩
  rw[gs,if_neg (fun z=>by rw[z,h3] at hk;cases hk)];exact hk
 refine⟨j,h1,by rw[Array.size_setIfInBounds];exact L.sz,?_,?_,?_⟩
 ·unfold yws
  rw[ypl (f:=fun j=>(ow.getD j none).isSome) (j0:=j) (by rw[h3];rfl) (by rw[gs,if_pos rfl];rfl) (fun i hi=>by rw[gs,if_neg hi]),if_pos (by omega),List.length_append]
  have:=L.cnt
  unfold yws at this
  rw[this]
  rfl
 ·intro k g hk
  by_cases c:k<ds.length
  ·rw[List.getElem?_append_left c] at hk
   obtain ⟨i,q1,q2⟩:=L.has k g hk
   refine⟨i,?_,q2.mono grow⟩
   rw[gs,if_neg (fun z=>by rw[z,h3] at q1;cases q1)];exact q1
  ·have c2:k=ds.length:=by
    have:=(List.getElem?_eq_some_iff.mp hk).1
    rw[List.length_append,List.length_singleton] at this
    omega
   subst c2
   rw[List.getElem?_append_right (Nat.le_refl _),Nat.sub_self] at hk
   cases hk
   exact⟨j,by rw[gs,if_pos rfl],h2.mono grow⟩
 ·intro i k hk
  rw[gs] at hk
  by_cases c:i=j
  ·rw[if_pos c] at hk
   cases hk
   subst c
   exact⟨h,by rw[List.getElem?_append_right (Nat.le_refl _),Nat.sub_self];rfl,h2.mono grow⟩
  ·rw[if_neg c] at hk
   obtain ⟨g,q1,q2⟩:=L.low i k hk
   exact⟨g,by rw[List.getElem?_append_left (List.getElem?_eq_some_iff.mp q1).1];exact q1,q2.mono grow⟩
theorem ymr {m:Nat}(F:FullW m):∀(hs ds:List Int) (ow:Array (Option Nat)),LayW m ds ow→ds.length+hs.length≤m+1→
 ∃ow',hs.foldl (fun (acc:Option (Array (Option Nat)×Nat)) h=>do
  let (owner,k) ← acc
  let j ← SetTable.layClean.free m owner (SetTable.turns m) (SetTable.bits h % (m+1)) (SetTable.bits h)
  pure (owner.setIfInBounds j (some k),k+1)) (some (ow,ds.length))=some (ow',ds.length+hs.length)∧LayW m (ds++hs) ow'
 |[],ds,ow,L,_=>⟨ow,rfl,by rw[List.append_nil];exact L⟩
 |h::hs,ds,ow,L,hm=>by
  rw[List.length_cons] at hm
  obtain ⟨j,e,L'⟩:=yti F L (by omega) h
  obtain ⟨ow',e2,L2⟩:=ymr F hs (ds++[h]) _ L' (by rw[List.length_append,List.length_singleton];omega)
  refine⟨ow',?_,by rw[List.append_assoc] at L2;exact L2⟩
  rw[List.foldl_cons]
  have:(do
   let (owner,k) ← (some (ow,ds.length):Option (Array (Option Nat)×Nat))
   let j ← SetTable.layClean.free m owner (SetTable.turns m) (SetTable.bits h % (m+1)) (SetTable.bits h)
   pure (owner.setIfInBounds j (some k),k+1))=some (ow.setIfInBounds j (some ds.length),ds.length+1):=by
   show (SetTable.layClean.free m ow (SetTable.turns m) (SetTable.bits h % (m+1)) (SetTable.bits h)).bind _=_
   rw[e];rfl
  rw[this]
  rw[List.length_append,List.length_singleton] at e2
  rw[e2,List.length_cons]
  congr 2
  omega
theorem yqo {m:Nat}(F:FullW m)(hs:Array Int)(hm:hs.size≤m+1):∃ow,SetTable.layClean m hs=some ow∧LayW m hs.toList ow:=by
 have L0:LayW m [] (Array.replicate (m+1) none):=by
  have g0:∀j,(Array.replicate (m+1) (none:Option Nat)).getD j none=none:=fun j=>by
   rw[Array.getD_eq_getD_getElem?,Array.getElem?_replicate];split <;> rfl
  refine⟨Array.size_replicate,?_,fun k h hk=>by simp at hk,fun j k hk=>by rw[g0] at hk;cases hk⟩
  unfold yws
  rw[List.length_nil]
  exact List.countP_eq_zero.mpr fun a _=>by rw[g0];simp
 obtain ⟨ow,e,L⟩:=ymr F hs.toList [] _ L0 (by rw[List.length_nil,Array.length_toList];omega)
 refine⟨ow,?_,by simpa using L⟩
 unfold SetTable.layClean
 rw[← Array.foldl_toList]
 rw[List.length_nil] at e
 rw[e]
 rfl
theorem yx9 {m fi mv:Nat}{led pl:Bool}(F:FullW m)(hs:Array Int)(hm:hs.size≤m+1):∃t order,SetTable.laid m fi mv led pl hs=some (t,order)∧t.mask=m∧t.dummies = #[]∧t.moves=mv∧t.led=led∧yji t.place∧t.place.size=hs.size∧order.size=hs.size∧
 (∀(i k:Nat),order[i]? = some k→∃j h,t.place[i]? = some j∧hs[k]? = some h∧OnW m h (Liv t.place) j)∧∀k,k<hs.size→∃i:Nat,order[i]? = some k:=by
 obtain ⟨ow,e,L⟩:=yqo F hs hm
 have live_len:((List.range (m+1)).filterMap fun j=>(ow.getD j none).map (j,·)).length=hs.size:=by
  rw[List.length_filterMap_eq_countP,← Array.length_toList,← L.cnt]
  unfold yws
  congr 1
  funext j
  rw[Option.isSome_map]
 have mem_of:∀j k,ow.getD j none=some k→(j,k)∈(List.range (m+1)).filterMap fun j=>(ow.getD j none).map (j,·):=fun j k hk=>by
  refine List.mem_filterMap.mpr ⟨j,List.mem_range.mpr ?_,by rw[hk];rfl⟩
  apply Classical.byContradiction
  intro c
  rw[Array.getD_eq_getD_getElem?,Array.getElem?_eq_none (by rw[L.sz];omega)] at hk
  cases hk
 have of_mem:∀p,p∈((List.range (m+1)).filterMap fun j=>(ow.getD j none).map (j,·))→ow.getD p.1 none=some p.2:=fun p hp=>by
  obtain ⟨j,_,e1⟩:=List.mem_filterMap.mp hp
  cases q:ow.getD j none with
  |none=>rw[q] at e1;cases e1
  |some v=>rw[q] at e1;cases e1;exact q
 have pw:(((List.range (m+1)).filterMap fun j=>(ow.getD j none).map (j,·)).map (·.1)).Pairwise (· < ·):=by
  rw[List.pairwise_map]
  refine List.Pairwise.filterMap (R:=(· < ·)) _ (fun a a' haa b hb b' hb'=>?_) List.pairwise_lt_range
  cases q1:ow.getD a none with
  |none=>rw[q1] at hb;cases hb
  |some v1=>
   cases q2:ow.getD a' none with
   |none=>rw[q2] at hb';cases hb'
   |some v2=>rw[q1] at hb;rw[q2] at hb';cases hb;cases hb';exact haa
 refine⟨_,_,by unfold SetTable.laid;rw[e];rfl,rfl,rfl,rfl,rfl,?_,?_,?_,?_,?_⟩
 ·intro i j hi hj hij
  have:=List.pairwise_iff_getElem.mp pw i j (by simpa using hi) (by simpa using hj) hij
  simpa using this
 ·show (List.toArray _).size=_
  rw[List.size_toArray,List.length_map];exact live_len
 ·show (List.toArray _).size=_
  rw[List.size_toArray,List.length_map];exact live_len
 ·intro i k hk
  rw[List.getElem?_toArray,List.getElem?_map] at hk
  obtain ⟨p,e1,e2⟩:=Option.map_eq_some_iff.mp hk
  obtain ⟨h,q1,q2⟩:=L.low p.1 p.2 (of_mem p (List.mem_of_getElem? e1))
  refine⟨p.1,h,by show (List.toArray _)[_]? = _;rw[List.getElem?_toArray,List.getElem?_map,e1];rfl,?_,q2.mono fun j ⟨v,hv⟩=>?_⟩
  ·rw[← Array.getElem?_toList,← e2];exact q1
  ·obtain ⟨i',hi'⟩:=List.mem_iff_getElem?.mp (mem_of j v hv)
   exact⟨i',by show (List.toArray _)[_]? = _;rw[List.getElem?_toArray,List.getElem?_map,hi'];rfl⟩
 ·intro k hk
  obtain ⟨j,q1,_⟩:=L.has k _ (List.getElem?_eq_getElem (by rw[Array.length_toList];exact hk))
  obtain ⟨i,hi⟩:=List.mem_iff_getElem?.mp (mem_of j k q1)
  exact⟨i,by rw[List.getElem?_toArray,List.getElem?_map,hi];rfl⟩
structure TabT (es:Array (Int×Value)) (t:SetTable):Prop where
 dum:t.dummies = #[]
 ris:yji t.place
 sz:t.place.size=es.size
 msk:t.mask=7∨t.mask=31∨t.mask=127
 few:es.size*5<t.mask*3
 on:∀(i:Nat) e j,es[i]? = some e→t.place[i]? = some j→OnW t.mask e.1 (Liv t.place) j
theorem TabT.full {es:Array (Int×Value)}{t:SetTable}(T:TabT es t):FullW t.mask:=by
 rcases T.msk with e|e|e <;> rw[e]
 ·exact za0
 ·exact ywr
 ·exact ytd
theorem TabT.fits {es:Array (Int×Value)}{t:SetTable}(T:TabT es t):t.fits es.size=true:=by
 have h1:=T.sz
 have h2:=T.few
 simp only[SetTable.fits,SetTable.fill,T.dum,Bool.and_eq_true,beq_iff_eq,decide_eq_true_eq]
 exact⟨h1,by rw[h1];simp;omega⟩
theorem TabT.gave {es:Array (Int×Value)}{t:SetTable}(T:TabT es t):t.gaveWay=false:=by
 unfold SetTable.gaveWay
 rcases T.msk with e|e|e <;> rw[e] <;> rfl
theorem ytj {t:SetTable}{hashAt:Nat→Int}{h:Int}{P:Nat→Prop}{K:Nat}(R:yji t.place)(hd:t.dummies = #[])(hP:∀(i:Nat) j,t.place[i]? = some j→hashAt i≠h→P j)(hK:¬ Liv t.place (lpw t.mask h K).1) :
 ∀(fuel k r:Nat),r≤rlw t.mask (lpw t.mask h k).1→BefW t.mask h P k r→(k<K∨(k=K∧r=0))→10*(K-k)-r<fuel→
  ∃k' r',r'≤rlw t.mask (lpw t.mask h k').1∧BefW t.mask h P k' r'∧10*(K-k')-r'≤10*(K-k)-r∧
   ((¬ Liv t.place ((lpw t.mask h k').1+r')∧SetTable.probe.go t hashAt h fuel (prw t.mask h k r)=some (.empty ((lpw t.mask h k').1+r') none))∨
    ∃i,k' < K∧t.place[i]? = some ((lpw t.mask h k').1+r')∧hashAt i=h∧SetTable.probe.go t hashAt h fuel (prw t.mask h k r)=some (.candidate ((lpw t.mask h k').1+r') i (t.advance (prw t.mask h k' r')))):=by
 intro fuel
 induction fuel with
 |zero=>intro k r _ _ _ z;omega
 |succ f ih=>
  intro k r hr b hk hf
  unfold SetTable.probe.go
  show ∃k' r',_∧_∧_∧((_∧(match t.slot ((lpw t.mask h k).1+r) with
   |.empty=>some (SetTable.Met.empty ((lpw t.mask h k).1+r) none)
   |.dummy=>SetTable.probe.go t hashAt h f (t.advance { prw t.mask h k r with dummy:=some ((lpw t.mask h k).1+r) })
   |.live i=>if hashAt i == h then some (.candidate ((lpw t.mask h k).1+r) i (t.advance (prw t.mask h k r))) else SetTable.probe.go t hashAt h f (t.advance (prw t.mask h k r)))=_)∨∃i,_∧_∧_∧(match t.slot ((lpw t.mask h k).1+r) with
   |.empty=>some (SetTable.Met.empty ((lpw t.mask h k).1+r) none)
   |.dummy=>SetTable.probe.go t hashAt h f (t.advance { prw t.mask h k r with dummy:=some ((lpw t.mask h k).1+r) })
   |.live i=>if hashAt i == h then some (.candidate ((lpw t.mask h k).1+r) i (t.advance (prw t.mask h k r))) else SetTable.probe.go t hashAt h f (t.advance (prw t.mask h k r)))=_)
  rcases yqm R hd ((lpw t.mask h k).1+r) with ⟨i,hi,e⟩ | ⟨hn,e⟩
  ·rw[e]
   dsimp only
   have kK:k<K:=hk.elim id fun z=>by obtain ⟨rfl,rfl⟩:=z;exact absurd ⟨i,hi⟩ hK
   by_cases c:hashAt i=h
   ·rw[if_pos (by simpa using c)]
    exact⟨k,r,hr,b,Nat.le_refl _,.inr ⟨i,kK,hi,c,rfl⟩⟩
   ·rw[if_neg (by simpa using c)]
    have p:=hP i _ hi c
    have r9:=ywp t.mask (lpw t.mask h k).1
    by_cases cr:r<rlw t.mask (lpw t.mask h k).1
    ·rw[ypj cr]
     obtain ⟨k',r',q1,q2,q3,q4⟩:=ih k (r+1) cr (b.next p) (.inl kK) (by omega)
     exact⟨k',r',q1,q2,by omega,q4⟩
    ·rw[ypk (by omega)]
     obtain ⟨k',r',q1,q2,q3,q4⟩:=ih (k+1) 0 (Nat.zero_le _) (b.leap p (by omega)) (by omega) (by omega)
     exact⟨k',r',q1,q2,by omega,q4⟩
  ·rw[e]
   exact⟨k,r,hr,b,Nat.le_refl _,.inl ⟨hn,rfl⟩⟩
section
variable {prog:Program}{w:World}{A:Around}{E:Value→Shared→Prop}{s:Shared}
abbrev TKn (prog:Program)(w:World):HeapKind prog w (List Key):=tupleKind (ybq prog w)
def SetT (prog:Program)(w:World)(a:Addr)(xs:List (List Key×Addr))(h:Heap):Prop:=∃o es ep t,h.get? a=some o∧o.ExactSet∧o.data = .set es ep t∧es.size=xs.length∧
 (∀e∈es.toList,∃q∈xs,e=((TKn prog w).hash q.1,.ref q.2))∧(∀q∈xs,((TKn prog w).hash q.1,Value.ref q.2)∈es.toList)∧TabT es t
theorem yms {ks:List Key}{a:Addr}{n:Nat}{Q:Bool→Shared→Prop}(hk:(TKn prog w).is s.heap ks a)(h:Q false s):wpAny (model prog w) A (ofAClassStatement (n+1) (.ref a)) Q E s:=by
 have hT:s.TypeIs (.ref a) "tuple" := hk.typeIs
 obtain ⟨o,items,nn,ho,_,hd,hi⟩:=hk
 unfold ofAClassStatement
 refine zwb0 (wpAny_typeOf hT ?_)
 dsimp only
 refine zwb0 (zwp0 ?_)
 simp only[Bool.not_true,Bool.false_eq_true,if_false]
 refine zwb0 ?_
 unfold seqItems?
 refine zwb0 (wpAny_load ho ?_)
 rw[hd]
 refine zwp0 ?_
 dsimp only
 refine zwb0 ?_
 rw[← Array.forIn_toList]
 refine wpAny_forIn_list _ (fun rest r s'=>r.1=none∧s' = s∧∀v∈rest,(∃i t,v = .int i t)∨∃x t,v = .str x t) _ ?_ ?_ _ _ ⟨rfl,rfl,?_⟩
 ·rintro v rest r s' ⟨hr,rfl,hall⟩
  have e:ofAClassStatement n v=pure false:=by
   rcases hall v List.mem_cons_self with ⟨i,t,rfl⟩ | ⟨x,t,rfl⟩ <;> cases n <;> rfl
  rw[e]
  refine zwb0 (zwp0 ?_)
  simp only[Bool.false_eq_true,if_false]
  exact zwp0 ⟨rfl,rfl,fun u hu'=>hall u (List.mem_cons_of_mem _ hu')⟩
 ·rintro ⟨r1,r2⟩ s' ⟨hr,rfl,_⟩
  simp only at hr
  subst hr
  exact zwp0 h
 ·clear hd ho
  generalize items.toList=l at hi
  induction hi with
  |nil=>intro v hv;exact nomatch hv
  |cons hv _ ih=>
   intro u hu
   rcases List.mem_cons.mp hu with e|hu
   ·subst e
    rcases ybk hv with ⟨i,t,_,e⟩ | ⟨x,t,_,e⟩
    ·exact .inl ⟨i,t,e⟩
    ·exact .inr ⟨x,t,e⟩
   ·exact ih u hu
theorem yvq {ks:List Key}{p:Addr}{Q:Bool→Shared→Prop}(hk:(TKn prog w).is s.heap ks p):∀(ys:List Value),(∀y∈ys,∃q:List Key×Addr,(TKn prog w).is s.heap q.1 q.2∧y = .ref q.2)→Q false s→wpAny (model prog w) A (searchCouldBeSeen (.ref p) ys) Q E s:=by
 intro ys hy h
 unfold searchCouldBeSeen
 refine zwb0 ?_
 refine wpAny_forIn_list _ (fun rest r s'=>r.1=none∧s' = s∧∀y∈rest,∃q:List Key×Addr,(TKn prog w).is s.heap q.1 q.2∧y = .ref q.2) _ ?_ ?_ _ _ ⟨rfl,rfl,hy⟩
 ·rintro v rest r s' ⟨hr,rfl,hall⟩
  have fin:((none,()):Option Bool×Unit).1=none∧s'=s'∧∀y∈rest,∃q:List Key×Addr,(TKn prog w).is s'.heap q.1 q.2∧y = .ref q.2:=⟨rfl,rfl,fun u hu'=>hall u (List.mem_cons_of_mem _ hu')⟩
  obtain ⟨q,hq,rfl⟩:=hall v List.mem_cons_self
  dsimp only
  split
  ·exact zwp0 fin
  ·refine zwb0 ((TKn prog w).quiet hk ?_)
   simp only[Bool.not_true,Bool.false_eq_true,if_false]
   refine zwb0 ((TKn prog w).quiet hq ?_)
   simp only[Bool.not_true,Bool.false_eq_true,if_false]
   refine zwb0 (yms hk ?_)
   simp only[Bool.false_eq_true,if_false]
   refine zwb0 (yms hq ?_)
   simp only[Bool.false_eq_true,if_false]
   exact zwp0 fin
 ·rintro ⟨r1,r2⟩ s' ⟨hr,rfl,_⟩
  simp only at hr
  subst hr
  exact zwp0 h
def zab (prog:Program)(w:World)(t:SetTable)(es:Array (Int×Value))(xs:List (List Key×Addr))(ks:List Key)(j:Nat):Prop:=∃(i:Nat) (q:List Key×Addr),t.place[i]? = some j∧es[i]? = some ((TKn prog w).hash q.1,Value.ref q.2)∧q∈xs∧q.1≠ks
theorem yqp {a p:Addr}{o:Obj}{es:Array (Int×Value)}{ep:Nat}{t:SetTable}{ks:List Key}{xs:List (List Key×Addr)}{Q:SetFound→Shared→Prop}{K:Nat}(hu:A.units<cLine)(ho:s.heap.get? a=some o)(hd:o.data = .set es ep t)(T:TabT es t)
 (he:∀e∈es.toList,∃q∈xs,e=((TKn prog w).hash q.1,.ref q.2)) (hx:∀q∈xs,(TKn prog w).is s.heap q.1 q.2) (hk:(TKn prog w).is s.heap ks p) (hK:¬ Liv t.place (lpw t.mask ((TKn prog w).hash ks) K).1)
 (h1:(∃q∈xs,q.1=ks)→Q (.there none) s)
 (h2:∀k r,r≤rlw t.mask (lpw t.mask ((TKn prog w).hash ks) k).1→BefW t.mask ((TKn prog w).hash ks) (zab prog w t es xs ks) k r→¬ Liv t.place ((lpw t.mask ((TKn prog w).hash ks) k).1+r)→Q (.free ((lpw t.mask ((TKn prog w).hash ks) k).1+r) false) s) :
 ∀(n k r fuel:Nat) (stand:Option SetTable.Probe),stand.getD (t.probeStart ((TKn prog w).hash ks))=prw t.mask ((TKn prog w).hash ks) k r→r≤rlw t.mask (lpw t.mask ((TKn prog w).hash ks) k).1→BefW t.mask ((TKn prog w).hash ks) (zab prog w t es xs ks) k r→
  (k<K∨(k=K∧r=0))→10*(K-k)-r≤n→n<fuel→n<10*SetTable.turns t.mask→wpAny (model prog w) A (setSearchFrom a (.ref p) ((TKn prog w).hash ks) true fuel stand) Q E s:=by
 intro n
 induction n using Nat.strongRecOn with
 |_ n ih=>
  intro k r fuel stand hst hr b hkK hn hfu htu
  obtain ⟨f,rfl⟩ : ∃f,fuel=f+1:=⟨fuel-1,by omega⟩
  unfold setSearchFrom
  refine zwb0 (wpAny_setState_of ho hd T.fits ?_)
  dsimp only
  rw[T.gave]
  simp only[Bool.false_eq_true,if_false]
  rw[hst]
  have hsz:t.place.size=es.size:=T.sz
  have hP:∀(hashAt:Nat→Int),(∀(i:Nat) e,es[i]? = some e→hashAt i=e.1)→∀(i:Nat) j,t.place[i]? = some j→hashAt i≠(TKn prog w).hash ks→zab prog w t es xs ks j:=fun hashAt ha i j hi hne=>by
   have hlt:i<es.size:=by rw[← hsz];exact(Array.getElem?_eq_some_iff.mp hi).1
   obtain ⟨q,hq,e⟩:=he es[i] (Array.getElem_mem_toList hlt)
   refine⟨i,q,hi,by rw[Array.getElem?_eq_getElem hlt,e],hq,fun z=>hne ?_⟩
   rw[ha i _ (Array.getElem?_eq_getElem hlt),e,z]
  have key:∀(hashAt:Nat→Int),(∀(i:Nat) e,es[i]? = some e→hashAt i=e.1)→_:=fun hashAt ha=>ytj (t:=t) (hashAt:=hashAt) T.ris T.dum (hP hashAt ha) hK (10*SetTable.turns t.mask) k r hr b hkK (by omega)
  have ha0:∀(i:Nat) (e:Int×Value),es[i]? = some e→((es[i]?.map (·.1)).getD 0:Int)=e.1:=fun i e h=>by rw[h];rfl
  obtain ⟨k',r',hr',b',hm',c⟩:=key _ ha0
  have fin:∀(hashAt:Nat→Int),hashAt=(fun i=>((es[i]?.map (·.1)).getD 0:Int))→t.probe hashAt ((TKn prog w).hash ks) (prw t.mask ((TKn prog w).hash ks) k r)=SetTable.probe.go t (fun i=>((es[i]?.map (·.1)).getD 0:Int)) ((TKn prog w).hash ks) (10*SetTable.turns t.mask) (prw t.mask ((TKn prog w).hash ks) k r):=fun hashAt e=>by rw[e];rfl
  rw[fin]
  case a=>rfl
  rcases c with ⟨nl,e⟩ | ⟨i,kK,hi,hh,e⟩
  ·rw[e]
   exact zwp0 (h2 k' r' hr' b' nl)
  ·rw[e]
   dsimp only
   have hlt:i<es.size:=by rw[← hsz];exact(Array.getElem?_eq_some_iff.mp hi).1
   obtain ⟨q,hq,eq1⟩:=he es[i] (Array.getElem_mem_toList hlt)
   have ei:es[i]? = some ((TKn prog w).hash q.1,Value.ref q.2):=by rw[Array.getElem?_eq_getElem hlt,eq1]
   have hslot:=ymq T.ris hi
   have r9:=ywp t.mask (lpw t.mask ((TKn prog w).hash ks) k').1
   split
   any_goals
    refine zwb0 (yvq hk _ (fun y hy=>by
     obtain ⟨e0,m0,rfl⟩:=List.mem_map.mp hy
     obtain ⟨q0,hq0,rfl⟩:=he e0 (by rw[Array.toList_filter] at m0;exact(List.mem_filter.mp m0).1)
     exact⟨q0,hx q0 hq0,rfl⟩) ?_)
    simp only[Bool.false_eq_true,if_false]
   all_goals
    rw[ei]
    dsimp only
    refine zwb0 (wpAny_holding ((TKn prog w).eqBool hu (hx q hq) hk ?_))
    refine zwb0 (wpAny_setState_of ho hd T.fits ?_)
    dsimp only
    by_cases ce:q.1=ks
    ·rw[decide_eq_true ce]
     simp only[Bool.and_self,if_true]
     exact zwp0 (h1 ⟨q,hq,ce⟩)
    ·rw[decide_eq_false ce]
     have sm:t.sameMemory t.moves t.mask=some true:=by unfold SetTable.sameMemory;simp
     simp only[Bool.and_false,Bool.false_eq_true,if_false,sm,if_true,hslot,ei]
     refine zwb0 (wpAny_isSame_ref_self ?_)
     simp only[if_true]
     refine zwb0 (zwp0 ?_)
     dsimp only
     have pm:zab prog w t es xs ks ((lpw t.mask ((TKn prog w).hash ks) k').1+r'):=⟨i,q,hi,ei,hq,ce⟩
     by_cases cr:r' < rlw t.mask (lpw t.mask ((TKn prog w).hash ks) k').1
     ·exact ih (n-1) (by omega) k' (r' + 1) f _ (ypj cr) cr (b'.next pm) (.inl kK) (by omega) (by omega) (by omega)
     ·exact ih (n-1) (by omega) (k' + 1) 0 f _ (ypk (by omega)) (Nat.zero_le _) (b'.leap pm (by omega)) (by omega) (by omega) (by omega) (by omega)
theorem yqq {a p:Addr}{o:Obj}{es:Array (Int×Value)}{ep:Nat}{t:SetTable}{ks:List Key}{xs:List (List Key×Addr)}{Q:SetFound→Shared→Prop}(hu:A.units<cLine)(ho:s.heap.get? a=some o)(hd:o.data = .set es ep t)(T:TabT es t)
 (he:∀e∈es.toList,∃q∈xs,e=((TKn prog w).hash q.1,.ref q.2)) (he2:∀q∈xs,((TKn prog w).hash q.1,Value.ref q.2)∈es.toList) (hx:∀q∈xs,(TKn prog w).is s.heap q.1 q.2) (hk:(TKn prog w).is s.heap ks p)
 (h1:(∃q∈xs,q.1=ks)→Q (.there none) s)
 (h2:(∀q∈xs,q.1≠ks)→∀j,¬ Liv t.place j→OnW t.mask ((TKn prog w).hash ks) (Liv t.place) j→Q (.free j false) s):wpAny (model prog w) A (setSearch a (.ref p) ((TKn prog w).hash ks) true) Q E s:=by
 obtain ⟨e,hel,hne⟩:=yth (m:=t.mask) T.ris (by rw[T.sz];have:=T.few;omega)
 obtain ⟨K,hK,eK⟩:=T.full.reach ((TKn prog w).hash ks) hel
 have mk:t.mask≤127:=by rcases T.msk with z|z|z <;> omega
 unfold setSearch
 refine yqp (K:=K) hu ho hd T he hx hk (by rw[eK];exact hne) h1 (fun k r hr b nl=>h2 (fun q hq ce=>?_) _ nl ⟨k,r,hr,rfl,b.mono fun j ⟨i,_,hi,_⟩=>⟨i,hi⟩⟩) (10*K) 0 0 100000 none (ytf _ _) (Nat.zero_le _) BefW.zero (by omega) (by omega) (by omega) (by unfold SetTable.turns;omega)
 obtain ⟨i,hi⟩:=List.mem_iff_getElem?.mp (he2 q hq)
 rw[Array.getElem?_toList] at hi
 have hlt:i<t.place.size:=by rw[T.sz];exact(Array.getElem?_eq_some_iff.mp hi).1
 have hj:t.place[i]? = some t.place[i]:=Array.getElem?_eq_getElem hlt
 have o1:=T.on i _ _ hi hj
 rw[ce] at o1
 have:=yte hr b o1 nl (fun ⟨i2,q2,g1,g2,g3,g4⟩=>by
  have:=yvo T.ris g1 hj
  subst this
  rw[hi] at g2
  injection g2 with g2
  injection g2 with _ g5
  injection g5 with g5
  have y:=hx q hq
  rw[g5] at y
  exact g4 (by rw[← ce];exact(TKn prog w).inj (hx q2 g3) y))
 exact nl ⟨i,by rw[hj,this]⟩
end
theorem yvr (t:SetTable)(j:Nat):(t.put j).1.mask=t.mask:=rfl
theorem yzw (t:SetTable)(j:Nat):(t.put j).2=SetTable.below t.place j:=rfl
theorem ygm (t:SetTable)(j:Nat):(t.put j).1.place=SetTable.insertAt t.place (SetTable.below t.place j) j:=rfl
theorem yya {t:SetTable}{j:Nat}(h:t.dummies = #[]):(t.put j).1.dummies = #[]:=by
 show (if SetTable.has t.dummies j then _ else t.dummies)=_
 rw[h];rfl
structure TabU (es:Array (Int×Value)) (t:SetTable):Prop where
 dum:t.dummies = #[]
 ris:yji t.place
 sz:t.place.size=es.size
 on:∀(i:Nat) e j,es[i]? = some e→t.place[i]? = some j→OnW t.mask e.1 (Liv t.place) j
theorem TabU.put {es:Array (Int×Value)}{t:SetTable}(T:TabT es t){j:Nat}{h:Int}{v:Value}(nl:¬ Liv t.place j)(o:OnW t.mask h (Liv t.place) j):TabU (SetTable.insertAt es (SetTable.below t.place j) (h,v)) (t.put j).1:=by
 obtain ⟨b1,_⟩:=ygi T.ris j
 have b2:SetTable.below t.place j≤es.size:=by rw[← T.sz];exact b1
 have grow:∀x,Liv t.place x→Liv (t.put j).1.place x:=fun x ⟨i,hi⟩=>by
  rw[ygm]
  by_cases c:i<SetTable.below t.place j
  ·exact⟨i,by rw[yci _ _ _ b1,if_pos c];exact hi⟩
  ·exact⟨i+1,by rw[yci _ _ _ b1,if_neg (by omega),if_neg (by omega),Nat.add_sub_cancel];exact hi⟩
 refine⟨yya T.dum,by rw[ygm];exact yig T.ris (fun e=>nl ⟨_,e⟩),by rw[ygm,ye1 _ _ _ b1,ye1 _ _ _ b2,T.sz],fun i e x hi hx=>?_⟩
 rw[yvr]
 refine OnW.mono ?_ grow
 rw[ygm,yci _ _ _ b1] at hx
 rw[yci _ _ _ b2] at hi
 by_cases c:i<SetTable.below t.place j
 ·rw[if_pos c] at hx hi
  exact T.on i e x hi hx
 ·rw[if_neg c] at hx hi
  by_cases c2:i=SetTable.below t.place j
  ·rw[if_pos c2] at hx hi
   cases hx;cases hi
   exact o
  ·rw[if_neg c2] at hx hi
   exact T.on _ e x hi hx
theorem ymt {α:Type}{xs:Array α}{p:Nat}{x y:α}(hp:p≤xs.size):y∈(SetTable.insertAt xs p x).toList↔y=x∨y∈xs.toList:=by
 rw[List.mem_iff_getElem?,List.mem_iff_getElem?]
 constructor
 ·rintro ⟨i,e⟩
  rw[Array.getElem?_toList,yci _ _ _ hp] at e
  by_cases c:i<p
  ·rw[if_pos c] at e;exact .inr ⟨i,by rw[Array.getElem?_toList];exact e⟩
  ·rw[if_neg c] at e
   by_cases c2:i=p
   ·rw[if_pos c2] at e;cases e;exact .inl rfl
   ·rw[if_neg c2] at e;exact .inr ⟨i-1,by rw[Array.getElem?_toList];exact e⟩
 ·rintro (rfl|⟨i,e⟩)
  ·exact⟨p,by rw[Array.getElem?_toList,yci _ _ _ hp,if_neg (by omega),if_pos rfl]⟩
  ·rw[Array.getElem?_toList] at e
   by_cases c:i<p
   ·exact⟨i,by rw[Array.getElem?_toList,yci _ _ _ hp,if_pos c];exact e⟩
   ·exact⟨i+1,by rw[Array.getElem?_toList,yci _ _ _ hp,if_neg (by omega),if_neg (by omega),Nat.add_sub_cancel];exact e⟩
theorem ytk {es:Array (Int×Value)}{t:SetTable}{n:Nat}(hm:SetTable.sizeAbove n-1=31∨SetTable.sizeAbove n-1=127)(hf:es.size*5<(SetTable.sizeAbove n-1)*3) :
 ∃t' order,t.relaid (es.map (·.1)) n=some (t',order)∧TabT (order.filterMap (es[·]?)) t'∧(order.filterMap (es[·]?)).size=es.size∧∀e,e∈(order.filterMap (es[·]?)).toList↔e∈es.toList:=by
 have F:FullW (SetTable.sizeAbove n-1):=hm.elim (fun e=>by rw[e];exact ywr) fun e=>by rw[e];exact ytd
 have hz:(es.map (·.1)).size=es.size:=Array.size_map
 obtain ⟨t',order,e,h1,h2,_,_,h3,h4,h5,h6,h7⟩:=yx9 (fi:=t.finger) (mv:=t.movedTo (SetTable.sizeAbove n-1)) (led:=t.led) (pl:=t.plain) F (es.map (·.1)) (by omega)
 have low:∀k∈order.toList,k<es.size:=fun k hk=>by
  obtain ⟨i,hi⟩:=List.mem_iff_getElem?.mp hk
  obtain ⟨_,h,_,q,_⟩:=h6 i k (by rw[Array.getElem?_toList] at hi;exact hi)
  rw[← hz];exact(Array.getElem?_eq_some_iff.mp q).1
 have fm:(order.filterMap (es[·]?)).toList=order.toList.map fun k=>es.getD k (0,.none):=by
  rw[Array.toList_filterMap]
  generalize order.toList=l at low
  induction l with
  |nil=>rfl
  |cons k l ih=>
   have hk:=low k (.head _)
   rw[List.filterMap_cons,Array.getElem?_eq_getElem hk]
   dsimp only
   rw[ih fun x hx=>low x (.tail _ hx),List.map_cons,Array.getD_eq_getD_getElem?,Array.getElem?_eq_getElem hk]
   rfl
 have sz:(order.filterMap (es[·]?)).size=es.size:=by rw[← Array.length_toList,fm,List.length_map,Array.length_toList,h5,hz]
 have at':∀i e',(order.filterMap (es[·]?))[i]? = some e'→∃k,order[i]? = some k∧es[k]? = some e':=fun i e' hi=>by
  rw[← Array.getElem?_toList,fm,List.getElem?_map] at hi
  obtain ⟨k,q1,q2⟩:=Option.map_eq_some_iff.mp hi
  have hk:=low k (List.mem_of_getElem? q1)
  rw[Array.getElem?_toList] at q1
  refine⟨k,q1,?_⟩
  rw[Array.getD_eq_getD_getElem?,Array.getElem?_eq_getElem hk] at q2
  rw[Array.getElem?_eq_getElem hk]
  exact congrArg some q2
 refine⟨t',order,e,⟨h2,h3,by rw[h4,sz,hz],by rw[h1];exact .inr hm,by rw[sz,h1];exact hf,fun i e' j hi hj=>?_⟩,sz,fun e'=>⟨fun m=>?_,fun m=>?_⟩⟩
 ·obtain ⟨k,q1,q2⟩:=at' i e' hi
  obtain ⟨j2,h,q3,q4,q5⟩:=h6 i k q1
  rw[hj] at q3
  cases q3
  rw[Array.getElem?_map,q2] at q4
  cases q4
  rw[h1];exact q5
 ·obtain ⟨i,hi⟩:=List.mem_iff_getElem?.mp m
  obtain ⟨k,_,q2⟩:=at' i e' (by rw[Array.getElem?_toList] at hi;exact hi)
  exact List.mem_iff_getElem?.mpr ⟨k,by rw[Array.getElem?_toList];exact q2⟩
 ·obtain ⟨k,hk⟩:=List.mem_iff_getElem?.mp m
  rw[Array.getElem?_toList] at hk
  obtain ⟨hlt,hv⟩:=Array.getElem?_eq_some_iff.mp hk
  obtain ⟨i,hi⟩:=h7 k (by rw[hz];exact hlt)
  rw[fm]
  refine List.mem_map.mpr ⟨k,List.mem_iff_getElem?.mpr ⟨i,by rw[Array.getElem?_toList];exact hi⟩,?_⟩
  rw[Array.getD_eq_getD_getElem?,hk]
  rfl
section
variable {prog:Program}{w:World}{A:Around}{E:Value→Shared→Prop}{s:Shared}
theorem yqr {ks:List Key}{l:List Value}(hi:PySem.ItemsAre (ybq prog w) ks l):∀v∈l,(∃i t,v = .int i t)∨∃x t,v = .str x t:=by
 induction hi with
 |nil=>intro v hv;exact nomatch hv
 |cons hv _ ih=>
  intro u hu
  rcases List.mem_cons.mp hu with e|hu
  ·subst e
   rcases ybk hv with ⟨i,t,_,e⟩ | ⟨x,t,_,e⟩
   ·exact .inl ⟨i,t,e⟩
   ·exact .inr ⟨x,t,e⟩
  ·exact ih u hu
theorem yvs {ks:List Key}{p:Addr}{n:Nat}{Q:Bool→Shared→Prop}(hk:(TKn prog w).is s.heap ks p)(h:∀b,Q b s):wpAny (model prog w) A (hashByValue (n+1) (.ref p)) Q E s:=by
 have hT:s.TypeIs (.ref p) "tuple" := hk.typeIs
 obtain ⟨o,items,nn,ho,_,hd,hi⟩:=hk
 unfold hashByValue
 refine zwb0 (wpAny_specialOf hT F.slot_tuple_hash.lookup ?_)
 split
 ·refine zwb0 ?_
  unfold seqItems?
  refine zwb0 (wpAny_load ho ?_)
  rw[hd]
  refine zwp0 ?_
  dsimp only [Option.getD]
  refine zwb0 ?_
  rw[← Array.forIn_toList]
  refine wpAny_forIn_list _ (fun rest r s'=>s' = s∧∀v∈rest,(∃i t,v = .int i t)∨∃x t,v = .str x t) _ ?_ ?_ _ _ ⟨rfl,yqr hi⟩
  ·rintro v rest r s' ⟨rfl,hall⟩
   have e:∃b,hashByValue n v=pure b:=by
    rcases hall v List.mem_cons_self with ⟨i,t,rfl⟩ | ⟨x,t,rfl⟩ <;> cases n <;> exact⟨_,rfl⟩
   obtain ⟨b,e⟩:=e
   rw[e]
   refine zwb0 (zwp0 ?_)
   split
   ·exact zwp0 (zwp0 (h _))
   ·exact zwp0 ⟨rfl,fun u hu'=>hall u (List.mem_cons_of_mem _ hu')⟩
  ·rintro ⟨r1,r2⟩ s' ⟨rfl,_⟩
   dsimp only
   split <;> exact zwp0 (h _)
 ·rename_i heq;simp at heq
 ·rename_i heq;simp at heq
 ·exact zwp0 (h _)
 ·exact zwp0 (h _)
theorem ypm {a:Addr}{o:Obj}{es es':Array (Int×Value)}{ep:Nat}{t t':SetTable}{h:Heap}(ho:h.get? a=some o)(hd:o.data = .set es ep t):(h.update a (Obj.putSet es' t')).get? a=some { o with data:=.set es' (ep+1) t' }:=by
 have:=Heap.get?_update_self (Obj.putSet es' t') ho (by rw[putSet_of es' t' hd];rfl)
 rw[putSet_of es' t' hd] at this
 exact this
theorem ypn {a p:Addr}{ks:List Key}{xs:List (List Key×Addr)}{Q:Bool→Shared→Prop}(hu:A.units<cLine)(S:SetT prog w a xs s.heap)(hx:∀q∈xs,(TKn prog w).is s.heap q.1 q.2)(hk:(TKn prog w).is s.heap ks p)(hn:xs.length<76)
 (h:∀b h' tk xs',s.toks≤tk→Heap.SameBut a s.heap h'→SetT prog w a xs' h'→((∃q∈xs,q.1=ks)∧xs'=xs∨(∀q∈xs,q.1≠ks)∧xs'=xs++[(ks,p)])→Q b { s with heap:=h',toks:=tk }):wpAny (model prog w) A (setAdd a (.ref p)) Q E s:=by
 unfold setAdd
 refine wpAny_holding (zwb0 ((TKn prog w).pyHash hu hk ?_))
 obtain ⟨o,es,ep,t,ho,hex,hd,hsz,he,he2,T⟩:=S
 unfold setAddHashed setAddHashedIn
 refine wpAny_holding (zwb0 (wpAny_setState_of (s:={ s with toks:=s.toks+(TKn prog w).draws ks }) ho hd T.fits ?_))
 dsimp only
 rw[show byScan (.ref p) es=false from rfl]
 simp only[Bool.false_eq_true,if_false]
 refine zwb0 (yqq (s:={ s with toks:=s.toks+(TKn prog w).draws ks }) hu ho hd T he he2 hx hk (fun hin=>?_) fun hno j nl on=>?_)
 ·dsimp only
  exact zwp0 (h _ s.heap _ xs (Nat.le_add_right _ _) (Heap.SameBut.refl a s.heap) ⟨o,es,ep,t,ho,hex,hd,hsz,he,he2,T⟩ (.inl ⟨hin,rfl⟩))
 ·dsimp only
  refine zwb0 (wpAny_setState_of (s:={ s with toks:=s.toks+(TKn prog w).draws ks }) ho hd T.fits ?_)
  dsimp only
  have U:=TabU.put (v:=.ref p) T nl on
  rw[yzw]
  have b2:SetTable.below t.place j≤es.size:=by rw[← T.sz];exact(ygi T.ris j).1
  have sz1:(SetTable.insertAt es (SetTable.below t.place j) ((TKn prog w).hash ks,Value.ref p)).size=es.size+1:=ye1 _ _ _ b2
  have me:∀e,e∈(SetTable.insertAt es (SetTable.below t.place j) ((TKn prog w).hash ks,Value.ref p)).toList↔e=((TKn prog w).hash ks,Value.ref p)∨e∈es.toList:=fun e=>ymt b2
  have hm:=T.msk
  have hf:=T.few
  generalize SetTable.insertAt es (SetTable.below t.place j) ((TKn prog w).hash ks,Value.ref p)=es1 at U sz1 me ⊢
  have all1:∀es2:Array (Int×Value),(∀e,e∈es2.toList↔e∈es1.toList)→(∀e∈es2.toList,∃q∈xs++[(ks,p)],e=((TKn prog w).hash q.1,.ref q.2))∧(∀q∈xs++[(ks,p)],((TKn prog w).hash q.1,Value.ref q.2)∈es2.toList):=fun es2 m2=>by
   refine⟨fun e hm=>?_,fun q hq=>?_⟩
   ·rcases (me e).mp ((m2 e).mp hm) with z|z
    ·exact⟨(ks,p),by simp,z⟩
    ·obtain ⟨q,hq,e1⟩:=he e z
     exact⟨q,List.mem_append_left _ hq,e1⟩
   ·refine(m2 _).mpr ((me _).mpr ?_)
    rcases List.mem_append.mp hq with z|z
    ·exact .inr (he2 q z)
    ·rw[List.mem_singleton.mp z];exact .inl rfl
  have put:∀t2:SetTable,TabU es1 t2→t2.mask=t.mask→wpAny (model prog w) A (do
   storeSet a es1 t2
   if (!false&&t2.tooFull)=true then do
    setRelay a (SetTable.grown (es.size+1))
    pure true
    else pure true) Q E { s with toks:=s.toks+(TKn prog w).draws ks }:=fun t2 U2 m2=>by
   have mk:t2.mask=7∨t2.mask=31∨t2.mask=127:=by rw[m2];exact hm
   have small:es1.size≤t2.mask:=by rw[sz1,m2];omega
   have ft:t2.fits es1.size=true:=by
    simp only[SetTable.fits,SetTable.fill,U2.dum,U2.sz,Bool.and_eq_true,beq_iff_eq,decide_eq_true_eq]
    exact⟨trivial,by simpa using small⟩
   have tf:t2.tooFull=decide (t.mask*3≤(es.size+1)*5):=by
    unfold SetTable.tooFull SetTable.fill
    rw[U2.dum,U2.sz,sz1,m2];rfl
   refine zwb0 (wpAny_storeSet_of ho hd ?_ (fits_of_scanBound (by rw[sz1];unfold scanBound;omega)))
   have o1:=ypm (es':=es1) (t':=t2) ho hd
   have u1:=Heap.SameBut.update s.heap a (Obj.putSet es1 t2)
   rw[tf]
   by_cases c:t.mask*3≤(es.size+1)*5
   ·rw[decide_eq_true c]
    simp only[Bool.not_false,Bool.and_self,if_true]
    have hg:(SetTable.sizeAbove (SetTable.grown (es.size+1))-1=31∨SetTable.sizeAbove (SetTable.grown (es.size+1))-1=127)∧(es.size+1)*5<(SetTable.sizeAbove (SetTable.grown (es.size+1))-1)*3:=by
     rcases hm with z|z|z
     ·have e4:es.size=4:=by omega
      rw[e4];decide
     ·have e4:es.size=18:=by omega
      rw[e4];decide
     ·omega
    obtain ⟨t3,order,e3,T3,s3,m3⟩:=ytk (es:=es1) (t:=t2) hg.1 (by rw[sz1];exact hg.2)
    unfold setRelay
    refine zwb0 (zwb0 (wpAny_setState_of o1 rfl ft ?_))
    dsimp only
    rw[if_neg (by unfold sizeLine;rcases hg.1 with z|z <;> omega),e3]
    have re:∀c:Bool,c=((order.filterMap (es1[·]?)).size != es1.size)→c=false:=fun c z=>by rw[z,s3];simp
    refine zwb0 (wpAny_of_eq (show _=pure (order.filterMap (es1[·]?),t3) from ?_) ?_)
    ·change (if ((order.filterMap (es1[·]?)).size != es1.size)=true then _ else _)=_
     rw[re _ rfl]
     simp only[Bool.false_eq_true,if_false]
    ·dsimp only
     refine wpAny_storeSet_of o1 rfl ?_ (fits_of_scanBound (by rw[s3,sz1];unfold scanBound;omega))
     have o2:=ypm (es':=order.filterMap (es1[·]?)) (t':=t3) o1 rfl
     obtain ⟨a1,a2⟩:=all1 (order.filterMap (es1[·]?)) m3
     exact zwp0 (h _ _ _ _ (Nat.le_add_right _ _) (u1.trans (Heap.SameBut.update _ a _)) ⟨_,_,_,t3,o2,hex,rfl,by rw[s3,sz1,hsz,List.length_append];rfl,a1,a2,T3⟩ (.inr ⟨hno,rfl⟩))
   ·rw[decide_eq_false c]
    simp only[Bool.and_false,Bool.false_eq_true,if_false]
    obtain ⟨a1,a2⟩:=all1 es1 fun e=>Iff.rfl
    exact zwp0 (h _ _ _ _ (Nat.le_add_right _ _) u1 ⟨_,es1,ep+1,t2,o1,hex,rfl,by rw[sz1,hsz,List.length_append];rfl,a1,a2,⟨U2.dum,U2.ris,U2.sz,mk,by rw[sz1,m2];omega,U2.on⟩⟩ (.inr ⟨hno,rfl⟩))
  split
  ·refine zwb0 (yvs hk fun b=>?_)
   refine put _ ?_ ?_
   ·cases b
    ·exact⟨U.dum,U.ris,U.sz,U.on⟩
    ·exact U
   ·cases b <;> rfl
  ·exact zwb0 (zwp0 (put _ U rfl))
end
def HT (prog:Program)(w:World)(a:Addr)(xs:List (List Key×Addr)):HO:=.ext (SetT prog w a xs)
theorem SetT.keep {prog:Program}{w:World}{a:Addr}{xs:List (List Key×Addr)}{h h':Heap}(S:SetT prog w a xs h)(k:∀o,h.get? a=some o→h'.get? a=some o):SetT prog w a xs h':=let ⟨o,es,ep,t,ho,r⟩:=S;⟨o,es,ep,t,k o ho,r⟩
theorem yyb {P Q:Program}{w:World}{H:Hp}{h:Heap}{a:Addr}{xs:List (List Key×Addr)}(S:SetT Q w a xs h):ObjOk P w H h a (HT Q w a xs):=⟨S,(let ⟨o,_,_,_,ho,_⟩:=S;⟨o,ho⟩),fun h1 h2 S1 k=>S1.keep k⟩
theorem yzx {X:Cx}{pins:List (Addr×Obj)}{σ:St}{H:Hp}{s:Shared}{a:Addr}{xs:List (List Key×Addr)}(I:Inv X pins σ H s)(e:H a=some (HT X.prog X.w a xs)):SetT X.prog X.w a xs s.heap:=(show ObjOk X.prog X.w H s.heap a (HT X.prog X.w a xs) from I.hok a _ e).1
def yvt (xs:List (List Key×Addr))(ks:List Key)(p:Addr)(xs':List (List Key×Addr)):Prop:=(∃q∈xs,q.1=ks)∧xs'=xs∨(∀q∈xs,q.1≠ks)∧xs'=xs++[(ks,p)]
def TupsT (H:Hp)(xs:List (List Key×Addr)):Prop:=∀q∈xs,H q.2=some (.tup (q.1.map kV))
theorem yvu {prog:Program}{w:World}{A:Around}{E:Value→Shared→Prop}{s:Shared}{Q:Value→Shared→Prop} (h:∀h',(∀b o,s.heap.get? b=some o→h'.get? b=some o)→h'.objs.size=s.heap.objs.size+1→SetT prog w s.heap.objs.size [] h'→Q (.ref s.heap.objs.size) { s with heap:=h' }):wpAny (model prog w) A (newSet (.type "set")) Q E s:=by
 unfold newSet setsByText
 refine zwb0 (zwb0 (wpAny_askSetting (zwp0 ?_)))
 dsimp only
 simp only[newObj]
 refine zwb0 (wpAny_alloc (zwp0 (h _ (fun b o e=>Heap.get?_push_of_some _ e) (Heap.size_push ..) ⟨_,#[],0,_,Heap.get?_push_size _ rfl,⟨rfl,rfl,rfl⟩,rfl,rfl,(fun e he=>by simp at he),(fun q hq=>by simp at hq),⟨rfl,(fun i j hi=>by simp [SetTable.fresh] at hi),rfl,.inl rfl,(show 0*5<7*3 by decide),(fun i e j hi=>by simp at hi)⟩⟩)))
theorem za1 {X:Cx}{pins:List (Addr×Obj)}{σ:St}{H:Hp}{s:Shared}{a p:Addr}{xs:List (List Key×Addr)}{ks:List Key}{A:Around}{E:Value→Shared→Prop}{Q:Value→Shared→Prop}(hu:A.units+1<cLine)(I:Inv X pins σ H s)(e:H a=some (HT X.prog X.w a xs))(hp:H p=some (.tup (ks.map kV)))(hq:TupsT H xs)(hn:xs.length<76)
 (h:∀xs' s',yvt xs ks p xs'→Inv X pins σ (upd H a (HT X.prog X.w a xs')) s'→Q .none s'):wpAny (model X.prog X.w) A (call (.builtin "set.add") [.ref a,.ref p]) Q E s:=by
 have S:=yzx I e
 have hT:s.TypeIs (.ref a) "set" := let ⟨o,_,_,_,ho,hc,_⟩:=S;⟨o,ho,hc.1⟩
 refine wpAny_call_entry PySem.F.slot_set_add hT PySem.F.entry_set_add ?_ (PySem.F.args_set_add_2 _ _)
 unfold Builtin.«set.add» Builtin.Frozenset.oneOther
 simp only[List.isEmpty_nil,bind_assoc]
 unfold Builtin.Frozenset.addrOf
 refine zwb0 (zwp0 ?_)
 try dsimp only
 refine zwb0 (zwp0 ?_)
 try dsimp only
 refine zwb0 (ypn (show A.in1.units<cLine from hu) S (fun q hq'=>yj0 I.hok (hq q hq')) (yj0 I.hok hp) hn fun b h' tk xs' _ sb S' ii=>?_)
 exact zwp0 ⟨_,rfl,h xs' _ ii (yif I (by rw[e];exact True.intro) sb (let ⟨o,_,_,_,ho,_⟩:=S';⟨o,ho⟩) (yyb S'))⟩
section
variable {X:Cx}{N':List Str}{ix:List (Option Nat)}{scope:Scope}{elt tg iter:Expr}{ifs:List Expr}{pos:PySem.Pos}{wi:TI}{g:TG}{ti:TT}{te:TE}
def yyc (prog:Program)(w:World)(ix:List (Option Nat))(wi:TI)(g:TG)(ti:TT)(te:TE):TE:=fun σ H Q=>wi σ H fun J H1=>∀D,H1 D=none→∃W:Nat→Nat→Hp→Prop,(∃m,W 0 m (upd H1 D (HT prog w D [])))∧∀i m H,W i m H→
 (J.stop i H∧Q (.ref D) H)∨(J.go i H∧∀x H',J.yld i H x H'→g x (ybe ix σ) H' fun σ2 H2=>(∀(k:Nat) v,(ybe ix σ)[k]? = some (some v)→σ2[k]? = some (some v))∧ti σ2 H2 fun b H3=>
  if b=true then te σ2 H3 fun y H4=>∃xs ks p,H4 D=some (HT prog w D xs)∧y = .ref p∧H4 p=some (.tup (List.map kV ks))∧TupsT H4 xs∧xs.length<76∧∃m',m' < m∧∀xs',yvt xs ks p xs'→W (i+1) m' (upd H4 D (HT prog w D xs')) else ∃m',m' < m∧W (i+1) m' H3)
theorem yoh {X':Cx}{σ₀:St}{H:Hp}{s:Shared}{Q:VK}{it D:Addr}{fp:List Addr}{tn:Nat→Heap→Prop}{J:It}{W:Nat→Nat→Hp→Prop}{m0:Nat}(hu:X'.A.units+1<cLine)(I:Inv X' [] σ₀ H s)(hcalm:X'.calm=true)(hxe:X'.xe=fun _ _=>False)
 (T:Turn X'.prog X'.w X'.K tg J fp it tn) (st:tn 0 s.heap) (hf:∀b∈fp,ye8 X' [] H b) (hg:PG X' tg g) (hi:PIfs X' ifs ti) (he:PE X' elt te) (w0:W 0 m0 H)
 (turn:∀i m H,W i m H→(J.stop i H∧Q (.ref D) H)∨(J.go i H∧∀x H',J.yld i H x H'→g x σ₀ H' fun σ2 H2=>(∀(k:Nat) v,σ₀[k]? = some (some v)→σ2[k]? = some (some v))∧ti σ2 H2 fun b H3=>
  if b=true then te σ2 H3 fun y H4=>∃xs ks p,H4 D=some (HT X'.prog X'.w D xs)∧y = .ref p∧H4 p=some (.tup (List.map kV ks))∧TupsT H4 xs∧xs.length<76∧∃m',m' < m∧∀xs',yvt xs ks p xs'→W (i+1) m' (upd H4 D (HT X'.prog X'.w D xs')) else ∃m',m' < m∧W (i+1) m' H3)) :
 codeAny (model X'.prog X'.w) X'.A (.compStart (.SetComp elt [⟨tg,iter,ifs,0⟩] scope pos) 0 (.ref it) (.ref D) X'.env) (fun r s'=>(∃f,r = .ok f)∧∃H',Inv X' [] σ₀ H' s'∧Q (.ref D) H') s:=by
 have stat:∀{H':Hp},(∀b∈fp,H' b=none)→∀b∈fp,ye8 X' [] H' b:=fun hn b hb=>⟨hn b hb,(hf b hb).2⟩
 have loop:codeAny (model X'.prog X'.w) X'.A (.compLoop (.SetComp elt [⟨tg,iter,ifs,0⟩] scope pos) 0 (.ref it) (.ref D) X'.env) (fun r s'=>(∃f,r = .ok f)∧∃H',Inv X' [] σ₀ H' s'∧Q (.ref D) H') s:=by
  refine codeAny_loop rfl (fun n s'=>∃i H',Inv X' [] σ₀ H' s'∧tn i s'.heap∧(∀b∈fp,H' b=none)∧W i n H') ?_ m0 ⟨0,H,I,st,fun b hb=>(hf b hb).1,w0⟩
  rintro n s1 ⟨i,H1,I1,st1,fr1,w1⟩
  show wpAny _ X'.A ((compTurn (.SetComp elt [⟨tg,iter,ifs,0⟩] scope pos) 0 (.ref it) (.ref D) X'.env).onRaise (fun x=>do noteFrame x X'.env;theTreesLotGoes x)) _ _ s1
  refine wpAny_noted ?_
  have noE:∀{α:Type}{t:Sem α}{P:α→Shared→Prop}{F:Value→Shared→Prop}{s:Shared},wpAny (model X'.prog X'.w) X'.A t P X'.xe s→wpAny (model X'.prog X'.w) X'.A t P F s:=fun h=>wpAny_mono h (fun _ _ x=>x) fun e s' x=>by rw[hxe] at x;exact x.elim
  rw[yhe]
  refine zwb0 (wpAny_standAt (zwb0 ?_))
  rcases turn i n H1 w1 with ⟨stop,qn⟩ | ⟨go,step⟩
  ·refine thn (T.done X' rfl rfl rfl hcalm i [] s1 σ₀ H1 _ I1 (stat fr1) st1 stop) fun r s2 ⟨hr,I2⟩=>?_
   subst hr
   exact zwp0 ⟨⟨_,rfl⟩,H1,I2,qn⟩
  ·refine thn (T.item X' rfl rfl rfl hcalm i [] s1 σ₀ H1 _ I1 (stat fr1) st1 go) fun r s2 ⟨u,hr,h2⟩=>?_
   subst hr
   refine zwb0 (thn h2 fun _ s3 ⟨x,H3,I3,r3,y3,st3,fr3⟩=>?_)
   have I3':=I3.pinned (stat fr3) (T.obj _ _ st3)
   refine zwb0 (noE (thn (hg _ s3 σ₀ H3 x u _ I3' r3 (step x H3 y3)) fun _ s4 ⟨σ4,H4,I4,hk4,q4⟩=>?_))
   refine zwb0 (noE (thn (hi _ s4 σ4 H4 _ I4 q4) fun ok s5 ⟨H5,I5,q5⟩=>?_))
   have again':∀{s7:Shared}{H7:Hp}{m':Nat},Inv X' ([]++yf0 fp s3.heap) σ4 H7 s7→m' < n→W (i+1) m' H7→∃m,m<n∧∃i H',Inv X' [] σ₀ H' s7∧tn i s7.heap∧(∀b∈fp,H' b=none)∧W i m H':=fun {s7 H7 m'} I7 hm w7=>by
    refine⟨m',hm,i+1,H7,I7.unpinned.weak (by rw[I3.len,I7.len]) hk4,T.keep _ _ _ st3 fun b hb o e=>(I7.pin (b,o) (List.mem_append_right _ (List.mem_append_right _ (yba hb e)))).1,fun b hb=>?_,w7⟩
    obtain ⟨o,e,d⟩:=T.obj _ _ st3 b hb
    exact(I7.pin (b,o) (List.mem_append_right _ (List.mem_append_right _ (yba hb e)))).2.1
   cases ok with
   |false=>
    obtain ⟨m',hm,w7⟩:=q5
    exact zwp0 ⟨rfl,again' I5 hm w7⟩
   |true=>
    refine zwb0 (zwb0 (noE (thn (he _ s5 σ4 H5 _ I5 q5) fun y s6 ⟨yv,H6,I6,r6,xs6,ks6,p6,hD,ey,hp6,hq6,hz,m',hm,w7⟩=>?_)))
    subst ey
    cases (show y=Value.ref p6 from r6)
    refine zwb0 (wpAny_standAt (zwb0 ?_))
    exact za1 hu I6 hD hp6 hq6 hz fun xs8 s8 ii I8=>zwp0 (zwp0 ⟨rfl,again' I8 hm (w7 _ ii)⟩)
 refine ygj loop (T.self _ 0 s _ _ st loop)
theorem ymu {pins:List (Addr×Obj)}{σ:St}{H:Hp}{s:Shared}{Q:VK}{it:Addr}{fp:List Addr}{tn:Nat→Heap→Prop}{J:It}{E:Value→Shared→Prop}(hu:X.A.units+1<cLine)(I:Inv X pins σ H s)(hcalm:X.calm=true)(S:CompScope X N' ix scope)
 (T:Turn X.prog X.w X.K tg J fp it tn) (st:tn 0 s.heap) (hf:∀b∈fp,ye8 X pins H b)
 (hg:∀C s H fp,PG (yat X N' scope C s H fp) tg g) (hi:∀C s H fp,PIfs (yat X N' scope C s H fp) ifs ti) (he:∀C s H fp,PE (yat X N' scope C s H fp) elt te)
 (h:∀D,H D=none→∃W:Nat→Nat→Hp→Prop,(∃m,W 0 m (upd H D (HT X.prog X.w D [])))∧∀i m H,W i m H→
  (J.stop i H∧Q (.ref D) H)∨(J.go i H∧∀x H',J.yld i H x H'→g x (ybe ix σ) H' fun σ2 H2=>(∀(k:Nat) v,(ybe ix σ)[k]? = some (some v)→σ2[k]? = some (some v))∧ti σ2 H2 fun b H3=>
   if b=true then te σ2 H3 fun y H4=>∃xs ks p,H4 D=some (HT X.prog X.w D xs)∧y = .ref p∧H4 p=some (.tup (List.map kV ks))∧TupsT H4 xs∧xs.length<76∧∃m',m' < m∧∀xs',yvt xs ks p xs'→W (i+1) m' (upd H4 D (HT X.prog X.w D xs')) else ∃m',m' < m∧W (i+1) m' H3)) :
 wpAny (model X.prog X.w) X.A (newSet (.type "set")) (fun acc s3=>wpAny (model X.prog X.w) X.A (newFunctionEnv scope X.env.globals (ygo X.env scope.names []) [] X.env.qual none .none (some X.env)) (fun cenv s4 =>
  codeAny (model X.prog X.w) X.A (.compStart (.SetComp elt [⟨tg,iter,ifs,0⟩] scope pos) 0 (.ref it) acc { cenv with scope:=relabel scope X.env }) (yhy X pins σ Q acc cenv.locals) s4) E s3) E s:=by
 refine yvu (w:=X.w) fun h3 kk hsz S3=>?_
 have fresh0:H s.heap.objs.size=none:=I.hok.fresh (Nat.le_refl _)
 obtain ⟨W,⟨m0,w0⟩,turn⟩:=h s.heap.objs.size fresh0
 have lt0:∀b∈fp,b<s.heap.objs.size:=fun b hb=>by obtain ⟨o,e,_⟩:=T.obj 0 _ st b hb;exact Heap.lt_size e
 generalize hD:s.heap.objs.size=D at *
 have I3:Inv X pins σ (upd H D (HT X.prog X.w D [])) { s with heap:=h3 }:=I.laid (a:=D) (o:=HT X.prog X.w D []) (t':=s.toks) kk (Nat.le_of_eq hD) (yyb S3)
 have hf3:∀b∈fp,ye8 X pins (upd H D (HT X.prog X.w D [])) b:=fun b hb=>by
  obtain ⟨f0,fr⟩:=hf b hb
  exact⟨by rw[yak (Nat.ne_of_lt (lt0 b hb))];exact f0,fr⟩
 have st3:tn 0 h3:=T.keep _ _ _ st fun b hb o e=>kk b o e
 have lt3:∀b∈fp,b<h3.objs.size:=fun b hb=>by obtain ⟨o,e,_⟩:=T.obj 0 _ st3 b hb;exact Heap.lt_size e
 refine wpAny_newFunctionEnv S.nocell (fun x hx=>nomatch hx) (fun h4 hns hsb=>?_) S.kind
 have k4:∀b o,h3.get? b=some o→h4.get? b=some o:=fun b o e=>(hsb.2 b (Nat.ne_of_lt (Heap.lt_size e))).trans (Heap.get?_push_of_some _ e)
 have J4:Inv (yat X N' scope h3.objs.size { s with heap:=h3 } (upd H D (HT X.prog X.w D [])) fp) [] (ybe ix σ) (upd H D (HT X.prog X.w D [])) { s with heap:=h4,toks:=s.toks+([]:List (Str×Value)).length }:=
  ygc (s:={ s with heap:=h3 }) (tk:=s.toks+([]:List (Str×Value)).length) I3 hcalm S hf3 lt3 hns k4
 have st4:tn 0 ({ s with heap:=h4,toks:=s.toks+([]:List (Str×Value)).length }:Shared).heap:=T.keep _ _ _ st3 fun b hb o e=>k4 b o e
 have fr4:∀b∈fp,upd H D (HT X.prog X.w D []) b=none:=fun b hb=>(hf3 b hb).1
 revert J4 st4
 generalize ({ s with heap:=h4,toks:=s.toks+([]:List (Str×Value)).length }:Shared)=s4
 intro J4 st4
 have hf4:∀b∈fp,ye8 (yat X N' scope h3.objs.size { s with heap:=h3 } (upd H D (HT X.prog X.w D [])) fp) [] (upd H D (HT X.prog X.w D [])) b:=fun b hb=>
  ⟨fr4 b hb,Nat.ne_of_lt (lt3 b hb),J4.ok.exfs b hb,.inl hb,fun x c e=>(J4.ok.exf b hb).2 x c e,fun p hp=>nomatch hp⟩
 refine codeAny_mono (yoh (X':=yat X N' scope h3.objs.size { s with heap:=h3 } (upd H D (HT X.prog X.w D [])) fp) (Q:=Q) (D:=D) hu J4 rfl rfl T st4 hf4 (hg _ _ _ _) (hi _ _ _ _) (he _ _ _ _) w0 turn) fun r s' ⟨hr,H',J',q'⟩=>?_
 refine⟨D,H',rfl,hr,I3.call' J'.os J'.base J'.hok J'.bare fun b hb=>?_,?_,?_,q'⟩
 ·obtain ⟨_,f1,_,f3,f4,f5⟩:=hf3 b hb
  exact⟨f3,f1,f4,f5⟩
 ·exact I3.fpOk (H':=H') (Nat.le_refl _) J'.free
 ·obtain ⟨m,hn,_⟩:=J'.loc
  exact⟨m,hn⟩
theorem ytl (hu:X.A.units+1<cLine)(hcalm:X.calm=true)(S:CompScope X N' ix scope)(hit:PI X tg iter wi)
 (hg:∀C s H fp,PG (yat X N' scope C s H fp) tg g) (hi:∀C s H fp,PIfs (yat X N' scope C s H fp) ifs ti) (he:∀C s H fp,PE (yat X N' scope C s H fp) elt te)
 (hs:∀x,foldedSetIterable iter X.env x=pure x:=by intro _;rfl):PE X (.SetComp elt [⟨tg,iter,ifs,0⟩] scope pos) (yyc X.prog X.w ix wi g ti te):=by
 refine⟨?_⟩
 intro pins s σ H Q I h
 show wpAny _ X.A (comprehension (.SetComp elt [⟨tg,iter,ifs,0⟩] scope pos) scope X.env _ (newSet (.type "set")) false (eval iter X.env)) _ _ s
 refine wpAny_comprehension_free (use:=none) rfl hs (ycv I S) S.kind S.loc (thn (hit pins s σ H _ I h) fun v s1 h1=>thn h1 fun itv s2 h2=>?_)
 obtain ⟨it,fp,tn,J,H2,rfl,I2,T,st2,f2,q2⟩:=h2
 refine thn (ymu (E:=X.xe) (elt:=elt) (iter:=iter) (pos:=pos) hu I2 hcalm S T st2 f2 hg hi he q2) fun acc s3 h3=>thn h3 fun cenv s4 h4=>codeAny_mono h4 fun r s' hr=>?_
 obtain ⟨D,H',rfl,⟨f,rfl⟩,I',⟨g0,g1,_,g3,g4,g5⟩,⟨m,hm⟩,q'⟩:=hr
 exact⟨m,hm,fun h' hsb=>⟨.ref D,H',I'.turned (t':=s'.toks) (fun b o hb e=>(hsb.2 b hb).trans e) g0 g1 g3 g4 g5,rfl,q'⟩⟩
theorem ymv:yfa X (.builtin "len") (fun xs H Q=>∃p ys,xs=[.ref p]∧H p=some (HT X.prog X.w p ys)∧ys.length<1000∧Q (.int ys.length) H):=by
 intro pins s σ H xs us Q I r h
 obtain ⟨p,ys,rfl,e,hn,q⟩:=h
 obtain ⟨u,rfl,ru⟩:=r.one
 cases ru
 obtain ⟨o,es,ep,t,ho,hex,hd,hsz,_,_,T⟩:=yzx I e
 exact call_len_set ho hex hd T.fits (by rw[hsz];omega) ⟨.int ys.length,H,I.tok _,⟨_,by rw[hsz]⟩,q⟩
end
end L2
namespace L2
open PySem PySem.Spec PySem.W PyProof.Rows
theorem TupsT.same {H H':Hp}{xs:List (List Key×Addr)}(h:TupsT H xs)(s:Same H H'):TupsT H' xs:=fun q hq=>s _ _ (h q hq)
theorem ytm {K:PySem.W.Frag}{prog:Program}{w:World}{a D:Addr}{xs:List V}{g:TG}{ti:TT}{te:TE}{σ₀:St}{H1:Hp}{R:Hp→Prop}(P:Nat→List (List Key)→Prop)(hD:H1 D=none)(hx:H1 a=some (.lst xs))(hn:xs.length≤76)(h0:P 0 [])
 (step:∀i x ks0 H,xs[i]? = some x→Same H1 H→P i ks0→∀(K1:V→Hp→Prop) (K2:Hp→Prop),(∀p ks H4,H4 p=some (.tup (List.map kV ks))→Same H H4→(ks∈ks0→P (i+1) ks0)→(ks ∉ ks0→P (i+1) (ks0++[ks]))→K1 (.ref p) H4)→
  g x σ₀ H fun σ2 H2=>(∀(k:Nat) v,σ₀[k]? = some (some v)→σ2[k]? = some (some v))∧ti σ2 H2 fun b H3=>if b=true then te σ2 H3 K1 else K2 H3)
 (fin:∀ys H,Same H1 H→P xs.length (ys.map (·.1))→ys.length≤xs.length→H D=some (HT prog w D ys)→R H) :
 ∃W:Nat→Nat→Hp→Prop,(∃m,W 0 m (upd H1 D (HT prog w D [])))∧∀i m H,W i m H→((Itl K a).stop i H∧R H)∨((Itl K a).go i H∧∀x H',(Itl K a).yld i H x H'→g x σ₀ H' fun σ2 H2=>(∀(k:Nat) v,σ₀[k]? = some (some v)→σ2[k]? = some (some v))∧ti σ2 H2 fun b H3=>
  if b=true then te σ2 H3 fun y H4=>∃xs ks p,H4 D=some (HT prog w D xs)∧y = .ref p∧H4 p=some (.tup (List.map kV ks))∧TupsT H4 xs∧xs.length<76∧∃m',m' < m∧∀xs',yvt xs ks p xs'→W (i+1) m' (upd H4 D (HT prog w D xs')) else ∃m',m' < m∧W (i+1) m' H3):=by
 refine⟨fun i m H=>i+m=xs.length∧Same H1 H∧∃ys,H D=some (HT prog w D ys)∧ys.length≤i∧TupsT H ys∧P i (ys.map (·.1)),⟨xs.length,by omega,yae hD _,[],yab,Nat.le_refl _,(fun q hq=>nomatch hq),h0⟩,?_⟩
 rintro i m H ⟨him,s1,ys,hz,hl,ht,hp⟩
 have ex:=s1 _ _ hx
 by_cases hi:i<xs.length
 ·refine .inr ⟨⟨xs,_,SqL.of ex,List.getElem?_eq_getElem hi⟩,?_⟩
  rintro x H' ⟨rfl,hy⟩
  refine step i x _ H' (hy _ (SqL.of ex)) s1 hp _ (fun H3=>_) fun p ks H4 hp4 s4 p1 p2=>?_
  have hz4:=s4 _ _ hz
  have ht4:=ht.same s4
  have nd:∀(q:Addr) (zs:List V),H4 q=some (.tup zs)→q≠D:=fun q zs e=>yi5 e hz4 (by intro z;cases z)
  refine⟨ys,ks,p,hz4,rfl,hp4,ht4,by omega,m-1,by omega,fun xs' ii=>⟨by omega,(s1.trans s4).young hD,xs',yab,?_⟩⟩
  rcases ii with ⟨hin,rfl⟩ | ⟨hno,rfl⟩
  ·refine⟨by omega,fun q hq=>by rw[yak (nd _ _ (ht4 q hq))];exact ht4 q hq,p1 ?_⟩
   obtain ⟨q,hq,e⟩:=hin
   exact List.mem_map.mpr ⟨q,hq,e⟩
  ·refine⟨by rw[List.length_append,List.length_singleton];omega,fun q hq=>?_,?_⟩
   ·rcases List.mem_append.mp hq with z|z
    ·rw[yak (nd _ _ (ht4 q z))];exact ht4 q z
    ·rw[List.mem_singleton.mp z,yak (nd _ _ hp4)];exact hp4
   ·rw[List.map_append]
    exact p2 fun z=>by obtain ⟨q,hq,e⟩:=List.mem_map.mp z;exact hno q hq e
 ·have e:i=xs.length:=by omega
  subst e
  exact .inl ⟨⟨xs,SqL.of ex,Nat.le_refl _⟩,fin ys H s1 hp hl hz⟩
def pr2 (r:List Int):Int×Int:=(r.getD 0 0,r.getD 1 0)
def pk2 (q:Int×Int):List Key:=[.inl q.1,.inl q.2]
theorem yyd {q q':Int×Int}(h:pk2 q=pk2 q'):q=q':=by
 unfold pk2 at h
 injection h with h1 h2
 injection h2 with h2 _
 injection h1 with h1
 injection h2 with h2
 exact Prod.ext h1 h2
def PrsP (ts:List (List Int))(i:Nat)(ks:List (List Key)):Prop:=∃ps:List (Int×Int),ks=ps.map pk2∧(∀q,q∈ps↔q∈(ts.take i).map pr2)∧(ps.length=i↔((ts.take i).map pr2).Nodup)∧ps.length≤i
theorem PrsP.zero {ts:List (List Int)}:PrsP ts 0 []:=⟨[],rfl,fun q=>by simp,by simp,Nat.le_refl _⟩
theorem PrsP.old {ts:List (List Int)}{i:Nat}{ks:List (List Key)}{r:List Int}(h:PrsP ts i ks)(e:ts[i]? = some r)(hin:pk2 (pr2 r)∈ks):PrsP ts (i+1) ks:=by
 obtain ⟨ps,rfl,h1,h2,h3⟩:=h
 obtain ⟨q,hq,eq⟩:=List.mem_map.mp hin
 have:=yyd eq
 subst this
 have tk:ts.take (i+1)=ts.take i++[r]:=by rw[List.take_succ,e];rfl
 refine⟨ps,rfl,fun q=>?_,?_,by omega⟩
 ·rw[tk,List.map_append,List.mem_append,← h1 q]
  exact⟨.inl,fun z=>z.elim id fun y=>by rw[List.map_cons,List.map_nil,List.mem_singleton] at y;rw[y];exact hq⟩
 ·rw[tk,List.map_append]
  refine⟨fun z=>by omega,fun z=>?_⟩
  exact absurd rfl ((List.nodup_append.mp z).2.2 (pr2 r) ((h1 _).mp hq) (pr2 r) (by simp))
theorem PrsP.new {ts:List (List Int)}{i:Nat}{ks:List (List Key)}{r:List Int}(h:PrsP ts i ks)(e:ts[i]? = some r)(hno:pk2 (pr2 r) ∉ ks):PrsP ts (i+1) (ks++[pk2 (pr2 r)]):=by
 obtain ⟨ps,rfl,h1,h2,h3⟩:=h
 have nin:pr2 r ∉ ps:=fun z=>hno (List.mem_map.mpr ⟨_,z,rfl⟩)
 have tk:ts.take (i+1)=ts.take i++[r]:=by rw[List.take_succ,e];rfl
 refine⟨ps++[pr2 r],by rw[List.map_append];rfl,fun q=>?_,?_,by rw[List.length_append,List.length_singleton];omega⟩
 ·rw[tk,List.map_append,List.mem_append,List.mem_append,h1 q];rfl
 ·rw[tk,List.map_append,List.length_append,List.length_singleton,List.nodup_append]
  refine⟨fun z=>⟨h2.mp (by omega),by simp,fun a ha b hb e=>?_⟩,fun z=>by rw[h2.mpr z.1]⟩
  rw[List.map_cons,List.map_nil,List.mem_singleton] at hb
  subst hb
  subst e
  exact nin ((h1 _).mpr ha)
theorem PrsP.fin {ts:List (List Int)}{ks:List (List Key)}(h:PrsP ts ts.length ks):(ks.length<ts.length↔¬ (ts.map pr2).Nodup):=by
 obtain ⟨ps,rfl,h1,h2,h3⟩:=h
 rw[List.take_length] at h2
 rw[List.length_map,← h2]
 omega
theorem zb2 {t:TT}{A B:TS}{D:Ends}{σ:St}{H:Hp}(b:Bool)(h:∀Q:Bool→Hp→Prop,Q b H→t σ H Q)(h1:b=true→A D σ H)(h2:b=false→B D σ H):za5 t A B D σ H:=
 h _ (by
  cases b with
  |true=>exact yeh (h1 rfl)
  |false=>exact ycq (h2 rfl))
theorem ydm {rs:List (List Int)}{n:Nat}{r:List Int}(h:rs[n]? = some r):rs.getD n []=r:=by rw[List.getD_eq_getElem?_getD,h];rfl
def Gvn (ls os:List (List Int))(tm:Int)(r:List Int):Prop:=(0≤r.getD 0 0∧r.getD 0 0<(ls.length:Int))∧(0≤r.getD 1 0∧r.getD 1 0<(os.length:Int))∧1≤r.getD 2 0∧yc2 tm (yag os 0 (r.getD 1 0)) (yag ls 0 (r.getD 0 0))=true
def yby (ts:List (List Int)):List (List Int):=ts.map fun r=>[r.getD 1 0,r.getD 2 0]
def yiv (ss:List Int)(rs:List (List Int)):Prop:=∀(i:Nat) u r,ss[i]? = some u→rs[i]? = some r→u≤r.getD 1 0
def ywt (ls os:List (List Int))(tm:Int)(ts:List (List Int)):Prop:=(∀r∈ts,Gvn ls os tm r)∧(ts.map pr2).Nodup∧yiv (yar ls.length (ya6 ts)) ls∧yiv (yar os.length (yby ts)) os
def yk8:Sp:=fun vs H Q _=>∃(a b t:Addr) (tm l o c:Int) (ls os:List (List Int)),vs=[.ref a,.ref b,.int tm,.ref t]∧H t=some (.tup [.int l,.int o,.int c])∧Rows H a ls∧(∀r∈ls,r.length=3)∧Rows H b os∧(∀r∈os,r.length=2∧inB (r.getD 0 0) 999)∧ye5 tm∧
 ∀x H',(x=true↔Gvn ls os tm [l,o,c])→Same H H'→Q (.bl x) H'
def yk9:Sp:=fun vs H Q _=>∃(a b:Addr) (ss:List Int) (rs:List (List Int)),vs=[.ref a,.ref b]∧ya0 H a ss∧Rows H b rs∧(∀r∈rs,2≤r.length)∧ss.length=rs.length∧rs.length≤100∧∀x H',(x=true↔yiv ss rs)→Same H H'→Q (.bl x) H'
def yla (cl:Nat→Addr):Sp:=fun vs H Q E=>∃(a b p:Addr) (tm:Int) (rs os ts:List (List Int)),vs=[.ref a,.ref b,.int tm,.ref p]∧Rows H a rs∧(∀r∈rs,r.length=3)∧Rows H b os∧(∀r∈os,r.length=2)∧Rows H p ts∧(∀r∈ts,r.length=3)∧ts.length≤76∧
 (∀n,yc8 rs os tm=some n→∀H',Same H H'→E (.ref (cl n)) none H')∧(yc8 rs os tm=none→∀x H',(x=true↔ywt rs os tm ts)→Same H H'→Q (.bl x) H')
theorem yiw {K:PySem.W.Frag}{a D:Addr}{xs:List V}{rs:List (List Int)}{g:TG}{te:TE}{σ₀:St}{H1:Hp}{R:Hp→Prop}(gm:List Int→List Int)(hD:H1 D=none)(hx:H1 a=some (.lst xs))(ht:Tups H1 xs rs)(hn:rs.length≤900)
 (step:∀(i:Nat) p r H,rs[i]? = some r→Same H1 H→H p=some (.tup (r.map V.int))→∀(K1:V→Hp→Prop) (K2:Hp→Prop),(∀t,H t=none→K1 (.ref t) (upd H t (.tup ((gm r).map V.int))))→
  g (.ref p) σ₀ H fun σ2 H2=>(∀(k:Nat) v,σ₀[k]? = some (some v)→σ2[k]? = some (some v))∧yho σ2 H2 fun b H3=>if b=true then te σ2 H3 K1 else K2 H3)
 (fin:∀H,Same H1 H→Rows H D (rs.map gm)→R H) :
 ∃W:Nat→Nat→Hp→Prop,(∃m,W 0 m (upd H1 D (.lst [])))∧∀i m H,W i m H→((Itl K a).stop i H∧R H)∨((Itl K a).go i H∧∀x H',(Itl K a).yld i H x H'→g x σ₀ H' fun σ2 H2=>(∀(k:Nat) v,σ₀[k]? = some (some v)→σ2[k]? = some (some v))∧
  yho σ2 H2 fun b H3=>if b=true then te σ2 H3 fun y H4=>∃zs,H4 D=some (.lst zs)∧zs.length<sizeLine∧∃m',m' < m∧W (i+1) m' (upd H4 D (.lst (zs++[y]))) else ∃m',m' < m∧W (i+1) m' H3):=by
 have lx:=ht.1
 refine⟨fun i m H=>i+m=xs.length∧Same H1 H∧Rows H D ((rs.take i).map gm),⟨xs.length,by omega,yae hD _,Rows.nil yab⟩,?_⟩
 rintro i m H ⟨him,s1,R1⟩
 have ex:=s1 _ _ hx
 by_cases hi:i<xs.length
 ·refine .inr ⟨⟨xs,_,SqL.of ex,List.getElem?_eq_getElem hi⟩,?_⟩
  rintro x H' ⟨rfl,hy⟩
  obtain ⟨p,r,rfl,er,hp⟩:=ht.at (hy _ (SqL.of ex))
  refine step i p r H' er s1 (s1 _ _ hp) _ _ fun t htt=>?_
  obtain ⟨ys,ey,eyl,_⟩:=R1.get
  refine⟨ys,by rw[yak (yam ey htt)];exact ey,yas (by rw[eyl,List.length_map,List.length_take];omega),m-1,by omega,by omega,(s1.trans (yae htt _)).young hD,?_⟩
  rw[← yeo er,List.map_append]
  exact R1.push (r:=gm r) ey htt
 ·have e:rs.take i=rs:=List.take_of_length_le (by omega)
  rw[e] at R1
  exact .inl ⟨⟨xs,SqL.of ex,by omega⟩,fin H s1 R1⟩
def ylb (mg:Str→Option Value) (base:Heap):Prop:=∃bm ob,mg "__builtins__" = some (.ref bm)∧bm≠builtinsNs∧base.get? bm=some ob∧ob.cls = .type "module" ∧ ob.dict=some builtinsNs∧ob.data = .plain
def ydi (H:Hp)(a c:Addr):Hp:=fun b=>if b=a∨b=c then none else H b
theorem yhg {H:Hp}{a c b:Addr}(h:H b=none):ydi H a c b=none:=by
 unfold ydi
 split
 ·rfl
 ·exact h
theorem ymw {H:Hp}{a c b:Addr}{o:HO}(h:ydi H a c b=some o):b≠a∧b≠c∧H b=some o:=by
 unfold ydi at h
 split at h
 ·cases h
 ·rename_i n
  exact⟨fun z=>n (.inl z),fun z=>n (.inr z),h⟩
theorem ycj {H:Hp}{a c b:Addr}(h1:b≠a)(h2:b≠c):ydi H a c b=H b:=by
 unfold ydi
 rw[if_neg (fun z=>z.elim h1 h2)]
theorem ytn {H:Hp}{a c:Addr}:ydi H a c a=none:=by unfold ydi;rw[if_pos (.inl rfl)]
theorem yto {H:Hp}{a c:Addr}:ydi H a c c=none:=by unfold ydi;rw[if_pos (.inr rfl)]
def yzy (q:Str)(o:Obj):Prop:=∃vs t,o.data = .fields vs∧vs[1]? = some (.str q t)
section
variable {X:Cx}{pins:List (Addr×Obj)}{σ:St}{H:Hp}{s:Shared}
theorem Inv.fsFree (I:Inv X pins σ H s){b:Addr}(hb:b∈X.fs):H b=none:=by
 obtain ⟨_,o,ho,_⟩:=I.ok.funs.mem hb
 exact I.base.free b o ho (I.ok.frf b hb) fun z=>I.ok.exfs b z hb
theorem Inv.notOld (I:Inv X pins σ H s)(hex:X.ex=[]){b:Addr}{u:HO}(e:H b=some u):∀o,X.s₀.heap.get? b=some o→X.H₀ b≠none:=fun o ho n=>by
 have:=I.base.free b o ho n (by rw[hex];simp)
 rw[e] at this;cases this
theorem yvv {A:Around}{E:Value→Shared→Prop}{q:Str}{params:Arguments}{body:Expr}{scope:Scope}{pos:Pos}{c P:Addr}{clos:List (Str×Addr)}{Q:Value→Shared→Prop}(I:Inv X pins σ H s)(hex:X.ex=[])
 (hP:H P=some (.cod q pos)) (hcode:X.env.code = .ref c) (C:codeHdIn X.K c P=true) (B:ylb X.mg X.base) (hcl:closureFor scope X.env=pure clos) (hdef:defaultsOf params X.env=([],[])) (hq:X.env.qual ++ "<lambda>" = q)
 (h:∀f c' ctv co s',Inv X ((f,kla_obj "<lambda>" q params body scope clos ((X.mg "__name__").getD .none) c' ctv)::(P,tabObj #[rawInt pos.line,rawInt pos.col,.ref c'])::(c',co)::pins) σ (ydi H P c') s'→yzy q co→P≠c'→H f=none→(H c'=none∨H c'=some (.own P)) →
  (∀o,X.s₀.heap.get? c' = some o→X.H₀ c'≠none)→(∀p∈X.pn++pins,p.1≠P∧p.1≠c')→Q (.ref f) s') :
 wpAny (model X.prog X.w) A (eval (.Lambda params body scope pos) X.env) Q E s:=by
 have Cd:CodeHd s.heap c P:=codeHd_of_K I.kIn C
 have hgs:=I.mod.glob.keeps I.bk
 have nP:∀b,H b=none→b≠P:=fun b n z=>by rw[z,hP] at n;cases n
 obtain ⟨bm,ob,b1,b2,b3,b4,b5,b6⟩:=B
 have b3':=I.bs _ _ b3
 have hgP:mainGlobals≠P:=by
  obtain ⟨o,es,ep,e,_⟩:=I.mod.glob
  exact nP _ (I.bs _ _ e).2
 have hbG:bm≠mainGlobals:=fun z=>by
  obtain ⟨o,es,ep,e,hd,_⟩:=I.mod.glob
  rw[z,e] at b3;cases b3;rw[hd] at b6;cases b6
 have BA:s.heap.BuiltinsAt X.mg P:=⟨bm,ob,b1,b2,hbG,nP _ b3'.2,b3'.1,b4,b5,b6⟩
 have Lne:X.env.locals≠P:=nP _ I.free
 refine kla_eval hdef ?_
 rw[hq]
 have fin:∀(h':Heap) (tk:Nat) (f c':Addr) (ctv:Value),Heap.ExtBut P s.heap h'→s.heap.objs.size≤h'.objs.size→f=h'.objs.size→h'.CodeRec (.ref c') q→h'.get? P=some (tabObj #[rawInt pos.line,rawInt pos.col,.ref c'])→P≠c'→
  (H c'=some (.own P)∨s.heap.objs.size≤c')→Q (.ref f) { s with heap:=h'.push (kla_obj "<lambda>" q params body scope clos ((X.mg "__name__").getD .none) c' ctv),toks:=tk }:=by
  intro h' tk f c' ctv hx hsz ef hrec hT hne hc
  subst ef
  have hcn:H c'=none∨H c'=some (.own P):=by
   rcases hc with z|z
   ·exact .inr z
   ·exact .inl (I.hok.fresh z)
  have kp:∀b o,b≠P→s.heap.get? b=some o→(h'.push (kla_obj "<lambda>" q params body scope clos ((X.mg "__name__").getD .none) c' ctv)).get? b=some o:=fun b o n e=>Heap.get?_push_of_some _ (hx b o n e)
  have ncc:∀b u,H b=some u→u≠.own P→b≠c':=fun b u e n z=>by
   rw[z] at e
   rcases hcn with y|y
   ·rw[y] at e;cases e
   ·rw[y] at e;cases e;exact n rfl
  have npp:∀b u,H b=some u→u≠.cod q pos→b≠P:=fun b u e n z=>by
   rw[z,hP] at e;cases e;exact n rfl
  obtain ⟨c₂,co,vs,t,e2,hoc,hd,hv⟩:=hrec
  cases e2
  have J:Inv X pins σ (ydi H P c') { s with heap:=h'.push (kla_obj "<lambda>" q params body scope clos ((X.mg "__name__").getD .none) c' ctv),toks:=tk }:=by
   refine I.step (g':=s.gens) (d':=s.drawn) (ch:=[]) (fun _ z=>nomatch z) (fun b o _ _ _ e n=>kp b o (nP b n) e) (fun b o _ _ _ e n=>⟨o.slots,kp b o (nP b n) e⟩) (fun b o _ _ n=>yhg n) (fun b o _ e=>?_)
    (fun b xs e=>by rw[ycj (npp b _ e (by intro z;cases z)) (ncc b _ e (by intro z;cases z))];exact e) (fun b o u e=>by rw[ycj (npp b _ e (by intro z;cases z)) (ncc b _ e (by intro z;cases z))];exact e)
    (fun b ps e=>⟨#[],by rw[ycj (npp b _ e (by intro z;cases z)) (ncc b _ e (by intro z;cases z)),e];simp⟩) (fun m hm=>?_) (fun b u e=>?_) I.bare
   ·by_cases hb:b=P
    ·exact⟨_,by rw[hb];exact Heap.get?_push_of_some _ hT⟩
    ·exact⟨o,kp b o hb e⟩
   ·obtain ⟨o,es,ep,ho,r⟩:=hm
    exact⟨o,es,ep,kp _ o Lne ho,r⟩
   ·obtain ⟨n1,n2,e'⟩:=ymw e
    refine(I.hok b u e').stay (fun d v hd q=>kp d v ?_ q) (fun d z=>?_) fun d xs z=>?_
    ·rcases hd with z|z
     ·rw[z];exact n1
     ·exact npp d _ z (by intro y;cases y)
    ·rw[ycj (npp d _ z (by intro y;cases y)) (ncc d _ z (by intro y;cases y;exact n1 rfl))];exact z
    ·rw[ycj (npp d _ z (by intro y;cases y)) (ncc d _ z (by intro y;cases y))];exact z
  have hf:H h'.objs.size=none:=I.hok.fresh hsz
  have old:∀b u,H b=some u→b≠X.env.locals∧b ∉ X.fs:=fun b u e=>⟨fun z=>(by rw[z,I.free] at e;cases e),fun z=>(by rw[I.fsFree z] at e;cases e)⟩
  have new:∀b,s.heap.objs.size≤b→b≠X.env.locals∧b ∉ X.fs:=fun b hb=>⟨Nat.ne_of_gt (Nat.lt_of_lt_of_le I.lt hb),I.nofs hb⟩
  have hc':c'≠X.env.locals∧c' ∉ X.fs:=by
   rcases hc with z|z
   ·exact old _ _ z
   ·exact new _ z
  refine h h'.objs.size c' ctv co _ (J.pins_of fun p hp=>?_) ⟨vs,t,hd,hv⟩ hne hf hcn (fun o ho=>?_) fun p hp=>?_
  ·rcases List.mem_cons.mp hp with rfl|hp
   ·exact⟨Heap.get?_push_size _ rfl,yhg hf,(new _ hsz).1,(new _ hsz).2,fun v z=>(by cases z)⟩
   ·rcases List.mem_cons.mp hp with rfl|hp
    ·exact⟨Heap.get?_push_of_some _ hT,ytn,(old _ _ hP).1,(old _ _ hP).2,fun v z=>(by cases z)⟩
    ·rcases List.mem_cons.mp hp with rfl|hp
     ·exact⟨Heap.get?_push_of_some _ hoc,yto,hc'.1,hc'.2,fun v z=>(by rw[hd] at z;cases z)⟩
     ·exact J.pin p (List.mem_append_right _ hp)
  ·rcases hc with z|z
   ·exact I.notOld hex z o ho
   ·exact absurd (Nat.lt_of_lt_of_le (Heap.lt_size ho) (Nat.le_trans I.sz z)) (Nat.lt_irrefl _)
  ·obtain ⟨e,n,_⟩:=I.pin p hp
   refine⟨nP _ n,fun z=>?_⟩
   rcases hc with y|y
   ·rw[z,y] at n;cases n
   ·exact absurd (Nat.lt_of_lt_of_le (Heap.lt_size e) (z ▸ y)) (Nat.lt_irrefl _)
 rcases (show ObjOk X.prog X.w H s.heap P (.cod q pos) from I.hok P _ hP) with e|⟨c',e,hw,hrec⟩
 ·refine kla_makeFunction (mg:=X.mg) hcl I.ok.glob hgs hcode Cd e trivial rfl hgP BA fun c' ctv h' tk hx hge hlt hrec htb=>?_
  refine fin h' tk _ c' ctv hx (Nat.le_of_lt (Nat.lt_of_le_of_lt hge hlt)) rfl hrec (by rw[htb];simp) ?_ (.inr hge)
  intro z
  rw[← z] at hge
  exact absurd (Nat.lt_of_lt_of_le (Heap.lt_size e) hge) (Nat.lt_irrefl _)
 ·refine kla_makeFunctionHit (mg:=X.mg) hcl I.ok.glob hgs hcode Cd e (by simp [TriplesOk,rawInt]) (cv:=.ref c') (by simp [codeAmong,rawInt]) BA fun ctv h' tk hk hsz=>?_
  refine fin h' tk _ c' ctv (fun b o _ e=>hk b o e) hsz rfl (hrec.keeps hk) (hk _ _ e) ?_ (.inl hw)
  intro z
  rw[← z,hP] at hw;cases hw
theorem Inv.retrack {P c' f:Addr}{fo co:Obj}{q:Str}{pos:Pos}(I:Inv X ((f,fo)::(P,tabObj #[rawInt pos.line,rawInt pos.col,.ref c'])::(c',co)::pins) σ H s)(hq:yzy q co)(hne:P≠c')
 (nP:∀o,X.s₀.heap.get? P=some o→X.H₀ P≠none) (nc:∀o,X.s₀.heap.get? c' = some o→X.H₀ c'≠none) (hp:∀p∈X.pn++pins,p.1≠P∧p.1≠c'):Inv X pins σ (upd (upd H P (.cod q pos)) c' (.own P)) s:=by
 obtain ⟨eP,hP,lP,_,dP⟩:=I.pin (P,tabObj #[rawInt pos.line,rawInt pos.col,.ref c']) (List.mem_append_right _ (.tail _ (.head _)))
 obtain ⟨ec,hc,lc,_,dc⟩:=I.pin (c',co) (List.mem_append_right _ (.tail _ (.tail _ (.head _))))
 dsimp only at eP hP lP dP ec hc lc dc
 have away:∀b,b≠P→b≠c'→upd (upd H P (.cod q pos)) c' (.own P) b=H b:=fun b n1 n2=>by rw[yak n2,yak n1]
 have some_away:∀b u,H b=some u→b≠P∧b≠c':=fun b u e=>⟨fun z=>(by rw[z,hP] at e;cases e),fun z=>(by rw[z,hc] at e;cases e)⟩
 have keepS:∀b u,H b=some u→upd (upd H P (.cod q pos)) c' (.own P) b=some u:=fun b u e=>by
  obtain ⟨n1,n2⟩:=some_away b u e
  rw[away b n1 n2];exact e
 have atP:upd (upd H P (.cod q pos)) c' (.own P) P=some (.cod q pos):=by rw[yak hne,yab]
 have atc:upd (upd H P (.cod q pos)) c' (.own P) c'=some (.own P):=yab
 refine⟨I.ok,I.os,I.bare,⟨I.base.keep,I.base.slot,fun b o e n hx=>?_,I.base.there,fun b xs e=>keepS b _ (I.base.tups b xs e),fun b o xs e=>keepS b _ (I.base.frzs b o xs e),fun b ps e=>?_⟩,I.loc,I.cell,?_,fun x c e=>?_,fun p hp'=>?_,fun b u e=>?_,I.len⟩
 ·rw[away b (fun z=>nP o (z ▸ e) (z ▸ n)) (fun z=>nc o (z ▸ e) (z ▸ n))]
  exact I.base.free b o e n hx
 ·obtain ⟨more,z⟩:=I.base.tbls b ps e
  exact⟨more,keepS b _ z⟩
 ·rw[away _ (Ne.symm lP) (Ne.symm lc)];exact I.free
 ·obtain ⟨v,o,ho,hd⟩:=I.cell x c e
  rw[away c (fun z=>by rw[z,eP] at ho;cases ho;exact dP v hd) (fun z=>by rw[z,ec] at ho;cases ho;exact dc v hd)]
  exact I.freeC x c e
 ·obtain ⟨z1,z2⟩:=hp p hp'
  have hp2:p∈X.pn++((f,fo)::(P,tabObj #[rawInt pos.line,rawInt pos.col,.ref c'])::(c',co)::pins):=by
   rcases List.mem_append.mp hp' with y|y
   ·exact List.mem_append_left _ y
   ·exact List.mem_append_right _ (.tail _ (.tail _ (.tail _ y)))
  obtain ⟨e,n,r⟩:=I.pin p hp2
  exact⟨e,by rw[away _ z1 z2];exact n,r⟩
 ·by_cases hb:b=c'
  ·subst hb
   rw[atc] at e;cases e
   exact⟨co,ec⟩
  ·by_cases hb2:b=P
   ·subst hb2
    rw[atP] at e;cases e
    obtain ⟨vs,t,d1,d2⟩:=hq
    exact .inr ⟨c',eP,atc,c',co,vs,t,rfl,ec,d1,d2⟩
   ·rw[away b hb2 hb] at e
    exact(I.hok b u e).stay (fun _ _ _ q=>q) (fun d z=>keepS d _ z) fun d xs z=>keepS d _ z
end
def yye (X:Cx)(A:Around)(N':List Str)(q:Str)(scope:Scope)(f c':Addr)(s:Shared)(H:Hp):Cx where
 prog:=X.prog
 w:=X.w
 K:=X.K
 mg:=X.mg
 base:=X.base
 A:=A.deeper (envX q scope s.heap.objs.size f (.ref c') (ygo X.env scope.names []))
 N:=N'
 s₀:=s
 H₀:=H
 env:=envX q scope s.heap.objs.size f (.ref c') (ygo X.env scope.names [])
 outer:=X.stack
 stack:=envX q scope s.heap.objs.size f (.ref c') (ygo X.env scope.names [])::X.stack
 ex:=[]
 fn:=fun _=>false
 calm:=true
 pn:=[]
 xe:=fun _ _=>False
structure LamScope (X:Cx) (N':List Str) (ix:List (Option Nat)) (p:Str) (scope:Scope):Prop where
 kind:scope.kind = .function
 co:scope.isCoroutine=false
 gen:scope.isGenerator=false
 nocell:∀y∈scope.names,y.2≠.cell
 par:N'[0]? = some p
 loc:scope.names.lookup p=some .local
 len:ix.length=N'.length
 pos:0<N'.length
 free:∀y∈scope.names,y.2 = .free→X.env.kindOf y.1=some .cell
 out:∀(k j:Nat) (x:Str),N'[k]? = some x→ix[k]? = some (some j)→X.N[j]? = some x∧(x,NameKind.free)∈scope.names∧scope.names.lookup x=some .free
def yvw (ix:List (Option Nat))(σ:St)(v:V):St:=(ybe ix σ).set 0 (some v)
section
variable {X:Cx}{pins:List (Addr×Obj)}{σ:St}{H:Hp}{s:Shared}{N':List Str}{ix:List (Option Nat)}{p q:Str}{scope:Scope}
theorem yfm (I:Inv X pins σ H s)(S:LamScope X N' ix p scope){x:Str}{c:Addr}(h:(ygo X.env scope.names []).lookup x=some c):X.env.cells.lookup x=some c:=by
 rcases ykd _ _ (PySem.mem_of_lookup h) with z|⟨z1,z2⟩
 ·cases z
 ·obtain ⟨c',hc⟩:=I.ok.has x (.inl (S.free _ z1 rfl))
  dsimp only at z2
  rw[hc] at z2
  rw[hc,z2]
  rfl
theorem yyf {A:Around}{f c':Addr}{h':Heap}{tk:Nat}{x:V}{u:Value}(I:Inv X pins σ H s)(hcalm:A.handled=none)(hfr:A.frames=some X.stack)(S:LamScope X N' ix p scope)(r:RelV x u)
 (hns:h'.Ns s.heap.objs.size (fun y=>([(p,u)]:List (Str×Value)).reverse.lookup y)) (hk:∀b o,s.heap.get? b=some o→h'.get? b=some o):Inv (yye X A N' q scope f c' s H) [] (yvw ix σ x) H { s with heap:=h',toks:=tk }:=by
 have noL:H s.heap.objs.size=none:=I.hok.fresh (Nat.le_refl _)
 refine⟨⟨I.ok.mod,S.kind,rfl,rfl,Nat.le_refl _,fun x y c h1 h2=>I.ok.inj x y c (yfm I S h1) (yfm I S h2),fun x hx=>?_,(fun x c z=>nomatch z),fun _=>hcalm,Around.frames_deeper hfr,.inr ⟨rfl,rfl⟩,fun b hb=>absurd (show b∈([]:List Addr) from hb) (by simp),I.bs,Nat.le_trans I.ok.bsz I.sz,fun b o q hb=>absurd (show b∈([]:List Addr) from hb) (by simp),fun b hb=>absurd (show b∈([]:List Addr) from hb) (by simp),I.stack,I.stkFree⟩,
  rfl,I.bare,Un.kept hk,⟨_,hns,fun k y v h1 h2 h3=>?_⟩,fun x c h=>?_,noL,fun x c h=>I.freeC x c (yfm I S h),(fun p hp=>absurd (show p∈([]:List (Addr×Obj)) from hp) (by simp)),I.hok.kept hk,?_⟩
 ·have hx':scope.names.lookup x=some .cell∨scope.names.lookup x=some .free:=hx
  rcases hx' with z|z
  ·exact absurd rfl (S.nocell _ (PySem.mem_of_lookup z))
  ·exact yc5 (ygb (env:=X.env) scope.names [] (PySem.mem_of_lookup z))
 ·have e2:((ybe ix σ).set 0 (some x))[k]? = some (some v):=h2
  have h1':N'[k]? = some y:=h1
  by_cases hk0:k=0
  ·subst hk0
   rw[S.par] at h1'
   cases h1'
   have hl:0<(ybe ix σ).length:=by unfold ybe;rw[List.length_map,S.len];exact S.pos
   rw[List.getElem?_set_self hl] at e2
   cases e2
   refine⟨u,r,.inl ⟨S.loc,?_⟩⟩
   show ([(p,u)]:List (Str×Value)).lookup p=some u
   rw[List.lookup_cons,show (p == p)=true from by simp]
  ·rw[List.getElem?_set_ne (fun z=>hk0 z.symm)] at e2
   unfold ybe at e2
   rw[List.getElem?_map] at e2
   cases e3:ix[k]? with
   |none=>rw[e3] at e2;cases e2
   |some o=>
    rw[e3] at e2
    cases o with
    |none=>cases e2
    |some j=>
     obtain ⟨n1,n2,n3⟩:=S.out k j y h1' e3
     have e4:σ[j]? = some (some v):=by
      have:(σ[j]?).join=some v:=Option.some.inj e2
      cases e5:σ[j]? with
      |none=>rw[e5] at this;cases this
      |some w=>rw[e5] at this;exact congrArg some this
     have kc:=S.free _ n2 rfl
     obtain ⟨m,hn,hl⟩:=I.loc
     obtain ⟨u',r',l⟩:=hl j y v n1 e4 (.inr (.inl kc))
     refine⟨u',r',?_⟩
     rcases l with ⟨z,_⟩ | ⟨_,c,hc,hcell⟩
     ·dsimp only at kc
      rw[kc] at z;cases z
     ·obtain ⟨c2,hc2⟩:=yc5 (ygb (env:=X.env) scope.names [] n2)
      have ec:=yfm I S hc2
      rw[hc] at ec
      cases ec
      exact .inr ⟨.inr n3,c,hc2,hcell.keeps hk⟩
 ·obtain ⟨v,z⟩:=I.cell x c (yfm I S h)
  exact⟨v,z.keeps hk⟩
 ·unfold yvw ybe
  rw[List.length_set,List.length_map]
  exact S.len
theorem yvx {A:Around}{f c':Addr}{params:Arguments}{body:Expr}{pm ctv:Value}{x:V}{u:Value}{tb:TE}{Q:VK}(I:Inv X pins σ H s)(hcalm:A.handled=none)(hfr:A.frames=some X.stack)(hdp:A.depth<recursionLimit)(S:LamScope X N' ix p scope)
 (hf:s.heap.get? f=some (kla_obj "<lambda>" q params body scope (ygo X.env scope.names []) pm c' ctv)) (hc:s.heap.CodeRec (.ref c') q)
 (hb:bindArgs (kla_fn "<lambda>" q params body scope (ygo X.env scope.names []) pm (.ref c') ctv) ⟨[u],[]⟩=pure [(p,u)])
 (he:PE (yye X A N' q scope f c' s H) body tb) (r:RelV x u) (h:tb (yvw ix σ x) H Q):wpAny (model X.prog X.w) A (call (.ref f) [u]) (EP X pins σ Q) (fun _ _=>False) s:=by
 refine wpAny_call (codeAny_mono (R:=fun r s'=>∃u,r = .ok (.ret u)∧EP X pins σ Q u s') ?_ fun r s' hq=>?_)
 ·refine kla_callFunE hdp hf rfl S.co S.gen rfl hc ?_
  rw[hb]
  refine zwp0 (wpAny_newFunctionEnv S.nocell (fun y hy=>?_) (fun h₁ hns hsb=>⟨I.nolimit.fresh _ hsb,?_⟩) S.kind)
  ·obtain rfl:y=(p,u):=by simpa using hy
   exact S.loc
  show codeAny _ _ (.expr body (envX q scope s.heap.objs.size f (.ref c') (ygo X.env scope.names []))) _ _
  have hk₁:∀b o,s.heap.get? b=some o→h₁.get? b=some o:=fun b o e=>hsb.extBut b o (Nat.ne_of_lt (Heap.lt_size e)) (Heap.get?_push_of_some _ e)
  have J:=yyf (q:=q) (A:=A) (f:=f) (c':=c') (tk:=s.toks+([(p,u)]:List (Str×Value)).length) I hcalm hfr S r hns hk₁
  refine kla_codeExpr (wpAny_mono (he [] _ _ H Q J h) (fun v s' hv=>?_) fun _ _ z=>z.elim)
  obtain ⟨v',H',J',rv,q'⟩:=hv
  exact⟨v,rfl,I.after ⟨v',H',J'.os,J'.bare,J'.base,J'.hok,rv,q'⟩⟩
 ·obtain ⟨u',rfl,z⟩:=hq
  exact z
end
section
variable {X:Cx}{pins:List (Addr×Obj)}{σ:St}{H:Hp}{s:Shared}
theorem Inv.turn1 {t':Nat}{it:Addr}{o o':Obj}{h':Heap}(I:Inv X ((it,o)::pins) σ H s)(hs:Heap.SameBut it s.heap h')(ho:h'.get? it=some o')(hd:∀v,o'.data≠.cell v)(hge:X.s₀.heap.objs.size≤it)(hne:∀p∈X.pn++pins,p.1≠it) :
 Inv X ((it,o')::pins) σ H { s with heap:=h',toks:=t' }:=by
 obtain ⟨e,n,l,fs,d⟩:=I.pin (it,o) (List.mem_append_right _ (.head _))
 dsimp only at e n l fs d
 have I0:Inv X pins σ H s:=I.pins_of fun p hp=>I.pin p (List.mem_append_right _ (.tail _ hp))
 have J:=I0.turned (t':=t') (it:=it) (h':=h') (fun b u nb eb=>(hs.2 b nb).trans eb) n l (.inr hge) (fun x c hc z=>by
  obtain ⟨v,oc,hoc,hdc⟩:=I.cell x c hc
  rw[z,e] at hoc
  cases hoc
  exact d v hdc) hne
 refine J.pins_of fun p hp=>?_
 rcases List.mem_cons.mp hp with rfl|hp
 ·exact⟨ho,n,l,fs,hd⟩
 ·exact J.pin p (List.mem_append_right _ hp)
theorem Inv.track1 {it:Addr}{ob:Obj}{o:HO}(I:Inv X ((it,ob)::pins) σ H s)(hge:X.s₀.heap.objs.size≤it)(hne:∀p∈X.pn++pins,p.1≠it)(ok:ObjOk X.prog X.w (upd H it o) s.heap it o):Inv X pins σ (upd H it o) s:=by
 obtain ⟨e,n,l,fs,d⟩:=I.pin (it,ob) (List.mem_append_right _ (.head _))
 dsimp only at e n l fs d
 have I0:Inv X pins σ H s:=I.pins_of fun p hp=>I.pin p (List.mem_append_right _ (.tail _ hp))
 have ne:∀b u,H b=some u→b≠it:=fun b u q z=>by rw[z,n] at q;cases q
 refine I0.step (g':=s.gens) (d':=s.drawn) (t':=s.toks) (h':=s.heap) (ch:=[it]) (fun b hb=>?_) (fun b o _ _ _ e _=>e) (fun b o _ _ _ e _=>⟨o.slots,e⟩) (fun b u hb _ nn=>?_) (fun b o _ e=>⟨o,e⟩) (fun b xs q=>by rw[yak (ne b _ q)];exact q) (fun b u xs q=>by rw[yak (ne b _ q)];exact q)
  (fun b ps q=>⟨#[],by rw[yak (ne b _ q),q];simp⟩) (fun m hm=>hm) (fun b u q=>?_) I.bare
 ·obtain rfl:b=it:=by simpa using hb
  refine⟨.inr hge,l,fun x c hc z=>?_,hne⟩
  obtain ⟨v,oc,hoc,hdc⟩:=I.cell x c hc
  rw[z,e] at hoc
  cases hoc
  exact d v hdc
 ·rw[yak fun z=>hb (by rw[z];exact List.mem_singleton.mpr rfl)];exact nn
 ·by_cases hb:b=it
  ·subst hb
   rw[yab] at q;cases q
   exact ok
  ·rw[yak hb] at q
   exact(I.hok b u q).stay (fun _ _ _ z=>z) (fun c z=>by rw[yak (ne c _ z)];exact z) fun c xs z=>by rw[yak (ne c _ z)];exact z
def yzz (H:Hp)(bs:List Addr)(ns:List Int)(key:Int→List Int):Prop:=∀(j:Nat) b n,bs[j]? = some b→ns[j]? = some n→H b=some (.tup ((key n).map V.int))
theorem yqs {A:Around}{E:Value→Shared→Prop}{l f:Addr}{ns:List Int}{key:Int→List Int}{wd:Nat}{Q:Value→Shared→Prop}(I:Inv X pins σ H s)(hl:SqL X.K H l (ns.map V.int))(h64:ns.length<64)(hw:∀n∈ns,(key n).length=wd)(hw0:0<wd)
 (hcall:∀n∈ns,∀pins' H2 s2 u,(∀p∈pins,p∈pins')→Inv X pins' σ H2 s2→Same H H2→RelV (.int n) u→wpAny (model X.prog X.w) A.in1.in1 (call (.ref f) [u]) (EP X pins' σ fun y H3=>∃b,y = .ref b∧Same H2 H3∧H3 b=some (.tup ((key n).map V.int))) (fun _ _=>False) s2)
 (h:∀(D:Addr) (ms:List Int) H3 s3,H D=none→ms.Perm ns→ms.Pairwise (fun a b=>yfq (key b) (key a)=false)→Same H H3→H3 D=some (.lst (ms.map V.int))→Inv X pins σ H3 s3→Q (.ref D) s3) :
 wpAny (model X.prog X.w) A (call (.builtin "sorted") [.ref l] [(Str.ofString "key",.ref f)]) Q E s:=by
 obtain ⟨its,rv,pl,hz⟩:=I.list hl
 have ia:=ygu rv
 have hlen:its.length=ns.length:=IntsAre.length ia
 have hl':=pl.isList
 refine call_function_entry_kw kind_sorted plain_sorted entry_sorted (ksk_s1 _ _) ?_
 unfold Builtin.«sorted»
 refine zwb0 (m:=checkCount "sorted" 1 1 _) (zwp0 ?_)
 refine zwb0 (collect_list hl' ?_ (by rw[sizeLine_eq];omega))
 refine zwb0 (wpAny_newList ?_ (by rw[sizeLine_eq];omega))
 have hsz:((s.heap.push (seqObj "list" #[] 0)).update s.heap.objs.size (Obj.mapSeq (· ++ its.toArray))).objs.size=s.heap.objs.size+1:=by
  rw[Heap.size_update,size_push']
 have hoL:(((s.heap.push (seqObj "list" #[] 0)).update s.heap.objs.size (Obj.mapSeq (· ++ its.toArray))).push (seqObj "list" its.toArray 0)).get? (s.heap.objs.size+1)=some (seqObj "list" its.toArray 0):=by
  rw[← hsz];exact Heap.get?_push_size _ rfl
 have keep:∀b o,s.heap.get? b=some o→(((s.heap.push (seqObj "list" #[] 0)).update s.heap.objs.size (Obj.mapSeq (· ++ its.toArray))).push (seqObj "list" its.toArray 0)).get? b=some o:=fun b o q=>by
  have hlt:b<s.heap.objs.size:=Heap.lt_size q
  rw[Heap.get?_push_ne _ _ _ (by rw[hsz];exact Nat.ne_of_lt (Nat.lt_succ_of_lt hlt)),Heap.get?_update_ne _ _ _ _ (Nat.ne_of_lt hlt),Heap.get?_push_ne _ _ _ (Nat.ne_of_lt hlt)]
  exact q
 have hsz1:(((s.heap.push (seqObj "list" #[] 0)).update s.heap.objs.size (Obj.mapSeq (· ++ its.toArray))).push (seqObj "list" its.toArray 0)).objs.size=s.heap.objs.size+2:=by rw[size_push',hsz]
 show wpAny _ _ _ _ _ { s with heap:=((s.heap.push (seqObj "list" #[] 0)).update s.heap.objs.size (Obj.mapSeq (· ++ its.toArray))).push (seqObj "list" its.toArray 0) }
 rw[hsz]
 generalize ((s.heap.push (seqObj "list" #[] 0)).update s.heap.objs.size (Obj.mapSeq (· ++ its.toArray))).push (seqObj "list" its.toArray 0)=h1 at hoL keep hsz1 ⊢
 refine zwb0 (wpAny_holding (wpAny_call_entry_kw slot_list_sort ⟨_,hoL,rfl⟩ entry_list_sort ?body (ksk_l1 _ _)))
 case body=>
 show wpAny (model X.prog X.w) A.in1.in1 (Builtin.«list.sort» ⟨[.ref (s.heap.objs.size+1)],[(Str.ofString "key",.ref f)]⟩) _ _ _
 rw[ksk_t1]
 obtain ⟨D,eD⟩ : ∃D,s.heap.objs.size+1=D:=⟨_,rfl⟩
 rw[eD] at hoL ⊢
 have hD1:D<h1.objs.size:=by omega
 obtain ⟨e1,ho1⟩ : ∃e1,(h1.update D (Obj.mapSeq fun _=>(#[]:Array Value))).get? D=some (seqObj "list" #[] e1):=⟨_,get?_update_seq hoL fun _=>#[]⟩
 unfold ksk_tree
 refine zwb0 (listItems_at hoL rfl ?_)
 refine zwb0 (listUpdate_at hoL rfl ?_ (by rw[List.size_toArray,sizeLine_eq];omega) (Nat.zero_le _))
 refine zwb0 (seqEpoch_at ho1 rfl ?_)
 refine zwb0 (wpAny_newTuple ?_ (by show its.length≤_;rw[sizeLine_eq];omega))
 refine zwb0 (wpAny_newList ?_ (Nat.zero_le _))
 refine wpAny_holding ?_
 have hkS:((h1.update D (Obj.mapSeq fun _=>(#[]:Array Value))).push (seqObj "tuple" its.toArray 0)).objs.size=s.heap.objs.size+3:=by rw[size_push',Heap.size_update,hsz1]
 have keep2:∀b o,s.heap.get? b=some o→(((h1.update D (Obj.mapSeq fun _=>(#[]:Array Value))).push (seqObj "tuple" its.toArray 0)).push (seqObj "list" #[] 0)).get? b=some o:=fun b o q=>by
  have hlt:b<s.heap.objs.size:=Heap.lt_size q
  refine Heap.get?_push_of_some _ (Heap.get?_push_of_some _ ?_)
  rw[Heap.get?_update_ne _ _ _ _ (Nat.ne_of_lt (Nat.lt_trans hlt (by omega)))]
  exact keep b o q
 have ho2:(((h1.update D (Obj.mapSeq fun _=>(#[]:Array Value))).push (seqObj "tuple" its.toArray 0)).push (seqObj "list" #[] 0)).get? D=some (seqObj "list" #[] e1):=Heap.get?_push_of_some _ (Heap.get?_push_of_some _ ho1)
 have hoS:(((h1.update D (Obj.mapSeq fun _=>(#[]:Array Value))).push (seqObj "tuple" its.toArray 0)).push (seqObj "list" #[] 0)).get? (s.heap.objs.size+3)=some (seqObj "list" #[] 0):=by
  rw[← hkS];exact Heap.get?_push_size _ rfl
 show wpAny (model X.prog X.w) A.in1.in1 _ _ _ { s with heap:=((h1.update D (Obj.mapSeq fun _=>(#[]:Array Value))).push (seqObj "tuple" its.toArray 0)).push (seqObj "list" #[] 0) }
 rw[hkS]
 obtain ⟨S,eS⟩ : ∃S,s.heap.objs.size+3=S:=⟨_,rfl⟩
 rw[eS] at hoS ⊢
 generalize ((h1.update D (Obj.mapSeq fun _=>(#[]:Array Value))).push (seqObj "tuple" its.toArray 0)).push (seqObj "list" #[] 0)=h2 at keep2 ho2 hoS ⊢
 have hDS:D≠S:=by omega
 have HD:H D=none:=I.hok.fresh (by omega)
 have HS':H S=none:=I.hok.fresh (by omega)
 have geD:X.s₀.heap.objs.size≤D:=Nat.le_trans I.sz (by omega)
 have geS:X.s₀.heap.objs.size≤S:=Nat.le_trans I.sz (by omega)
 have pinlt:∀p∈X.pn++pins,p.1<s.heap.objs.size:=fun p hp=>Heap.lt_size (I.pin p hp).1
 have pinD:∀p∈X.pn++pins,p.1≠D:=fun p hp=>Nat.ne_of_lt (Nat.lt_trans (pinlt p hp) (by omega))
 have pinS:∀p∈X.pn++pins,p.1≠S:=fun p hp=>Nat.ne_of_lt (Nat.lt_trans (pinlt p hp) (by omega))
 have pinDS:∀o,∀p∈X.pn++((D,o)::pins),p.1≠S:=fun o p hp=>by
  rcases List.mem_append.mp hp with z|z
  ·exact pinS p (List.mem_append_left _ z)
  ·rcases List.mem_cons.mp z with rfl|z
   ·exact hDS
   ·exact pinS p (List.mem_append_right _ z)
 have I2:Inv X ((S,seqObj "list" #[] 0)::(D,seqObj "list" #[] e1)::pins) σ H { s with heap:=h2 }:=by
  have J:=I.kept (t':=s.toks) keep2
  refine J.pins_of fun p hp=>?_
  rcases List.mem_cons.mp hp with rfl|hp
  ·exact⟨hoS,HS',Nat.ne_of_gt (Nat.lt_of_lt_of_le I.lt (by omega)),I.nofs (by omega),fun v z=>(by cases z)⟩
  ·rcases List.mem_cons.mp hp with rfl|hp
   ·exact⟨ho2,HD,Nat.ne_of_gt (Nat.lt_of_lt_of_le I.lt (by omega)),I.nofs (by omega),fun v z=>(by cases z)⟩
   ·exact J.pin p (List.mem_append_right _ hp)
 unfold ksk_rest
 refine zwb0 (wpAny_rule ?_)
 first
  |rw[List.forIn_toArray]
  |(rw[← Array.forIn_toList];simp only[List.toList_toArray])
  |rw[← Array.forIn_toList]
 refine zwb0 (ksk_fold (fun i s'=>∃H' bs e,Inv X ((S,seqObj "list" (List.toArray (List.map Value.ref bs)) e)::(D,seqObj "list" #[] e1)::pins) σ H' s'∧Same H H'∧bs.length=i∧yzz H' bs ns key) its 0 _ ⟨H,[],0,I2,Same.refl H,rfl,fun j b n e=>(by cases e)⟩ (fun j u s' hj hJ=>?_) fun s' hJ=>?_)
 ·obtain ⟨H',bs,e,J,sm,hbl,hks⟩:=hJ
  rw[Nat.zero_add] at hbl ⊢
  have hjl:j<its.length:=(List.getElem?_eq_some_iff.mp hj).1
  obtain ⟨n,en⟩ : ∃n,ns[j]? = some n:=⟨_,List.getElem?_eq_getElem (by omega)⟩
  obtain ⟨u',eu,ru⟩:=rv.get (i:=j) (x:=.int n) (by rw[List.getElem?_map,en];rfl)
  rw[hj] at eu
  cases eu
  refine zwb0 (wpAny_attempt (wpAny_mono (hcall n (List.mem_of_getElem? en) _ H' s' u (fun p hp=>.tail _ (.tail _ hp)) J sm ru) (fun k s'' hk=>?_) fun _ _ hF=>hF.elim))
  obtain ⟨y,H3,J3,ry,b,rfl,sm3,hb⟩:=hk
  cases ry
  obtain ⟨eS3,nS3,lS3,fS3,dS3⟩:=J3.pin (S,seqObj "list" (List.toArray (List.map Value.ref bs)) e) (List.mem_append_right _ (.head _))
  dsimp only at eS3
  have s1:=Heap.SameBut.update s''.heap S (Obj.mapSeq (·.push (.ref b)))
  have ea:(List.toArray (List.map Value.ref bs)).push (.ref b)=List.toArray (List.map Value.ref (bs++[b])):=by simp
  obtain ⟨c2,hc2⟩ : ∃c2,(s''.heap.update S (Obj.mapSeq (·.push (.ref b)))).get? S=some (seqObj "list" (List.toArray (List.map Value.ref (bs++[b]))) c2):=⟨_,by rw[← ea];exact get?_update_seq eS3 (·.push (.ref b))⟩
  try dsimp only
  refine zwb0 (listUpdate_at eS3 rfl ?_ (by rw[List.size_toArray,List.length_map,sizeLine_eq];omega) (Nat.le_trans (Nat.le_of_eq (Array.size_push ..)) (by rw[List.size_toArray,List.length_map,sizeLine_eq];omega)))
  refine zwp0 ⟨rfl,H3,bs++[b],c2,J3.turn1 (t':=s''.toks) s1 hc2 (fun v z=>(by cases z)) geS (pinDS _),sm.trans sm3,by rw[List.length_append,List.length_singleton];omega,fun j' b' n' e1' e2'=>?_⟩
  by_cases hjj:j' < bs.length
  ·rw[List.getElem?_append_left hjj] at e1'
   exact sm3 _ _ (hks j' b' n' e1' e2')
  ·have:j'=bs.length:=by
    have:=(List.getElem?_eq_some_iff.mp e1').1
    rw[List.length_append,List.length_singleton] at this
    omega
   subst this
   rw[List.getElem?_append_right (Nat.le_refl _),Nat.sub_self] at e1'
   cases e1'
   rw[hbl,en] at e2'
   cases e2'
   exact hb
 ·obtain ⟨H',bs,e,J,sm,hbl,hks⟩:=hJ
  rw[Nat.zero_add] at hbl
  obtain ⟨eS3,nS3,lS3,fS3,dS3⟩:=J.pin (S,seqObj "list" (List.toArray (List.map Value.ref bs)) e) (List.mem_append_right _ (.head _))
  obtain ⟨eD3,nD3,_⟩:=J.pin (D,seqObj "list" #[] e1) (List.mem_append_right _ (.tail _ (.head _)))
  dsimp only at eS3 eD3
  try dsimp only
  refine zwb0 (listItems_at eS3 rfl ?_)
  unfold ksk_end
  try dsimp only
  rw[if_neg Bool.false_ne_true]
  have hkl:(List.map Value.ref bs).length=its.length:=by rw[List.length_map,hbl]
  have tt:TupsAt s'.heap bs (ns.map key):=⟨by rw[List.length_map];omega,fun i b r x1 x2=>by
   rw[List.getElem?_map] at x2
   cases en:ns[i]? with
   |none=>rw[en] at x2;cases x2
   |some n=>
    rw[en] at x2
    cases x2
    obtain ⟨_,us,rr,y⟩:=(show ObjOk X.prog X.w H' s'.heap b (.tup ((key n).map V.int)) from J.hok b _ (hks i b n x1 en))
    exact⟨us,y,ygu rr⟩⟩
  have hwk:∀r∈ns.map key,r.length=wd:=fun r hr=>by
   obtain ⟨n,hn,rfl⟩:=List.mem_map.mp hr
   exact hw n hn
  have tail:∀(st':SortSt) (p:Array Nat),PermN its.length p→Up (yq5 (ns.map key)) p its.length→(arrOf st').map (·.2)=List.toArray (p.toList.map fun i=>its.getD i Value.none)→failedOf st'=none→
   wpAny (model X.prog X.w) A.in1.in1 (ksk_tail D false e1 (.ref S) st') (fun fin s'=>∃v,fin = .done (.ret v)∧wpAny (model X.prog X.w) A.in1 (pure (PySem.Fin.done (.ret (.ref D)))) (fun fin s'=>∃v,fin = .done (.ret v)∧Q v s') E s') E s':=by
   intro st' p hp hu har hf
   unfold ksk_tail
   try dsimp only
   rw[har]
   have s1:=Heap.SameBut.update s'.heap S (Obj.mapSeq fun _=>(#[]:Array Value))
   obtain ⟨c1,hc1⟩ : ∃c1,(s'.heap.update S (Obj.mapSeq fun _=>(#[]:Array Value))).get? S=some (seqObj "list" #[] c1):=⟨_,get?_update_seq eS3 fun _=>#[]⟩
   have eD4:(s'.heap.update S (Obj.mapSeq fun _=>(#[]:Array Value))).get? D=some (seqObj "list" #[] e1):=(s1.2 D hDS).trans eD3
   have s2:=Heap.SameBut.update (s'.heap.update S (Obj.mapSeq fun _=>(#[]:Array Value))) D (Obj.mapSeq fun _=>List.toArray (p.toList.map fun i=>its.getD i Value.none))
   obtain ⟨c2,hc2⟩ : ∃c2,((s'.heap.update S (Obj.mapSeq fun _=>(#[]:Array Value))).update D (Obj.mapSeq fun _=>List.toArray (p.toList.map fun i=>its.getD i Value.none))).get? D=some (seqObj "list" (List.toArray (p.toList.map fun i=>its.getD i Value.none)) c2):=⟨_,get?_update_seq eD4 fun _=>List.toArray (p.toList.map fun i=>its.getD i Value.none)⟩
   refine zwb0 (listUpdate_at eS3 rfl ?_ (by rw[List.size_toArray,sizeLine_eq];omega) (Nat.zero_le _))
   refine zwb0 (wpAny_letGo ?_)
   refine zwb0 (seqEpoch_at eD4 rfl ?_)
   refine zwb0 (listUpdate_at eD4 rfl ?_ (Nat.zero_le _) (by
    show (List.toArray (p.toList.map fun i=>its.getD i Value.none)).size≤_
    rw[List.size_toArray,List.length_map,Array.length_toList,hp.size,sizeLine_eq];omega))
   rw[hf]
   simp only[bne_self_eq_false,Bool.false_eq_true,if_false]
   refine zwp0 ⟨_,rfl,zwp0 ⟨_,rfl,?_⟩⟩
   have J1:=J.turn1 (t':=s'.toks) s1 hc1 (fun v z=>(by cases z)) geS (pinDS _)
   have J2:Inv X ((D,seqObj "list" #[] e1)::pins) σ H' { s' with heap:=s'.heap.update S (Obj.mapSeq fun _=>(#[]:Array Value)) }:=J1.pins_of fun p hp=>J1.pin p (List.mem_append_right _ (.tail _ hp))
   have J3:=J2.turn1 (t':=s'.toks) s2 hc2 (fun v z=>(by cases z)) geD pinD
   have hmem:∀i∈p.toList,i<its.length:=fun i hi=>List.mem_range.mp ((List.Perm.mem_iff hp).mp hi)
   have vv:∀is:List Nat,(∀i∈is,i<its.length)→Vals ((is.map fun i=>ns.getD i 0).map V.int) (is.map fun i=>its.getD i Value.none):=fun is his=>by
    induction is with
    |nil=>exact .nil
    |cons i r ih=>
     refine .cons ?_ (ih fun j hj=>his j (.tail _ hj))
     have hi:=his i (.head _)
     obtain ⟨u,eu,ru⟩:=rv.get (i:=i) (x:=.int (ns.getD i 0)) (by
      rw[List.getElem?_map,List.getD_eq_getElem?_getD,List.getElem?_eq_getElem (show i<ns.length by omega)];rfl)
     show RelV (.int (ns.getD i 0)) (its.getD i Value.none)
     rw[List.getD_eq_getElem?_getD (l:=its),eu]
     exact ru
   refine h D (p.toList.map fun i=>ns.getD i 0) (upd H' D (.lst ((p.toList.map fun i=>ns.getD i 0).map V.int))) _ HD ?_ ?_ (sm.trans (yae nD3 _)) yab (J3.track1 geD pinD ⟨?_,_,c2,vv _ hmem,hc2⟩)
   ·have e1:(List.range its.length).map (fun i=>ns.getD i 0)=ns:=by
     apply List.ext_getElem?
     intro i
     rw[List.getElem?_map]
     by_cases hi:i<its.length
     ·rw[List.getElem?_range hi];simp [show i<ns.length by omega]
     ·rw[List.getElem?_eq_none (by simpa using hi),List.getElem?_eq_none (by omega)];rfl
    have:=hp.map (fun i=>ns.getD i 0)
    rw[e1] at this
    exact this
   ·rw[List.pairwise_map,List.pairwise_iff_getElem]
    intro i j hi hj hij
    have hj':j<its.length:=by rw[Array.length_toList,hp.size] at hj;exact hj
    have:=hu i j (Nat.le_of_lt hij) hj'
    have gi:gA p i=p.toList[i]:=by
     rw[Array.length_toList] at hi
     simp [gA,hi]
    have gj:gA p j=p.toList[j]:=by
     rw[Array.length_toList] at hj
     simp [gA,hj]
    rw[gi,gj] at this
    have kk:∀i,i<ns.length→(ns.map key).getD i []=key (ns.getD i 0):=fun i hi=>by simp [hi]
    have this':yfq ((ns.map key).getD p.toList[j] []) ((ns.map key).getD p.toList[i] [])=false:=this
    rw[kk _ (by have:=hmem _ (List.getElem_mem hj);omega),kk _ (by have:=hmem _ (List.getElem_mem hi);omega)] at this'
    exact this'
   ·rw[List.length_map,List.length_map,Array.length_toList,hp.size,sizeLine_eq];omega
  by_cases h2:its.toArray.size<2
  ·rw[if_pos h2,if_pos h2]
   refine zwb0 (zwp0 ?_)
   rw[StateT.run_pure]
   refine zwb0 (zwp0 ?_)
   rw[if_neg Bool.false_ne_true]
   have pr:PermN its.length (List.toArray (List.range its.length)):=by unfold PermN;simp
   refine tail _ (List.toArray (List.range its.length)) pr (yo4 (ykh _) (by rw[List.size_toArray] at h2;exact h2)) ?_ rfl
   exact kat_snds (vs:=its) (ks:=List.map Value.ref bs) (p:=List.toArray (List.range its.length)) hkl (by
    have e:=kas_range ((List.map Value.ref bs).toArray.zip its.toArray)
    rw[show ((List.map Value.ref bs).toArray.zip its.toArray).size=its.length by simp [hkl,hbl]] at e
    exact e.symm)
  ·rw[if_neg h2,if_neg h2]
   rw[List.size_toArray] at h2
   obtain ⟨fs,f1,f2,f3⟩:=tt.kat fun r hr z=>by have:=hwk r hr;rw[z] at this;simp at this;omega
   refine zwb0 (kat_kind (T:=.type "int") f2 (by omega) (fun v hv=>?_) rfl ?_)
   ·obtain ⟨m,k,rfl⟩:=f3 v hv
    exact Looks.of_pure rfl
   rw[show ((Value.type "int" : Value) != Value.type "tuple")=true from rfl,if_neg Bool.false_ne_true]
   refine zwb0 (wpAny_mono (kat_run (A:=A.in1.in1) (vs:=its) (ks:=List.map Value.ref bs) (κ:=tuples' true)
    (G:=fun p s2=>(PermN its.length p∧Up (yq5 (ns.map key)) p its.length)∧s2=s')
    (Q:=fun st' s2=>∃p:Array Nat,PermN its.length p∧Up (yq5 (ns.map key)) p its.length∧arrOf st'=p.map (kas_item ((List.map Value.ref bs).toArray.zip its.toArray))∧failedOf st'=none∧s2=s')
    hkl (by omega) (by omega) (fun p' st' s2 a1 a2 a3 a4=>⟨p',a4.1.1,a4.1.2,a2,a3,a4.2⟩) ?_) ?_ fun _ _ e=>e)
   ·refine ysf (n:=its.length) (lt:=yq5 (ns.map key)) (fun i j C hi hj q=>TupsAt.ask tt hwk i j C (by omega) (by omega) q) (ycr (fun p hp=>⟨hp,rfl⟩) (ysi (ykh _) (by omega)))
   ·rintro ⟨⟨⟩,st'⟩ s2 ⟨p,hp,hu,har,hf,rfl⟩
    dsimp only
    exact tail st' p hp hu (kat_snds hkl har) hf
end
def ywu (P:Addr)(q:Str)(lpos:Pos)(ix:List (Option Nat))(tb:TE)(σ:St)(Q:VK)(v:V)(H1:Hp):Prop:=∃(l:Addr) (ns:List Int) (key:Int→List Int) (wd:Nat),v = .ref l∧H1 l=some (.lst (ns.map V.int))∧ns.length<64∧H1 P=some (.cod q lpos)∧0<wd∧(∀n∈ns,(key n).length=wd)∧
 (∀n∈ns,∀H2,(∀b o,H1 b=some o→o≠.cod q lpos→o≠.own P→H2 b=some o)→tb (yvw ix σ (.int n)) H2 fun y H3=>∃b,y = .ref b∧Same H2 H3∧H3 b=some (.tup ((key n).map V.int)))∧
 ∀(D:Addr) (ms:List Int) H',H1 D=none→ms.Perm ns→ms.Pairwise (fun a b=>yfq (key b) (key a)=false)→Same H1 H'→H' D=some (.lst (ms.map V.int))→Q (.ref D) H'
def yz0 (te:TE)(P:Addr)(q:Str)(lpos:Pos)(ix:List (Option Nat))(tb:TE):TE:=fun σ H Q=>te σ H fun v H1=>ywu P q lpos ix tb σ Q v H1
theorem yvy {X:Cx}{k:Nat}{e body:Expr}{te tb:TE}{P c:Addr}{q p:Str}{N':List Str}{ix:List (Option Nat)}{params:Arguments}{scope:Scope}{npos lpos kpos pos:Pos} (hr:Room k X.A) (ha:PA X [e] (ybp te yhw)) (hg:Gl X "sorted") (hm:X.mg "sorted" = none) (hv:bootBuiltins "sorted" = some (.builtin "sorted"))
 (hex:X.ex=[]) (hcode:X.env.code = .ref c) (C:codeHdIn X.K c P=true) (B:ylb X.mg X.base) (hdef:defaultsOf params X.env=([],[])) (hq:X.env.qual ++ "<lambda>" = q) (S:LamScope X N' ix p scope)
 (hbnd:∀(cl:List (Str×Addr)) (pm:Value) (c':Addr) (ctv u:Value),bindArgs (kla_fn "<lambda>" q params body scope cl pm (.ref c') ctv) ⟨[u],[]⟩=pure [(p,u)])
 (hb:∀(A:Around) (f c':Addr) (s:Shared) (H:Hp),PE (yye X A N' q scope f c' s H) body tb)
 (he:backTo pos (starEach [e] X.env)=(false,eval e X.env)::backTo pos (starEach [] X.env):=by rfl) (hpl:(backTo pos (starEach [e] X.env)).any (·.1)=false:=by rfl) :
 PE X (.Call (.Name "sorted" npos) [e] [⟨some (Str.ofString "key"),.Lambda params body scope lpos,kpos⟩] pos) (yz0 te P q lpos ix tb):=by
 refine⟨?_⟩
 intro pins s σ H Q I h
 refine wpAny_Call_Name_kw (yht I hg hm hv ?_ (by decide) (by decide))
 refine callWith_kw (thn (ha pos pins s σ H (fun vs H1=>match vs with | [v]=>ywu P q lpos ix tb σ Q v H1|_=>False) I h) fun us s1 ⟨vs,H1,I1,r1,q1⟩=>?_) he hpl
 obtain ⟨v,rfl⟩ : ∃v,vs=[v]:=by
  match vs,q1 with
  |[v],_=>exact⟨v,rfl⟩
 obtain ⟨l,ns,key,wd,rfl,hl,h64,hP,hw0,hw,hkey,q⟩:=q1
 obtain ⟨u,rfl,ru⟩:=r1.one
 cases ru
 show wpAny _ _ (evalAll ((do let v ← eval (.Lambda params body scope lpos) X.env;standAt pos;pure v)::[])) _ _ s1
 refine wpAny_evalAll_cons (zwb0 ?_)
 have hcl:closureFor scope X.env=pure (ygo X.env scope.names []):=yga fun y hy hf=>I1.ok.has y.1 (.inl (S.free y hy hf))
 refine yvv I1 hex hP hcode C B hcl hdef hq fun f c' ctv co s2 J hco hne hfn hcn nc hpp=>?_
 refine zwb0 (wpAny_standAt (zwp0 (wpAny_evalAll_nil ?_)))
 have ncc:∀b o,H1 b=some o→o≠.own P→b≠c':=fun b o e n z=>by
  rw[z] at e
  rcases hcn with y|y
  ·rw[y] at e;cases e
  ·rw[y] at e;cases e;exact n rfl
 have npp:∀b o,H1 b=some o→o≠.cod _ lpos→b≠P:=fun b o e n z=>by
  rw[z,hP] at e;cases e;exact n rfl
 have hl2:ydi H1 P c' l=some (.lst (ns.map V.int)):=by rw[ycj (npp _ _ hl (by intro z;cases z)) (ncc _ _ hl (by intro z;cases z))];exact hl
 show wpAny _ _ (call (.builtin "sorted") [.ref l] [(Str.ofString "key",.ref f)]) _ _ s2
 refine yqs J (SqL.of hl2) h64 hw hw0 (fun n hn pins' H2 s3 u hsub J3 sm ru=>?_) fun D ms H3 s3 hD hperm hpw sm hD3 J3=>?_
 ·have pf:=J3.pin (f,kla_obj "<lambda>" _ params body scope (ygo X.env scope.names []) ((X.mg "__name__").getD .none) c' ctv) (List.mem_append_right _ (hsub _ (.head _)))
  have pc:=J3.pin (c',co) (List.mem_append_right _ (hsub _ (.tail _ (.tail _ (.head _)))))
  obtain ⟨vs,t,d1,d2⟩:=hco
  refine yvx J3 hr.hd I1.ok.frames hr.depth S pf.1 ⟨c',co,vs,t,rfl,pc.1,d1,d2⟩ (hbnd _ _ _ _ _) (hb _ f c' s3 H2) ru (hkey n hn H2 fun b o e n1 n2=>sm _ _ ?_)
  rw[ycj (npp _ _ e n1) (ncc _ _ e n2)]
  exact e
 ·have pP:=(J3.pin (P,tabObj #[rawInt lpos.line,rawInt lpos.col,.ref c']) (List.mem_append_right _ (.tail _ (.head _)))).2.1
  have pc:=(J3.pin (c',co) (List.mem_append_right _ (.tail _ (.tail _ (.head _))))).2.1
  dsimp only at pP pc
  have nDP:D≠P:=fun z=>by rw[z,pP] at hD3;cases hD3
  have nDc:D≠c':=fun z=>by rw[z,pc] at hD3;cases hD3
  have J4:=J3.retrack hco hne (I1.notOld hex hP) nc hpp
  refine⟨.ref D,_,J4,rfl,q D ms _ ?_ hperm hpw (fun b o e=>?_) ?_⟩
  ·rw[ycj nDP nDc] at hD;exact hD
  ·by_cases hb:b=c'
   ·subst hb
    rw[yab]
    rcases hcn with z|z
    ·rw[z] at e;cases e
    ·rw[z] at e;exact e
   ·rw[yak hb]
    by_cases hb2:b=P
    ·subst hb2
     rw[yab,← hP];exact e
    ·rw[yak hb2]
     exact sm _ _ (by rw[ycj hb2 hb];exact e)
  ·rw[yak nDc,yak nDP];exact hD3
theorem Fun.okC {P:Program}{w:World}{K:PySem.W.Frag}{mg:Str→Option Value}{base:Heap}{x qual:Str}{st:Stmt}{f c:Addr}{fd:FuncData}{N ps:List Str}{k:Nat}{sp:Sp}(F:Fun K x qual st f fd)(hc:fd.code = .ref c)(S:FnScope N ps (yaa st))(len:∀vs H Q E,sp vs H Q E→vs.length=ps.length)
 (hbody:∀(A:Around) (outer:List Env) (s:Shared) (H:Hp) (vs:List V) (Q:VK) (E:XK),Room k (A.deeper (envOfC qual (yaa st) s.heap.objs.size f (.ref c)))→sp vs H Q E→
  ∃t,PSs (yq3 CX0 P w K mg base N qual (yaa st) f (.ref c) A outer s H E).nox (yap st) t∧t { nx:=fun _ H'=>Q .non H',rt:=Q } (yi8 N vs) H):FnOk P w K mg base CX0 (k+1) f fd ps sp:=by
 obtain ⟨oc,od,kV,doc,pm,an,cdv,ct,osl,rfl,lk,hcd⟩:=F.ex
 obtain rfl:cdv = .ref c:=hc
 refine yw8 lk hcd S len fun A outer s H vs Q E hr hsp=>?_
 obtain ⟨t,h,q⟩:=hbody A outer s H vs Q E hr hsp
 exact⟨t,h.nox,q⟩
def yz1 (N N':List Str)(ix:List (Option Nat))(p:Str)(scope D:Scope):Bool:=
 (scope.kind == .function)&&(!scope.isCoroutine)&&(!scope.isGenerator)&&(scope.names.all fun y=>(y.2 != .cell)&&(y.2 != .free || D.names.lookup y.1 == some .cell))&&(N'[0]? == some p)&&(scope.names.lookup p == some .local)&&(ix.length == N'.length)&&decide (0<N'.length) &&
 ((List.range N'.length).all fun k=>match ix[k]?,N'[k]? with
  |some (some j),some x=>N[j]? == some x&&scope.names.contains (x,.free)&&scope.names.lookup x == some .free
  |_,_=>true)
theorem ytp {X:Cx}{N':List Str}{ix:List (Option Nat)}{p:Str}{scope:Scope}{N:List Str}{D:Scope}(h:yz1 N N' ix p scope D=true)(hN:X.N=N:=by rfl)(hD:X.env.scope=D:=by rfl):LamScope X N' ix p scope:=by
 unfold yz1 at h
 simp only[Bool.and_eq_true,decide_eq_true_eq] at h
 obtain ⟨⟨⟨⟨⟨⟨⟨⟨h1,h2⟩,h3⟩,h4⟩,h5⟩,h6⟩,h7⟩,h8⟩,h9⟩:=h
 have hall:=List.all_eq_true.mp h4
 refine⟨by simpa using h1,by simpa using h2,by simpa using h3,fun y hy z=>?_,by simpa using h5,by simpa using h6,by simpa using h7,h8,fun y hy z=>?_,fun k j x e1 e2=>?_⟩
 ·have:=hall y hy
  rw[z] at this
  simp at this
 ·have:=hall y hy
  rw[z] at this
  have q:D.names.lookup y.1=some .cell:=by simpa using this
  show X.env.scope.names.lookup y.1=some .cell
  rw[hD];exact q
 ·have hk:k<N'.length:=(List.getElem?_eq_some_iff.mp e1).1
  have:=List.all_eq_true.mp h9 k (List.mem_range.mpr hk)
  rw[e1,e2] at this
  simp only[Bool.and_eq_true] at this
  obtain ⟨⟨a,b⟩,c⟩:=this
  refine⟨by rw[hN];simpa using a,by simpa using b,by simpa using c⟩
def yz2 (st:Stmt):Pos:=match yap st with
 |[.Return (some (.Call _ _ [⟨_,.Lambda _ _ _ pos,_⟩] _)) _]=>pos
 |_=>⟨0,0,0,0⟩
abbrev Tbs:=List (Addr×Str×Pos)
def Tb (ts:Tbs)(H:Hp):Prop:=∀t∈ts,H t.1=some (.cod t.2.1 t.2.2)
theorem Tb.same {ts:Tbs}{H H':Hp}(h:Tb ts H)(s:Same H H'):Tb ts H':=fun t ht=>s _ _ (h t ht)
theorem Tb.keep {ts:Tbs}{H H':Hp}{a c:Addr}(h:Tb ts H)(d:DrawAt H a c)(k:KeepBut a H H'):Tb ts H':=fun t ht=>by
 refine k _ _ (fun z=>?_) (h t ht)
 obtain ⟨_,_,_,_,_,e,_⟩:=d
 have:=h t ht
 rw[z,e] at this;cases this
def ymx (ts:Tbs)(key:List (List Int)→Int→List Int)(ok:List Int→Prop):Sp:=fun vs H Q _=>∃(a:Addr) (rs:List (List Int)),vs=[.ref a]∧Tb ts H∧Rows H a rs∧rs.length≤60∧(∀r∈rs,ok r)∧
 ∀(l:Addr) (os:List Int) (H':Hp),H l=none→Same H H'→yb2 (key rs) rs.length os→H' l=some (.lst (os.map V.int))→Q (.ref l) H'
end L2
namespace L2
def S:List (Int×Int)→Int→Int→Int
 |[],_,_=>0
 |p::r,f,l=>(if f≤p.1∧p.1≤l then p.2 else 0)+S r f l
def ygp (tm e:Int):Int→List (Int×Int)→List (Int×Int)
 |_,[]=>[]
 |c,p::r=>(p.1,p.2-(if 0<min c p.2∧e-tm≤p.1∧p.1≤e then min c p.2 else 0))::ygp tm e (c-(if 0<min c p.2∧e-tm≤p.1∧p.1≤e then min c p.2 else 0)) r
def yz3 (tm:Int):List (Int×Int)→List (Int×Int)→List (Int×Int)
 |[],L=>L
 |o::O,L=>yz3 tm O (ygp tm o.1 o.2 L)
def Pos (L:List (Int×Int)):Prop:=∀p∈L,0≤p.2
def Up1 (L:List (Int×Int)):Prop:=L.Pairwise fun p q=>p.1≤q.1
def zac (L O:List (Int×Int))(tm:Int):Prop:=∀f l,f≤l→S L f l≤S O f (l+tm)
theorem yhr:∀{L:List (Int×Int)},Pos L→∀f l,0≤S L f l
 |[],_,f,l=>Int.le_refl _
 |p::r,h,f,l=>by
  have h1:=h p (.head _)
  have h2:=yhr (L:=r) (fun q hq=>h q (.tail _ hq)) f l
  show 0≤(if f≤p.1∧p.1≤l then p.2 else 0)+S r f l
  split <;> omega
theorem ytq:∀{L:List (Int×Int)},Pos L→∀{f l f' l':Int},f'≤f→l≤l'→S L f l≤S L f' l'
 |[],_,f,l,f',l',_,_=>Int.le_refl _
 |p::r,h,f,l,f',l',h1,h2=>by
  have h0:=h p (.head _)
  have h3:=ytq (L:=r) (fun q hq=>h q (.tail _ hq)) h1 h2
  show (if f≤p.1∧p.1≤l then p.2 else 0)+S r f l≤(if f'≤p.1∧p.1≤l' then p.2 else 0)+S r f' l'
  split <;> split <;> omega
theorem ymy:∀{L:List (Int×Int)}{f l:Int},(∀p∈L,¬ (f≤p.1∧p.1≤l))→S L f l=0
 |[],_,_,_=>rfl
 |p::r,f,l,h=>by
  show (if f≤p.1∧p.1≤l then p.2 else 0)+S r f l=0
  rw[if_neg (h p (.head _)),ymy fun q hq=>h q (.tail _ hq)]
  rfl
theorem yix {tm e:Int}:∀{c:Int}{L:List (Int×Int)},(ygp tm e c L).map (·.1)=L.map (·.1)
 |_,[]=>rfl
 |c,p::r=>by show p.1::(ygp tm e _ r).map (·.1)=p.1::r.map (·.1);rw[yix]
theorem yyg {L M:List (Int×Int)}(h:M.map (·.1)=L.map (·.1))(hL:Up1 L):Up1 M:=by
 unfold Up1 at *
 rw[← List.pairwise_map (f:=fun p:Int×Int=>p.1) (R:=(·≤·))] at *
 rw[h];exact hL
theorem ylc {tm e:Int}:∀{c:Int}{L:List (Int×Int)},Pos L→Pos (ygp tm e c L)
 |_,[],h=>h
 |c,p::r,h=>fun q hq=>by
  have h0:=h p (.head _)
  rcases List.mem_cons.mp hq with z|z
  ·rw[z]
   show 0≤p.2-(if 0<min c p.2∧e-tm≤p.1∧p.1≤e then min c p.2 else 0)
   split <;> omega
  ·exact ylc (fun q hq=>h q (.tail _ hq)) q z
theorem ytr {tm e:Int}:∀{c:Int}{L:List (Int×Int)},Pos L→∀f l,S (ygp tm e c L) f l≤S L f l
 |_,[],_,_,_=>Int.le_refl _
 |c,p::r,h,f,l=>by
  have h0:=h p (.head _)
  have ih:=ytr (tm:=tm) (e:=e) (c:=c-(if 0<min c p.2∧e-tm≤p.1∧p.1≤e then min c p.2 else 0)) (L:=r) (fun q hq=>h q (.tail _ hq)) f l
  show (if f≤p.1∧p.1≤l then p.2-(if 0<min c p.2∧e-tm≤p.1∧p.1≤e then min c p.2 else 0) else 0)+S (ygp tm e _ r) f l≤(if f≤p.1∧p.1≤l then p.2 else 0)+S r f l
  split
  ·have:0≤(if 0<min c p.2∧e-tm≤p.1∧p.1≤e then min c p.2 else 0):=by split <;> omega
   omega
  ·omega
theorem ymz {tm e:Int}:∀{L:List (Int×Int)},ygp tm e 0 L=L
 |[]=>rfl
 |p::r=>by
  show (p.1,p.2-(if 0<min 0 p.2∧e-tm≤p.1∧p.1≤e then min 0 p.2 else 0))::ygp tm e (0-(if 0<min 0 p.2∧e-tm≤p.1∧p.1≤e then min 0 p.2 else 0)) r=p::r
  rw[if_neg (by omega)]
  show (p.1,p.2-0)::ygp tm e (0-0) r=p::r
  rw[Int.sub_zero,Int.sub_zero,ymz]
theorem ym0 {tm e:Int}:∀{c:Int}{L:List (Int×Int)},0≤c→Pos L→∀f l,S L f l≤(if f≤e∧e≤l+tm then c else 0)+S (ygp tm e c L) f l
 |c,[],hc,_,f,l=>by
  show (0:Int)≤_+0
  split <;> omega
 |c,p::r,hc,h,f,l=>by
  have h0:=h p (.head _)
  have y0:0≤(if 0<min c p.2∧e-tm≤p.1∧p.1≤e then min c p.2 else 0)∧(if 0<min c p.2∧e-tm≤p.1∧p.1≤e then min c p.2 else 0)≤c∧((if 0<min c p.2∧e-tm≤p.1∧p.1≤e then min c p.2 else 0)=0∨(e-tm≤p.1∧p.1≤e)):=by split <;> omega
  show (if f≤p.1∧p.1≤l then p.2 else 0)+S r f l≤(if f≤e∧e≤l+tm then c else 0)+((if f≤p.1∧p.1≤l then p.2-(if 0<min c p.2∧e-tm≤p.1∧p.1≤e then min c p.2 else 0) else 0)+S (ygp tm e (c-(if 0<min c p.2∧e-tm≤p.1∧p.1≤e then min c p.2 else 0)) r) f l)
  generalize (if 0<min c p.2∧e-tm≤p.1∧p.1≤e then min c p.2 else 0)=y at *
  have ih:=ym0 (tm:=tm) (e:=e) (c:=c-y) (L:=r) (by omega) (fun q hq=>h q (.tail _ hq)) f l
  split at ih <;> split <;> omega
theorem ym1 {tm e:Int}:∀{c:Int}{L:List (Int×Int)},0≤c→Pos L→Up1 L→∀{d x l:Int},(d,x)∈ygp tm e c L→0<x→e-tm≤d→d≤e→d≤l→S L (e-tm) l=c+S (ygp tm e c L) (e-tm) l
 |_,[],_,_,_,d,x,l,hm,_,_,_,_=>by cases hm
 |c,p::r,hc,h,hu,d,x,l,hm,hx,h1,h2,h3=>by
  have h0:=h p (.head _)
  have hr:Pos r:=fun q hq=>h q (.tail _ hq)
  obtain ⟨hu1,hu2⟩:=List.pairwise_cons.mp hu
  show (if e-tm≤p.1∧p.1≤l then p.2 else 0)+S r (e-tm) l=c+((if e-tm≤p.1∧p.1≤l then p.2-(if 0<min c p.2∧e-tm≤p.1∧p.1≤e then min c p.2 else 0) else 0)+S (ygp tm e (c-(if 0<min c p.2∧e-tm≤p.1∧p.1≤e then min c p.2 else 0)) r) (e-tm) l)
  rcases List.mem_cons.mp hm with z|z
  ·have e1:d=p.1:=congrArg Prod.fst z
   have e2:x=p.2-(if 0<min c p.2∧e-tm≤p.1∧p.1≤e then min c p.2 else 0):=congrArg Prod.snd z
   have hy:(if 0<min c p.2∧e-tm≤p.1∧p.1≤e then min c p.2 else 0)=c:=by
    split at e2 <;> split <;> omega
   rw[hy,Int.sub_self,ymz,if_pos (by omega),if_pos (by omega)]
   omega
  ·have hd:p.1≤d:=by
    have m:d∈(ygp tm e (c-(if 0<min c p.2∧e-tm≤p.1∧p.1≤e then min c p.2 else 0)) r).map (·.1):=List.mem_map.mpr ⟨_,z,rfl⟩
    rw[yix] at m
    obtain ⟨q,hq,e'⟩:=List.mem_map.mp m
    have:=hu1 q hq
    omega
   have y0:0≤(if 0<min c p.2∧e-tm≤p.1∧p.1≤e then min c p.2 else 0)∧(if 0<min c p.2∧e-tm≤p.1∧p.1≤e then min c p.2 else 0)≤c∧((if 0<min c p.2∧e-tm≤p.1∧p.1≤e then min c p.2 else 0)=0∨(e-tm≤p.1∧p.1≤e)):=by split <;> omega
   generalize (if 0<min c p.2∧e-tm≤p.1∧p.1≤e then min c p.2 else 0)=y at *
   have ih:=ym1 (tm:=tm) (e:=e) (c:=c-y) (L:=r) (by omega) hr hu2 z hx h1 h2 h3
   split <;> omega
theorem yqt {tm e c:Int}{L O:List (Int×Int)}(ht:0≤tm)(hc:0≤c)(hL:Pos L)(hu:Up1 L)(hO:Pos O)(he:∀o∈O,e≤o.1)(h:zac L ((e,c)::O) tm):zac (ygp tm e c L) O tm:=by
 intro f l hfl
 have H:∀f l,f≤l→S L f l≤(if f≤e∧e≤l+tm then c else 0)+S O f (l+tm):=fun f l hfl=>h f l hfl
 have gl:=ytr (tm:=tm) (e:=e) (c:=c) hL
 have gp:=ylc (tm:=tm) (e:=e) (c:=c) hL
 by_cases c0:f≤e∧e≤l+tm
 ·have low:S L f (e-tm-1)≤0:=by
   by_cases z:f≤e-tm-1
   ·have:=H f (e-tm-1) z
    rw[if_neg (by omega),ymy (L:=O) (fun o ho y=>by have:=he o ho;omega)] at this
    omega
   ·rw[ymy fun p _ y=>by omega]
    exact Int.le_refl _
  by_cases c1:∃d x,(d,x)∈ygp tm e c L∧0<x∧e-tm≤d∧d≤e∧f≤d∧d≤l
  ·obtain ⟨d,x,hm,hx,h1,h2,h3,h4⟩:=c1
   have full:=ym1 hc hL hu hm hx h1 h2 h4
   have h5:=H (e-tm) l (by omega)
   rw[if_pos (by omega)] at h5
   have h6:S O (e-tm) (l+tm)≤S O f (l+tm):=by
    have:∀(O:List (Int×Int)),Pos O→(∀o∈O,e≤o.1)→S O (e-tm) (l+tm)≤S O f (l+tm):=by
     intro O
     induction O with
     |nil=>intro _ _;exact Int.le_refl _
     |cons o r ih=>
      intro hp hd
      have i1:=ih (fun q hq=>hp q (.tail _ hq)) (fun q hq=>hd q (.tail _ hq))
      have i2:=hd o (.head _)
      have i3:=hp o (.head _)
      show (if e-tm≤o.1∧o.1≤l+tm then o.2 else 0)+S r (e-tm) (l+tm)≤(if f≤o.1∧o.1≤l+tm then o.2 else 0)+S r f (l+tm)
      split <;> split <;> omega
    exact this O hO he
   have h7:S (ygp tm e c L) f l≤S (ygp tm e c L) f (e-tm-1)+S (ygp tm e c L) (e-tm) l:=by
    have:∀(M:List (Int×Int)),Pos M→S M f l≤S M f (e-tm-1)+S M (e-tm) l:=by
     intro M
     induction M with
     |nil=>intro _;exact Int.le_refl _
     |cons p r ih=>
      intro hp
      have i1:=ih (fun q hq=>hp q (.tail _ hq))
      have i2:=hp p (.head _)
      show (if f≤p.1∧p.1≤l then p.2 else 0)+S r f l≤((if f≤p.1∧p.1≤e-tm-1 then p.2 else 0)+S r f (e-tm-1))+((if e-tm≤p.1∧p.1≤l then p.2 else 0)+S r (e-tm) l)
      split <;> split <;> split <;> omega
    exact this _ gp
   have h8:=gl f (e-tm-1)
   omega
  ·have h9:S (ygp tm e c L) f l≤S (ygp tm e c L) f (e-tm-1)+S (ygp tm e c L) (e+1) l:=by
    have:∀(M:List (Int×Int)),Pos M→(∀d x,(d,x)∈M→¬ (0<x∧e-tm≤d∧d≤e∧f≤d∧d≤l))→S M f l≤S M f (e-tm-1)+S M (e+1) l:=by
     intro M
     induction M with
     |nil=>intro _ _;exact Int.le_refl _
     |cons p r ih=>
      intro hp hn
      have i1:=ih (fun q hq=>hp q (.tail _ hq)) (fun d x hm=>hn d x (.tail _ hm))
      have i2:=hp p (.head _)
      have i3:=hn p.1 p.2 (.head _)
      show (if f≤p.1∧p.1≤l then p.2 else 0)+S r f l≤((if f≤p.1∧p.1≤e-tm-1 then p.2 else 0)+S r f (e-tm-1))+((if e+1≤p.1∧p.1≤l then p.2 else 0)+S r (e+1) l)
      split <;> split <;> split <;> omega
    exact this _ gp fun d x hm z=>c1 ⟨d,x,hm,z⟩
   have h10:=gl f (e-tm-1)
   have h11:=gl (e+1) l
   have h12:S L (e+1) l≤S O f (l+tm):=by
    by_cases z:e+1≤l
    ·have:=H (e+1) l z
     rw[if_neg (by omega)] at this
     have:=ytq hO (f:=e+1) (l:=l+tm) (f':=f) (l':=l+tm) (by omega) (Int.le_refl _)
     omega
    ·rw[ymy fun p _ y=>by omega]
     exact yhr hO _ _
   omega
 ·have:=H f l hfl
  rw[if_neg c0] at this
  have:=gl f l
  omega
theorem ypo {tm:Int}(ht:0≤tm):∀{O L:List (Int×Int)},Pos O→Up1 O→Pos L→Up1 L→((∀p∈yz3 tm O L,p.2=0)↔zac L O tm)
 |[],L,_,_,hL,_=>by
  constructor
  ·intro h f l _
   have:∀(M:List (Int×Int)),(∀p∈M,p.2=0)→S M f l=0:=by
    intro M
    induction M with
    |nil=>intro _;rfl
    |cons p r ih=>
     intro hm
     have i1:=ih fun q hq=>hm q (.tail _ hq)
     have i2:=hm p (.head _)
     show (if f≤p.1∧p.1≤l then p.2 else 0)+S r f l=0
     split <;> omega
   rw[this L h]
   exact Int.le_refl _
  ·intro h p hp
   have h1:=h p.1 p.1 (Int.le_refl _)
   have h2:p.2≤S L p.1 p.1:=by
    have:∀(M:List (Int×Int)),Pos M→p∈M→p.2≤S M p.1 p.1:=by
     intro M
     induction M with
     |nil=>intro _ hm;cases hm
     |cons q r ih=>
      intro hp' hm
      show p.2≤(if p.1≤q.1∧q.1≤p.1 then q.2 else 0)+S r p.1 p.1
      have i0:=hp' q (.head _)
      have i1:=yhr (L:=r) (fun q hq=>hp' q (.tail _ hq)) p.1 p.1
      rcases List.mem_cons.mp hm with z|z
      ·rw[← z,if_pos ⟨Int.le_refl _,Int.le_refl _⟩]
       omega
      ·have:=ih (fun q hq=>hp' q (.tail _ hq)) z
       split <;> omega
    exact this L hL hp
   have h3:=hL p hp
   have h4:S ([]:List (Int×Int)) p.1 (p.1+tm)=0:=rfl
   show p.2=0
   omega
 |o::O,L,hO,hu,hL,huL=>by
  obtain ⟨e,c⟩:=o
  have hO':Pos O:=fun q hq=>hO q (.tail _ hq)
  obtain ⟨hu1,hu2⟩:=List.pairwise_cons.mp hu
  have hc:0≤c:=hO (e,c) (.head _)
  have ih:=ypo ht (O:=O) (L:=ygp tm e c L) hO' hu2 (ylc hL) (yyg yix huL)
  show (∀p∈yz3 tm O (ygp tm e c L),p.2=0)↔_
  rw[ih]
  constructor
  ·intro h f l hfl
   have h1:=ym0 (tm:=tm) (e:=e) hc hL f l
   have h2:=h f l hfl
   show S L f l≤(if f≤e∧e≤l+tm then c else 0)+S O f (l+tm)
   omega
  ·exact yqt ht hc hL huL hO' hu1
end L2
namespace L2
abbrev zbc:=Int×Int×Int×Int
def SX (f l:Int):List zbc→Int
 |[]=>0
 |(d,c,x,y)::Z=>(if f≤d∧d≤l then x else 0)+SX f l Z
def one (d x:Int)(Ts:List (Int×Int)):Int:=(Ts.map fun T=>if T.1≤d∧d≤T.2 then x else 0).sum
def CX (Ts:List (Int×Int))(Z:List zbc):Int:=(Ts.map fun T=>SX T.1 T.2 Z).sum
def SO (rs:List (List Int))(Y:Int→Int)(f l:Int):List Int→Int
 |[]=>0
 |i::os=>(if f≤yag rs 0 i∧yag rs 0 i≤l then Y i else 0)+SO rs Y f l os
def za2 (ks:List (Int×Int))(rs:List (List Int))(Y:Int→Int):List Int→(Int→Int→Int)→Int
 |[],_=>0
 |i::os,v=>(yep ks rs v i-Y i)*yag rs 2 i+za2 ks rs Y os (yd1 v (yag rs 0 i) (yep ks rs v i))
end L2
namespace L2
def yng (g:Int→Int):List Int→Int
 |[]=>0
 |i::os=>g i+yng g os
theorem yle (g:Int→Int):∀os:List Int,yng g os=(os.map g).sum
 |[]=>rfl
 |i::os=>by show g i+_=_;rw[yle g os,List.map_cons,List.sum_cons]
theorem yiy {ks:List (Int×Int)}{rs:List (List Int)}{j:Nat}:∀(os:List Int) (v:Int→Int→Int) (cs:List Int),(∀i∈os,i.toNat≠j)→(ybn ks rs os v cs).2[j]? = cs[j]?
 |[],v,cs,_=>rfl
 |i::os,v,cs,h=>by
  show (ybn ks rs os _ _).2[j]? = _
  rw[yiy os _ _ fun k hk=>h k (.tail _ hk),List.getElem?_set_ne (h i (.head _))]
theorem yj4 {ks:List (Int×Int)}{rs:List (List Int)}(Y:Int→Int):∀(os:List Int) (v:Int→Int→Int) (cs:List Int),os.Nodup→(∀i∈os,0≤i∧i.toNat<cs.length)→
 za2 ks rs Y os v=yng (fun i=>((ybn ks rs os v cs).2.getD i.toNat 0-Y i)*yag rs 2 i) os∧∀f l,(ybn ks rs os v cs).1 f l=v f l-SO rs (fun i=>(ybn ks rs os v cs).2.getD i.toNat 0) f l os
 |[],v,cs,_,_=>⟨rfl,fun f l=>by show v f l=v f l-0;omega⟩
 |i::os,v,cs,nd,hi=>by
  obtain ⟨n1,n2⟩:=List.nodup_cons.mp nd
  obtain ⟨i0,i1⟩:=hi i (.head _)
  obtain ⟨a,b⟩:=yj4 Y os (yd1 v (yag rs 0 i) (yep ks rs v i)) (cs.set i.toNat (yep ks rs v i)) n2 fun j hj=>⟨(hi j (.tail _ hj)).1,by rw[List.length_set];exact(hi j (.tail _ hj)).2⟩
  have k:(ybn ks rs (i::os) v cs).2.getD i.toNat 0=yep ks rs v i:=by
   show (ybn ks rs os _ _).2.getD i.toNat 0=_
   rw[List.getD_eq_getElem?_getD,yiy os _ _ fun j hj e=>?_,List.getElem?_set_self i1]
   ·rfl
   ·have:j=i:=by have:=(hi j (.tail _ hj)).1;omega
    subst this
    exact n1 hj
  refine⟨?_,fun f l=>?_⟩
  ·show (yep ks rs v i-Y i)*yag rs 2 i+za2 ks rs Y os _=((ybn ks rs (i::os) v cs).2.getD i.toNat 0-Y i)*yag rs 2 i+_
   rw[k,a]
   rfl
  ·show (ybn ks rs os _ _).1 f l=v f l-((if f≤yag rs 0 i∧yag rs 0 i≤l then (ybn ks rs (i::os) v cs).2.getD i.toNat 0 else 0)+_)
   rw[k,b f l]
   show yd1 v _ _ f l-_=v f l-(_+SO rs (fun i=>(ybn ks rs os (yd1 v (yag rs 0 _) (yep ks rs v _)) (cs.set _ (yep ks rs v _))).2.getD i.toNat 0) f l os)
   unfold yd1
   split <;> omega
theorem ypp {a b:List Int}(h:a.Perm b):a.sum=b.sum:=by
 induction h with
 |nil=>rfl
 |cons x _ ih=>rw[List.sum_cons,List.sum_cons,ih]
 |swap x y l=>rw[List.sum_cons,List.sum_cons,List.sum_cons,List.sum_cons];omega
 |trans _ _ a b=>exact a.trans b
theorem yd5 (n:Nat):(yce n).Nodup:=by
 unfold yce
 exact List.Pairwise.map _ (fun a b h e=>h (by omega)) List.nodup_range
theorem yg8 (r:List Int)(os:List (List Int))(tm f l:Int):ya1 (r::os) tm f l=(if f≤r.getD 0 0∧r.getD 0 0≤l+tm then r.getD 1 0 else 0)+ya1 os tm f l:=by
 unfold ya1
 rw[List.filter_cons]
 by_cases c:f≤r.getD 0 0∧r.getD 0 0≤l+tm
 ·rw[if_pos (show yi9 tm f l r=true from decide_eq_true c),if_pos c,List.map_cons,List.sum_cons]
 ·rw[if_neg (fun z:yi9 tm f l r=true=>c (of_decide_eq_true z)),if_neg c];omega
end L2
namespace L2
def ycn (rs:List (List Int))(ts:List Int)(is:List Int):List (Int×Int):=is.map fun i=>(yag rs 0 i,ts.getD i.toNat 0)
def yev (os:List (List Int))(js:List Int):List (Int×Int):=js.map fun j=>(yag os 0 j,yag os 1 j)
theorem yyh (g:Int→Int×Int)(f l:Int):∀is:List Int,S (is.map g) f l=(is.map fun i=>if f≤(g i).1∧(g i).1≤l then (g i).2 else 0).sum
 |[]=>rfl
 |i::is=>by
  rw[List.map_cons,List.map_cons,List.sum_cons,← yyh g f l is]
  rfl
theorem ywv (g:Int→Int×Int)(f l:Int){is js:List Int}(h:is.Perm js):S (is.map g) f l=S (js.map g) f l:=by
 rw[yyh,yyh]
 exact ypp (h.map _)
theorem ypq (f l:Int):∀(a b:List (Int×Int)),S (a++b) f l=S a f l+S b f l
 |[],b=>by show S b f l=0+S b f l;omega
 |p::a,b=>by
  show (if f≤p.1∧p.1≤l then p.2 else 0)+S (a++b) f l=(if f≤p.1∧p.1≤l then p.2 else 0)+S a f l+S b f l
  rw[ypq f l a b];omega
theorem yts (rs:List (List Int))(ts:List Int)(f l:Int):∀n,S (ycn rs ts (yce n)) f l=yk4 rs ts f l n
 |0=>rfl
 |n+1=>by
  unfold ycn
  rw[ygw,List.map_append,ypq]
  have ih:=yts rs ts f l n
  unfold ycn at ih
  rw[ih]
  show _+((if f≤yag rs 0 (n:Int)∧yag rs 0 (n:Int)≤l then ts.getD (n:Int).toNat 0 else 0)+0)=_+(if f≤yag rs 0 (n:Int)∧yag rs 0 (n:Int)≤l then ts.getD n 0 else 0)
  rw[Int.toNat_natCast]
  omega
theorem yww (f l:Int):∀os:List (List Int),S (os.map fun r=>(r.getD 0 0,r.getD 1 0)) f l=ya1 os 0 f l
 |[]=>rfl
 |r::os=>by
  rw[yg8,← yww f l os,Int.add_zero]
  rfl
theorem yvz (os:List (List Int))(tm f l:Int):ya1 os tm f l=ya1 os 0 f (l+tm):=by
 induction os with
 |nil=>rfl
 |cons r os ih=>rw[yg8,yg8,ih,Int.add_zero]
theorem ytt (os:List (List Int)):yev os (yce os.length)=os.map fun r=>(r.getD 0 0,r.getD 1 0):=by
 unfold yev yce
 rw[List.map_map]
 refine List.ext_getElem? fun i=>?_
 rw[List.getElem?_map,List.getElem?_map]
 by_cases h:i<os.length
 ·rw[List.getElem?_range h,List.getElem?_eq_getElem h]
  show some (yag os 0 (i:Int),yag os 1 (i:Int))=_
  unfold yag
  rw[yfe (List.getElem?_eq_getElem h)]
  rfl
 ·rw[List.getElem?_eq_none (by rw[List.length_range];omega),List.getElem?_eq_none (by omega)];rfl
theorem yyi {os:List (List Int)}{js:List Int}(h:js.Perm (yce os.length))(tm f l:Int):S (yev os js) f (l+tm)=ya1 os tm f l:=by
 unfold yev
 rw[ywv _ _ _ h]
 have:=ytt os
 unfold yev at this
 rw[this,yww,← yvz]
theorem ypr:∀(xs:List Int),xs≠[]→(∃m∈xs,∀x∈xs,m≤x)∧∃m∈xs,∀x∈xs,x≤m
 |[],h=>absurd rfl h
 |[x],_=>⟨⟨x,.head _,fun y hy=>by rw[List.mem_singleton.mp hy];exact Int.le_refl _⟩,⟨x,.head _,fun y hy=>by rw[List.mem_singleton.mp hy];exact Int.le_refl _⟩⟩
 |x::y::r,_=>by
  obtain ⟨⟨a,ha,h1⟩,⟨b,hb,h2⟩⟩:=ypr (y::r) (fun z=>by cases z)
  refine⟨?_,?_⟩
  ·by_cases c:x≤a
   ·exact⟨x,.head _,fun z hz=>by
     rcases List.mem_cons.mp hz with e|e
     ·omega
     ·have:=h1 z e;omega⟩
   ·exact⟨a,.tail _ ha,fun z hz=>by
     rcases List.mem_cons.mp hz with e|e
     ·omega
     ·exact h1 z e⟩
  ·by_cases c:b≤x
   ·exact⟨x,.head _,fun z hz=>by
     rcases List.mem_cons.mp hz with e|e
     ·omega
     ·have:=h2 z e;omega⟩
   ·exact⟨b,.tail _ hb,fun z hz=>by
     rcases List.mem_cons.mp hz with e|e
     ·omega
     ·exact h2 z e⟩
theorem zb3 {L:List (Int×Int)}{f l f' l':Int}:(∀p∈L,f≤p.1→p.1≤l→f'≤p.1∧p.1≤l')→f≤f'→l'≤l→S L f l=S L f' l':=by
 intro h h1 h2
 induction L with
 |nil=>rfl
 |cons p L ih=>
  have e:=ih fun q hq=>h q (.tail _ hq)
  have hp:=h p (.head _)
  show (if f≤p.1∧p.1≤l then p.2 else 0)+S L f l=(if f'≤p.1∧p.1≤l' then p.2 else 0)+S L f' l'
  rw[e]
  by_cases c:f≤p.1∧p.1≤l
  ·rw[if_pos c,if_pos (hp c.1 c.2)]
  ·rw[if_neg c,if_neg (by omega)]
theorem yqu {rs os:List (List Int)}{tm:Int}{ts ds is js:List Int}(hds:ydy rs ds)(hi:is.Perm (yce rs.length))(hj:js.Perm (yce os.length))(ho:∀r∈os,0≤r.getD 1 0):(∀p∈ybi ds,0≤yfk rs os tm ts p.1 p.2)↔zac (ycn rs ts is) (yev os js) tm:=by
 have key:∀f l,yfk rs os tm ts f l=S (yev os js) f (l+tm)-S (ycn rs ts is) f l:=fun f l=>by
  unfold yfk
  rw[yiq,yyi hj,← yts]
  unfold ycn
  rw[ywv _ _ _ hi]
 have posO:Pos (yev os js):=fun p hp=>by
  obtain ⟨j,_,rfl⟩:=List.mem_map.mp hp
  exact yj1 ho j
 constructor
 ·intro h f l hfl
  by_cases c:(ds.filter fun d=>decide (f≤d∧d≤l))=[]
  ·have:S (ycn rs ts is) f l=0:=ymy fun p hp z=>by
    obtain ⟨i,hi',rfl⟩:=List.mem_map.mp hp
    obtain ⟨i0,i1⟩:=uptoN_mem.mp (hi.mem_iff.mp hi')
    have hl:i.toNat<rs.length:=by omega
    have hd:yag rs 0 i∈ds:=(hds.2.1 _).mpr ⟨rs[i.toNat],List.getElem_mem hl,by unfold yag;rw[List.getD_eq_getElem?_getD (l:=rs),List.getElem?_eq_getElem hl];rfl⟩
    have:yag rs 0 i∈ds.filter fun d=>decide (f≤d∧d≤l):=List.mem_filter.mpr ⟨hd,decide_eq_true z⟩
    rw[c] at this
    cases this
   rw[this]
   exact yhr posO _ _
  ·obtain ⟨⟨a,ha,h1⟩,⟨b,hb,h2⟩⟩:=ypr _ c
   obtain ⟨a1,a2⟩:=List.mem_filter.mp ha
   obtain ⟨b1,b2⟩:=List.mem_filter.mp hb
   have a3:=of_decide_eq_true a2
   have b3:=of_decide_eq_true b2
   have ab:=h1 b hb
   have e:S (ycn rs ts is) f l=S (ycn rs ts is) a b:=zb3 (fun p hp z1 z2=>by
    obtain ⟨i,hi',rfl⟩:=List.mem_map.mp hp
    obtain ⟨i0,i1⟩:=uptoN_mem.mp (hi.mem_iff.mp hi')
    have hl:i.toNat<rs.length:=by omega
    have hd:yag rs 0 i∈ds:=(hds.2.1 _).mpr ⟨rs[i.toNat],List.getElem_mem hl,by unfold yag;rw[List.getD_eq_getElem?_getD (l:=rs),List.getElem?_eq_getElem hl];rfl⟩
    have hm:yag rs 0 i∈ds.filter fun d=>decide (f≤d∧d≤l):=List.mem_filter.mpr ⟨hd,decide_eq_true ⟨z1,z2⟩⟩
    exact⟨h1 _ hm,h2 _ hm⟩) a3.1 b3.2
   have k:=key a b
   have h0:=h (a,b) (mem_str.mpr ⟨a1,b1,ab⟩)
   dsimp only at h0
   have mo:S (yev os js) a (b+tm)≤S (yev os js) f (l+tm):=ytq posO a3.1 (by omega)
   omega
 ·intro h p hp
  have:=(mem_str.mp (show (p.1,p.2)∈ybi ds from hp)).2.2
  have:=h p.1 p.2 this
  have:=key p.1 p.2
  omega
end L2
namespace L2
def yds (rs:List (List Int))(tm e j:Int)(st:Int×List Int×List (List Int))(i:Int):Int×List Int×List (List Int):=
 if 0<min st.1 (st.2.1.getD i.toNat 0)∧e-tm≤yag rs 0 i∧yag rs 0 i≤e then (st.1-min st.1 (st.2.1.getD i.toNat 0),st.2.1.set i.toNat (st.2.1.getD i.toNat 0-min st.1 (st.2.1.getD i.toNat 0)),st.2.2++[[i,j,min st.1 (st.2.1.getD i.toNat 0)]]) else st
def ywx (rs os:List (List Int))(tm:Int)(ages:List Int)(st:List Int×List (List Int))(j:Int):List Int×List (List Int):=
 (ages.foldl (yds rs tm (yag os 0 j) j) (yag os 1 j,st.1,st.2)).2
def yg9 (rs os:List (List Int))(tm:Int)(ages outs ts:List Int):List Int×List (List Int):=outs.foldl (ywx rs os tm ages) (ts,[])
theorem yiz {rs:List (List Int)}{tm e j:Int}:∀(is:List Int) (st:Int×List Int×List (List Int)),(∀i∈is,1≤yag rs 0 i)→(is.filter fun i=>yc2 tm e (yag rs 0 i)).foldl (ye4 j) st=is.foldl (yds rs tm e j) st
 |[],st,_=>rfl
 |i::is,st,h=>by
  have h1:=h i (.head _)
  have ih:=fun st=>yiz (rs:=rs) (tm:=tm) (e:=e) (j:=j) is st fun k hk=>h k (.tail _ hk)
  rw[List.foldl_cons,List.filter_cons]
  by_cases c:max 1 (e-tm)≤yag rs 0 i∧yag rs 0 i≤e
  ·rw[if_pos (show yc2 tm e (yag rs 0 i)=true from decide_eq_true c),List.foldl_cons,ih]
   congr 1
   unfold ye4 yds
   by_cases z:0<min st.1 (st.2.1.getD i.toNat 0)
   ·rw[if_pos z,if_pos ⟨z,by omega,by omega⟩]
   ·rw[if_neg z,if_neg fun y=>z y.1]
  ·rw[if_neg (fun z:yc2 tm e (yag rs 0 i)=true=>c (of_decide_eq_true z)),ih]
   congr 1
   unfold yds
   rw[if_neg fun y=>c ⟨by omega,by omega⟩]
theorem yyj {rs os:List (List Int)}{tm:Int}{ages:List Int}(h:∀i∈ages,1≤yag rs 0 i)(outs ts:List Int):yx3 rs os tm ages outs ts=yg9 rs os tm ages outs ts:=by
 unfold yx3 yg9
 congr 1
 funext st j
 unfold ynf ywx
 rw[yiz ages _ h]
theorem yj5 {rs:List (List Int)}{tm e j:Int}{k:Nat}:∀(is:List Int) (st:Int×List Int×List (List Int)),(∀i∈is,i.toNat≠k)→(is.foldl (yds rs tm e j) st).2.1[k]? = st.2.1[k]?
 |[],st,_=>rfl
 |i::is,st,h=>by
  rw[List.foldl_cons,yj5 is _ fun m hm=>h m (.tail _ hm)]
  unfold yds
  split
  ·exact List.getElem?_set_ne (h i (.head _))
  ·rfl
theorem yi0 {rs:List (List Int)}{tm e j:Int}:∀(is:List Int) (st:Int×List Int×List (List Int)),(is.foldl (yds rs tm e j) st).2.1.length=st.2.1.length
 |[],st=>rfl
 |i::is,st=>by
  rw[List.foldl_cons,yi0 is]
  unfold yds
  split
  ·exact List.length_set
  ·rfl
theorem ym2 {rs:List (List Int)}{a b:List Int}{is:List Int}(h:∀i∈is,a[i.toNat]? = b[i.toNat]?):ycn rs a is=ycn rs b is:=by
 unfold ycn
 refine List.map_congr_left fun i hi=>?_
 rw[List.getD_eq_getElem?_getD,List.getD_eq_getElem?_getD,h i hi]
theorem yi1 {rs:List (List Int)}{tm e j:Int}:∀(is:List Int) (c:Int) (left:List Int) (told:List (List Int)),is.Nodup→(∀i∈is,0≤i∧i.toNat<left.length)→ycn rs (is.foldl (yds rs tm e j) (c,left,told)).2.1 is=ygp tm e c (ycn rs left is)
 |[],c,left,told,_,_=>rfl
 |i::is,c,left,told,nd,hi=>by
  obtain ⟨n1,n2⟩:=List.nodup_cons.mp nd
  obtain ⟨i0,i1⟩:=hi i (.head _)
  have ne:∀k∈is,k.toNat≠i.toNat:=fun k hk z=>n1 (by
   have:=(hi k (.tail _ hk)).1
   rw[show i=k by omega];exact hk)
  rw[List.foldl_cons]
  show (yag rs 0 i,(is.foldl (yds rs tm e j) (yds rs tm e j (c,left,told) i)).2.1.getD i.toNat 0)::ycn rs (is.foldl (yds rs tm e j) (yds rs tm e j (c,left,told) i)).2.1 is=(yag rs 0 i,left.getD i.toNat 0-(if 0<min c (left.getD i.toNat 0)∧e-tm≤yag rs 0 i∧yag rs 0 i≤e then min c (left.getD i.toNat 0) else 0))::ygp tm e (c-(if 0<min c (left.getD i.toNat 0)∧e-tm≤yag rs 0 i∧yag rs 0 i≤e then min c (left.getD i.toNat 0) else 0)) (ycn rs left is)
  rw[List.getD_eq_getElem?_getD,yj5 is _ ne]
  by_cases z:0<min c (left.getD i.toNat 0)∧e-tm≤yag rs 0 i∧yag rs 0 i≤e
  ·have st:yds rs tm e j (c,left,told) i=(c-min c (left.getD i.toNat 0),left.set i.toNat (left.getD i.toNat 0-min c (left.getD i.toNat 0)),told++[[i,j,min c (left.getD i.toNat 0)]]):=by
    unfold yds
    exact if_pos z
   rw[st,if_pos z,yi1 is _ _ _ n2 fun k hk=>⟨(hi k (.tail _ hk)).1,by rw[List.length_set];exact(hi k (.tail _ hk)).2⟩]
   congr 1
   ·dsimp only
    rw[List.getElem?_set_self i1];rfl
   ·congr 1
    exact ym2 fun k hk=>List.getElem?_set_ne (ne k hk).symm
  ·have st:yds rs tm e j (c,left,told) i=(c,left,told):=by
    unfold yds
    exact if_neg z
   rw[st,if_neg z,yi1 is _ _ _ n2 fun k hk=>hi k (.tail _ hk)]
   congr 1
   ·dsimp only
    rw[← List.getD_eq_getElem?_getD,Int.sub_zero]
   ·rw[Int.sub_zero]
theorem ym3 {rs os:List (List Int)}{tm:Int}{ages:List Int}(nd:ages.Nodup):∀(outs:List Int) (st:List Int×List (List Int)),(∀i∈ages,0≤i∧i.toNat<st.1.length)→ycn rs (outs.foldl (ywx rs os tm ages) st).1 ages=yz3 tm (yev os outs) (ycn rs st.1 ages)
 |[],st,_=>rfl
 |j::outs,st,h=>by
  rw[List.foldl_cons,ym3 nd outs _ fun i hi=>⟨(h i hi).1,by
   show i.toNat<(ages.foldl (yds rs tm (yag os 0 j) j) (yag os 1 j,st.1,st.2)).2.1.length
   rw[yi0];exact(h i hi).2⟩]
  show yz3 tm (yev os outs) (ycn rs (ages.foldl (yds rs tm (yag os 0 j) j) (yag os 1 j,st.1,st.2)).2.1 ages)=_
  rw[yi1 ages _ _ _ nd h]
  rfl
theorem ym4 {rs:List (List Int)}{n:Nat}{is:List Int}(h:yb2 (keyE rs) n is):is.Pairwise fun i j=>yag rs 0 i≤yag rs 0 j:=by
 refine h.2.imp fun {i j} z=>?_
 have z':(if yag rs 0 j=yag rs 0 i then (if j=i then false else decide (j<i)) else decide (yag rs 0 j<yag rs 0 i))=false:=z
 by_cases c:yag rs 0 j=yag rs 0 i
 ·omega
 ·rw[if_neg c] at z'
  have:=of_decide_eq_false z'
  omega
theorem yps {rs os:List (List Int)}{tm:Int}{ts ds ages outs:List Int}(ht:0≤tm)(hds:ydy rs ds)(ha:yb2 (keyE rs) rs.length ages)(hb:yb2 (keyE os) os.length outs)(ho:∀r∈os,0≤r.getD 1 0)(hl:ts.length=rs.length)(hts:∀u∈ts,0≤u) :
 (∀i∈ages,(yg9 rs os tm ages outs ts).1.getD i.toNat 0=0)↔∀p∈ybi ds,0≤yfk rs os tm ts p.1 p.2:=by
 have nd:ages.Nodup:=(ha.1.nodup_iff).mpr (yd5 _)
 have rng:∀i∈ages,0≤i∧i.toNat<ts.length:=fun i hi=>by
  have:=uptoN_mem.mp (ha.1.mem_iff.mp hi)
  exact⟨this.1,by omega⟩
 rw[yqu hds ha.1 hb.1 ho,← ypo ht (O:=yev os outs) (L:=ycn rs ts ages) (fun p hp=>by
  obtain ⟨j,_,rfl⟩:=List.mem_map.mp hp
  exact yj1 ho j) (List.pairwise_map.mpr (ym4 hb)) (fun p hp=>by
  obtain ⟨i,hi,rfl⟩:=List.mem_map.mp hp
  have:=(rng i hi).2
  show 0≤ts.getD i.toNat 0
  rw[List.getD_eq_getElem?_getD,List.getElem?_eq_getElem this]
  exact hts _ (List.getElem_mem this)) (List.pairwise_map.mpr (ym4 ha)),← ym3 nd outs (ts,[]) rng]
 show _↔∀p∈ycn rs (yg9 rs os tm ages outs ts).1 ages,p.2=0
 constructor
 ·intro h p hp
  obtain ⟨i,hi,rfl⟩:=List.mem_map.mp hp
  exact h i hi
 ·intro h i hi
  exact h _ (List.mem_map.mpr ⟨i,hi,rfl⟩)
end L2
namespace L2
theorem ytu {g:Int→Int}{a b:List Int}(h:a.Perm b):yng g a=yng g b:=by
 rw[yle,yle]
 exact ypp (h.map _)
theorem ywy (rs:List (List Int))(Y:Int→Int)(f l:Int):∀os:List Int,SO rs Y f l os=yng (fun i=>if f≤yag rs 0 i∧yag rs 0 i≤l then Y i else 0) os
 |[]=>rfl
 |i::os=>by
  show _+SO rs Y f l os=_+yng _ os
  rw[ywy rs Y f l os]
def yi2 (rs:List (List Int))(Y:Int→Int)(f l:Int):Int:=yng (fun i=>if f≤yag rs 0 i∧yag rs 0 i≤l then Y i else 0) (yce rs.length)
def zbd (rs os:List (List Int))(tm:Int)(Y:Int→Int):Prop:=(∀i,0≤i→i<(rs.length:Int)→0≤Y i∧Y i≤yag rs 1 i)∧∀ds,ydy rs ds→∀p∈ybi ds,yi2 rs Y p.1 p.2≤ya1 os tm p.1 p.2
theorem BestIs.fits {rs os:List (List Int)}{tm:Int}{cs:List Int}(h:BestIs rs os tm cs)(hr:∀r∈rs,0≤r.getD 1 0)(ho:∀r∈os,0≤r.getD 1 0):zbd rs os tm fun i=>cs.getD i.toNat 0:=by
 have tk:=h.taken hr ho
 obtain ⟨ds,ord,hds,hord,e⟩:=h
 have mem:∀i∈ord,0≤i∧i<(rs.length:Int):=fun i hi=>uptoN_mem.mp (hord.1.mem_iff.mp hi)
 have nd:ord.Nodup:=(hord.1.nodup_iff).mpr (yd5 _)
 have rng:∀i∈ord,0≤i∧i.toNat<(List.replicate rs.length (0:Int)).length:=fun i hi=>by
  have:=mem i hi
  rw[List.length_replicate]
  exact⟨this.1,by omega⟩
 obtain ⟨_,F2⟩:=yj4 (ks:=ybi ds) (rs:=rs) (fun _=>0) ord (ya1 os tm) (List.replicate rs.length 0) nd rng
 have nn:=(yin (rs:=rs) (ks:=ybi ds) ord (ya1 os tm) (List.replicate rs.length 0) (fun i hi=>⟨(mem i hi).1,yj1 hr i⟩) (fun p _=>ypg ho _ _ _) (fun j u e=>by
  have:=List.mem_of_getElem? e
  rw[(List.mem_replicate.mp this).2]
  exact⟨Int.le_refl _,yj1 hr _⟩)).1
 refine⟨fun i i0 i1=>?_,fun ds' hds' p hp=>?_⟩
 ·have hl:i.toNat<cs.length:=by rw[tk.1];omega
  have hl':i.toNat<rs.length:=by omega
  have:=tk.2 i.toNat rs[i.toNat] cs[i.toNat] hl' (List.getElem?_eq_getElem hl') (List.getElem?_eq_getElem hl)
  dsimp only
  rw[List.getD_eq_getElem?_getD,List.getElem?_eq_getElem hl]
  unfold yag
  rw[List.getD_eq_getElem?_getD (l:=rs),List.getElem?_eq_getElem hl']
  exact this
 ·have ed:ds'=ds:=ymm hds' hds fun _=>Iff.rfl
  subst ed
  have a:=F2 p.1 p.2
  rw[← e,ywy,ytu hord.1] at a
  have b:=nn p hp
  show yng (fun i=>if p.1≤yag rs 0 i∧yag rs 0 i≤p.2 then cs.getD i.toNat 0 else 0) (yce rs.length)≤_
  omega
end L2
namespace L2
theorem ytv {g g':Int→Int}:∀{os:List Int},(∀i∈os,g i≤g' i)→yng g os≤yng g' os
 |[],_=>Int.le_refl _
 |i::os,h=>by
  have:=h i (.head _)
  have:=ytv fun j hj=>h j (.tail (b:=i) hj)
  show g i+_≤g' i+_
  omega
end L2
namespace L2
open PySem PySem.Spec PySem.W PyProof.Rows
def insD (x:Int):List Int→List Int
 |[]=>[x]
 |d::ds=>if x<d then x::d::ds else if x=d then d::ds else d::insD x ds
theorem mem_insD {x z:Int}:∀{ds:List Int},z∈insD x ds↔z=x∨z∈ds
 |[]=>by simp [insD]
 |d::ds=>by
  unfold insD
  split
  ·simp
  ·split
   ·rename_i e;subst e;simp
   ·rw[List.mem_cons,mem_insD,List.mem_cons]
    constructor
    ·rintro (h|h|h) <;> simp [h]
    ·rintro (h|h|h) <;> simp [h]
theorem ytw {x:Int}:∀{ds:List Int},ds.Pairwise (· < ·)→(insD x ds).Pairwise (· < ·)
 |[],_=>by simp [insD]
 |d::ds,h=>by
  obtain ⟨h1,h2⟩:=List.pairwise_cons.mp h
  unfold insD
  split
  ·rename_i c
   refine List.pairwise_cons.mpr ⟨fun z hz=>?_,h⟩
   rcases List.mem_cons.mp hz with e|e
   ·omega
   ·have:=h1 z e;omega
  ·rename_i c
   split
   ·exact h
   ·rename_i e
    refine List.pairwise_cons.mpr ⟨fun z hz=>?_,ytw h2⟩
    rcases mem_insD.mp hz with y|y
    ·omega
    ·exact h1 z y
theorem ypt {x:Int}:∀{ds:List Int},(insD x ds).length≤ds.length+1
 |[]=>Nat.le_refl _
 |d::ds=>by
  unfold insD
  split
  ·simp
  ·split
   ·simp
   ·have:=ypt (x:=x) (ds:=ds)
    simp;omega
theorem yha:∀rs:List (List Int),∃ds,ydy rs ds
 |[]=>⟨[],.nil,fun d=>⟨fun h=>(by cases h),fun ⟨r,h,_⟩=>(by cases h)⟩,Nat.le_refl _⟩
 |r::rs=>by
  obtain ⟨ds,h1,h2,h3⟩:=yha rs
  refine⟨insD (r.getD 0 0) ds,ytw h1,fun d=>?_,Nat.le_trans ypt (by rw[List.length_cons];omega)⟩
  rw[mem_insD,h2 d]
  constructor
  ·rintro (e|⟨q,hq,e⟩)
   ·exact⟨r,.head _,e.symm⟩
   ·exact⟨q,.tail _ hq,e⟩
  ·rintro ⟨q,hq,e⟩
   rcases List.mem_cons.mp hq with z|z
   ·subst z;exact .inl e.symm
   ·exact .inr ⟨q,z,e⟩
def NoLack (rs os:List (List Int))(tm:Int)(ts:List Int):Prop:=∀ds,ydy rs ds→∀p∈ybi ds,0≤yfk rs os tm ts p.1 p.2
theorem ytx {rs:List (List Int)}{ds ds':List Int}(h:ydy rs ds)(h':ydy rs ds'):ds'=ds:=ymm h' h fun _=>Iff.rfl
theorem NoLack.of {rs os:List (List Int)}{tm:Int}{ts ds:List Int}(hds:ydy rs ds)(h:∀p∈ybi ds,0≤yfk rs os tm ts p.1 p.2):NoLack rs os tm ts:=fun ds' h'=>by rw[ytx hds h'];exact h
theorem ypu {rs:List (List Int)}{tm e j:Int}:∀(is:List Int) (st:Int×List Int×List (List Int)),(∀x∈st.2.1,0≤x)→∀x∈(is.foldl (yds rs tm e j) st).2.1,0≤x
 |[],st,h=>h
 |i::is,st,h=>by
  rw[List.foldl_cons]
  refine ypu is _ fun x hx=>?_
  unfold yds at hx
  split at hx
  ·rcases List.mem_or_eq_of_mem_set hx with z|z
   ·exact h x z
   ·rw[z];omega
  ·exact h x hx
theorem ypv {rs os:List (List Int)}{tm:Int}{ages:List Int}:∀(outs:List Int) (st:List Int×List (List Int)),(∀x∈st.1,0≤x)→∀x∈(outs.foldl (ywx rs os tm ages) st).1,0≤x
 |[],st,h=>h
 |j::outs,st,h=>by
  rw[List.foldl_cons]
  exact ypv outs _ (ypu ages _ h)
theorem ym5 {rs os:List (List Int)}{tm:Int}{ages:List Int}:∀(outs:List Int) (st:List Int×List (List Int)),(outs.foldl (ywx rs os tm ages) st).1.length=st.1.length
 |[],st=>rfl
 |j::outs,st=>by
  rw[List.foldl_cons,ym5 outs]
  exact yi0 ages _
theorem yty:∀{xs:List Int},(∀x∈xs,0≤x)→0≤xs.sum∧(xs.sum=0↔∀x∈xs,x=0)
 |[],_=>⟨Int.le_refl _,by simp⟩
 |x::xs,h=>by
  obtain ⟨a,b⟩:=yty fun y hy=>h y (.tail _ hy)
  have h0:=h x (.head _)
  rw[List.sum_cons]
  refine⟨by omega,fun z=>?_,fun z=>?_⟩
  ·have e:xs.sum=0:=by omega
   exact zfm0 ⟨by omega,b.mp e⟩
  ·obtain ⟨z1,z2⟩:=List.forall_mem_cons.mp z
   rw[z1,b.mpr z2];rfl
theorem yv0 {rs os:List (List Int)}{tm:Int}{ts ages outs:List Int}(ht:0≤tm)(ha:yb2 (keyE rs) rs.length ages)(hb:yb2 (keyE os) os.length outs)(ho:∀r∈os,0≤r.getD 1 0)(hl:ts.length=rs.length)(hts:∀u∈ts,0≤u) :
 0≤(yg9 rs os tm ages outs ts).1.sum∧((yg9 rs os tm ages outs ts).1.sum=0↔NoLack rs os tm ts):=by
 obtain ⟨ds,hds⟩:=yha rs
 have nn:=ypv (rs:=rs) (os:=os) (tm:=tm) (ages:=ages) outs (ts,[]) hts
 have ln:=ym5 (rs:=rs) (os:=os) (tm:=tm) (ages:=ages) outs (ts,[])
 obtain ⟨s0,s1⟩:=yty nn
 refine⟨s0,?_⟩
 have e1:NoLack rs os tm ts↔∀p∈ybi ds,0≤yfk rs os tm ts p.1 p.2:=⟨fun h=>h ds hds,fun h=>.of hds h⟩
 rw[e1,← yps ht hds ha hb ho hl hts]
 refine s1.trans ?_
 show (∀x∈(yg9 rs os tm ages outs ts).1,x=0)↔_
 have ln':(yg9 rs os tm ages outs ts).1.length=rs.length:=ln.trans hl
 constructor
 ·intro h i hi
  have:=uptoN_mem.mp (ha.1.mem_iff.mp hi)
  have hk:i.toNat<(yg9 rs os tm ages outs ts).1.length:=by omega
  rw[List.getD_eq_getElem?_getD,List.getElem?_eq_getElem hk]
  exact h _ (List.getElem_mem hk)
 ·intro h x hx
  obtain ⟨k,hk,e⟩:=List.getElem_of_mem hx
  have:=h ((k:Nat):Int) (ha.1.mem_iff.mpr (uptoN_mem.mpr ⟨by omega,by omega⟩))
  rw[Int.toNat_natCast,List.getD_eq_getElem?_getD,List.getElem?_eq_getElem hk,e] at this
  exact this
structure LotsOk (rs os:List (List Int)) (tm:Int):Prop where
 h3:∀r∈rs,r.length=3
 rn:rs.length≤31
 h2:∀r∈os,r.length=2
 on:os.length≤31
 r0:∀r∈rs,0≤r.getD 1 0
 o0:∀r∈os,0≤r.getD 1 0
 t0:0≤tm
 rd:∀r∈rs,ywm r
 rc:∀r∈rs,r.getD 1 0≤10000000000
section
variable {K:PySem.W.Frag}{a c x D:Addr}{g:TG}{te:TE}{σ₀:St}{H1:Hp}{R:Hp→Prop}
theorem ytz {xs:List V}(P:Nat→List V→Hp→Prop)(hD:H1 D=none)(hx:H1 x=some (.lst xs))(nx:x≠a)(d1:DrawAt H1 a c)(hn:xs.length≤1000)(st:∀i zs H H',P i zs H→(H D=none∨∃l,H D=some (.lst l))→(∀b o,b≠D→H b=some o→H' b=some o)→P i zs H')(h0:P 0 [] H1)
 (step:∀i y zs H,xs[i]? = some y→H D=some (.lst zs)→KeepBut a H1 H→DrawAt H a c→P i zs H→∀K1:V→Hp→Prop,(∀z H4,KeepBut a H H4→DrawAt H4 a c→P (i+1) (zs++[z]) H4→K1 z H4)→g y σ₀ H fun σ2 H2=>(∀(k:Nat) v,σ₀[k]? = some (some v)→σ2[k]? = some (some v))∧te σ2 H2 K1)
 (fin:∀zs H,KeepBut a H1 H→DrawAt H a c→P xs.length zs H→zs.length=xs.length→H D=some (.lst zs)→R H) :
 ∃W:Nat→Nat→Hp→Prop,(∃m,W 0 m (upd H1 D (.lst [])))∧∀i m H,W i m H→((Itl K x).stop i H∧R H)∨((Itl K x).go i H∧∀y H',(Itl K x).yld i H y H'→g y σ₀ H' fun σ2 H2=>(∀(k:Nat) v,σ₀[k]? = some (some v)→σ2[k]? = some (some v))∧yho σ2 H2 fun b H3=>
  if b=true then te σ2 H3 fun y H4=>∃zs,H4 D=some (.lst zs)∧zs.length<sizeLine∧∃m',m' < m∧W (i+1) m' (upd H4 D (.lst (zs++[y]))) else ∃m',m' < m∧W (i+1) m' H3):=by
 have na:=d1.ne hD
 have nc:=d1.nc hD
 refine⟨fun i m H=>i+m=xs.length∧KeepBut a H1 H∧DrawAt H a c∧∃zs,H D=some (.lst zs)∧zs.length=i∧P i zs H,⟨xs.length,by omega,KeepBut.refl.new hD,d1.new hD,[],yab,rfl,st _ _ _ _ h0 (.inl hD) fun b o hb e=>by rw[yak hb];exact e⟩,?_⟩
 rintro i m H ⟨him,k1,d,zs,hz,hl,hp⟩
 have ex:=k1 _ _ nx hx
 by_cases hi:i<xs.length
 ·refine .inr ⟨⟨xs,_,SqL.of ex,List.getElem?_eq_getElem hi⟩,?_⟩
  rintro y H' ⟨rfl,hy⟩
  refine step i y zs _ (hy _ (SqL.of ex)) hz k1 d hp _ fun y H4 k4 d4 p4=>⟨zs,k4 _ _ na hz,yas (by omega),m-1,by omega,by omega,(k1.trans k4).young hD,d4.upd na nc,zs++[y],yab,by rw[List.length_append,List.length_singleton];omega,st _ _ _ _ p4 (.inr ⟨_,k4 _ _ na hz⟩) fun b o hb e=>by rw[yak hb];exact e⟩
 ·have e:i=xs.length:=by omega
  subst e
  exact .inl ⟨⟨xs,SqL.of ex,Nat.le_refl _⟩,fin zs H k1 d hp hl hz⟩
end
theorem yv1 {K:PySem.W.Frag}{a D:Addr}{xs:List V}{g:TG}{te:TE}{σ₀:St}{H1:Hp}{R:Hp→Prop}(P:Nat→List V→Hp→Prop)(hD:H1 D=none)(hx:H1 a=some (.lst xs))(hn:xs.length≤1000)
 (st:∀i zs H H',P i zs H→(H D=none∨∃l,H D=some (.lst l))→(∀b o,b≠D→H b=some o→H' b=some o)→P i zs H') (h0:P 0 [] H1)
 (step:∀i x zs H,xs[i]? = some x→H D=some (.lst zs)→Same H1 H→P i zs H→∀K1:V→Hp→Prop,(∀y H4,Same H H4→P (i+1) (zs++[y]) H4→K1 y H4)→
  g x σ₀ H fun σ2 H2=>(∀(k:Nat) v,σ₀[k]? = some (some v)→σ2[k]? = some (some v))∧te σ2 H2 K1)
 (fin:∀zs H,Same H1 H→P xs.length zs H→zs.length=xs.length→H D=some (.lst zs)→R H) :
 ∃W:Nat→Nat→Hp→Prop,(∃m,W 0 m (upd H1 D (.lst [])))∧∀i m H,W i m H→((Itl K a).stop i H∧R H)∨((Itl K a).go i H∧∀x H',(Itl K a).yld i H x H'→g x σ₀ H' fun σ2 H2=>(∀(k:Nat) v,σ₀[k]? = some (some v)→σ2[k]? = some (some v))∧yho σ2 H2 fun b H3=>
  if b=true then te σ2 H3 fun y H4=>∃zs,H4 D=some (.lst zs)∧zs.length<sizeLine∧∃m',m' < m∧W (i+1) m' (upd H4 D (.lst (zs++[y]))) else ∃m',m' < m∧W (i+1) m' H3):=by
 refine⟨fun i m H=>i+m=xs.length∧Same H1 H∧∃zs,H D=some (.lst zs)∧zs.length=i∧P i zs H,⟨xs.length,by omega,yae hD _,[],yab,rfl,st _ _ _ _ h0 (.inl hD) fun b o hb e=>by rw[yak hb];exact e⟩,?_⟩
 rintro i m H ⟨him,s1,zs,hz,hl,hp⟩
 have ex:=s1 _ _ hx
 by_cases hi:i<xs.length
 ·refine .inr ⟨⟨xs,_,SqL.of ex,List.getElem?_eq_getElem hi⟩,?_⟩
  rintro x H' ⟨rfl,hy⟩
  refine step i x zs H' (hy _ (SqL.of ex)) hz s1 hp _ fun y H4 s4 p4=>⟨zs,s4 _ _ hz,yas (by omega),m-1,by omega,by omega,(s1.trans s4).young hD,zs++[y],yab,by rw[List.length_append,List.length_singleton];omega,st _ _ _ _ p4 (.inr ⟨_,s4 _ _ hz⟩) fun b o hb e=>by rw[yak hb];exact e⟩
 ·have e:i=xs.length:=by omega
  subst e
  exact .inl ⟨⟨xs,SqL.of ex,Nat.le_refl _⟩,fin zs H s1 hp hl hz⟩
def LotG (r:List Int):Prop:=∃d c u:Int,r=[d,c,u]∧1≤d∧d≤999∧1≤c∧c≤10000000000∧1≤u∧u≤1000000
def OutG (r:List Int):Prop:=∃d c:Int,r=[d,c]∧1≤d∧d≤999∧1≤c∧c≤10000000000
theorem LotIn.good {lo n sc:Int}{r:List Int}(h:LotIn lo n sc r)(l1:1≤lo)(l2:lo+n≤1000)(s1:sc≤10000000000):LotG r:=by
 obtain ⟨d,c,u,rfl,h1,h2,h3,h4,h5,h6⟩:=h
 exact⟨d,c,u,rfl,by omega,by omega,by omega,by omega,h5,h6⟩
theorem OutIn.good {lo n sc:Int}{r:List Int}(h:OutIn lo n sc r)(l1:1≤lo)(l2:lo+n≤1000)(s1:sc≤10000000000):OutG r:=by
 obtain ⟨d,c,rfl,h1,h2,h3,h4⟩:=h
 exact⟨d,c,rfl,by omega,by omega,by omega,by omega⟩
structure GoodC (ls os:List (List Int)) (tm:Int):Prop where
 lg:∀r∈ls,LotG r
 og:∀r∈os,OutG r
 ln:ls.length≤30
 on:os.length≤30
 t0:0≤tm
 t4:tm≤400
theorem ym6 {ls:List (List Int)}(h:∀r∈ls,LotG r):ybg ls=none:=by
 unfold ybg
 rw[List.findSome?_eq_none_iff]
 intro r hr
 obtain ⟨d,c,u,rfl,h1,h2,h3,h4,h5,h6⟩:=h r hr
 simp only[ydo]
 rw[if_pos ⟨by omega,by omega⟩,if_pos ⟨by omega,by omega⟩,if_pos ⟨by omega,by omega⟩]
theorem yt0 {ls:List (List Int)}(h:∀r∈ls,OutG r):ybg ls=none:=by
 unfold ybg
 rw[List.findSome?_eq_none_iff]
 intro r hr
 obtain ⟨d,c,rfl,h1,h2,h3,h4⟩:=h r hr
 simp only[ydo]
 rw[if_pos ⟨by omega,by omega⟩,if_pos ⟨by omega,by omega⟩]
theorem LotG.len {r:List Int}(h:LotG r):r.length=3:=by obtain ⟨d,c,u,rfl,_⟩:=h;rfl
theorem OutG.len {r:List Int}(h:OutG r):r.length=2:=by obtain ⟨d,c,rfl,_⟩:=h;rfl
theorem LotG.duty {r:List Int}(h:LotG r):ywm r:=by
 obtain ⟨d,c,u,rfl,_,_,_,_,h5,h6⟩:=h
 exact⟨rfl,by show -(2 ^ 64)<u;omega,by show u<2 ^ 64;omega⟩
theorem GoodC.both {ls os:List (List Int)}{tm:Int}(h:GoodC ls os tm):yc8 ls os tm=none:=by
 rw[yf5 (ygh h.ln (ym6 h.lg)) (ygh h.on (yt0 h.og)),if_pos ⟨h.t0,h.t4⟩]
theorem GoodC.h3 {ls os:List (List Int)}{tm:Int}(h:GoodC ls os tm):∀r∈ls,r.length=3:=fun r hr=>(h.lg r hr).len
theorem GoodC.h2 {ls os:List (List Int)}{tm:Int}(h:GoodC ls os tm):∀r∈os,r.length=2:=fun r hr=>(h.og r hr).len
theorem yt1 {ls os:List (List Int)}{tm:Int}(h1:∀r∈ls,LotG r)(h2:∀r∈os,OutG r)(ln:ls.length≤31)(on:os.length≤31)(t0:0≤tm):LotsOk ls os tm:=by
 refine⟨fun r hr=>(h1 r hr).len,ln,fun r hr=>(h2 r hr).len,on,fun r hr=>?_,fun r hr=>?_,t0,fun r hr=>(h1 r hr).duty,fun r hr=>?_⟩
 ·obtain ⟨d,c,u,rfl,_,_,h3,_⟩:=h1 r hr;show (0:Int)≤c;omega
 ·obtain ⟨d,c,rfl,_,_,h3,_⟩:=h2 r hr;show (0:Int)≤c;omega
 ·obtain ⟨d,c,u,rfl,_,_,_,h4,_⟩:=h1 r hr;exact h4
theorem GoodC.ok {ls os:List (List Int)}{tm:Int}(h:GoodC ls os tm):LotsOk ls os tm:=yt1 h.lg h.og (by have:=h.ln;omega) (by have:=h.on;omega) h.t0
theorem Tups.cat {H:Hp}{xs ys:List V}{rs qs:List (List Int)}(h:Tups H xs rs)(h':Tups H ys qs):Tups H (xs++ys) (rs++qs):=by
 obtain ⟨h1,h2⟩:=h
 obtain ⟨g1,g2⟩:=h'
 refine⟨by rw[List.length_append,List.length_append,h1,g1],fun i x r e1 e2=>?_⟩
 by_cases c:i<xs.length
 ·rw[List.getElem?_append_left c] at e1
  rw[List.getElem?_append_left (by omega)] at e2
  exact h2 i x r e1 e2
 ·rw[List.getElem?_append_right (by omega)] at e1
  rw[List.getElem?_append_right (by omega),← h1] at e2
  exact g2 _ x r e1 e2
theorem yz4 (xs:List V){k:Int}(h0:0≤k):yrq xs none (some k)=xs.take k.toNat:=by
 have e:HT.sIx xs.length xs.length (some k)=min k.toNat xs.length:=by
  show (if k<0 then (k+(xs.length:Int)).toNat else min k.toNat xs.length)=_
  rw[if_neg (by omega)]
 unfold yrq
 rw[e]
 show (xs.drop 0).take (min k.toNat xs.length-0)=_
 rw[List.drop_zero,Nat.sub_zero]
 by_cases z:k.toNat≤xs.length
 ·rw[Nat.min_eq_left z]
 ·rw[Nat.min_eq_right (by omega),List.take_length,List.take_of_length_le (by omega)]
theorem yqv {rs:List (List Int)}{ts:List Int}(hl:ts.length=rs.length)(h:∀(j:Nat) r u,rs[j]? = some r→ts[j]? = some u→0≤u∧u≤r.getD 1 0):TakenOk rs ts:=⟨hl,fun j r u _ e1 e2=>h j r u e1 e2⟩
theorem TakenOk.at {rs:List (List Int)}{ts:List Int}(h:TakenOk rs ts){j:Nat}{r:List Int}{u:Int}(e1:rs[j]? = some r)(e2:ts[j]? = some u):0≤u∧u≤r.getD 1 0:=h.2 j r u (List.getElem?_eq_some_iff.mp e1).1 e1 e2
theorem TakenOk.nn {rs:List (List Int)}{ts:List Int}(h:TakenOk rs ts):∀u∈ts,0≤u:=fun u hu=>by
 obtain ⟨j,hj,e⟩:=List.getElem_of_mem hu
 exact(h.at (List.getElem?_eq_getElem (show j<rs.length by rw[← h.1];exact hj)) (by rw[List.getElem?_eq_getElem hj,e])).1
theorem lex_keyE {rs:List (List Int)}{i j:Int}:yfq (keyE rs i) (keyE rs j)=true↔(yag rs 0 i<yag rs 0 j∨(yag rs 0 i=yag rs 0 j∧i<j)):=by
 show (if yag rs 0 i=yag rs 0 j then (if i=j then false else decide (i<j)) else decide (yag rs 0 i<yag rs 0 j))=true↔_
 generalize yag rs 0 i=c
 generalize yag rs 0 j=d
 by_cases h2:c=d
 ·rw[if_pos h2]
  by_cases h3:i=j
  ·rw[if_pos h3];simp;omega
  ·rw[if_neg h3,decide_eq_true_iff];omega
 ·rw[if_neg h2,decide_eq_true_iff];omega
theorem ym7 {rs:List (List Int)}{n:Nat}{o o':List Int}(h:yb2 (keyE rs) n o)(h':yb2 (keyE rs) n o'):o=o':=by
 refine List.Perm.eq_of_pairwise (fun a b _ _ x y=>?_) h.2 h'.2 (h.1.trans h'.1.symm)
 have x':=mt lex_keyE.mpr (Bool.eq_false_iff.mp x)
 have y':=mt lex_keyE.mpr (Bool.eq_false_iff.mp y)
 generalize yag rs 0 a=r at *
 generalize yag rs 0 b=t at *
 omega
end L2
namespace L2
open PySem
theorem yt2 {K:PySem.W.Frag}{a b D:Addr}{xs ys:List V}{g:TG}{ti:TT}{te:TE}{σ₀:St}{H1:Hp}{R:Hp→Prop}(P:Nat→List V→Prop)(hD:H1 D=none)(hx:H1 a=some (.lst xs))(hy:H1 b=some (.lst ys))(hl:xs.length=ys.length)(hn:xs.length≤1000)(h0:P 0 [])
 (step:∀i x y zs H p,xs[i]? = some x→ys[i]? = some y→Same H1 H→P i zs→H p=none→∀(K1:V→Hp→Prop) (K2:Hp→Prop),(∀z H4,Same (upd H p (.tup [x,y])) H4→P (i+1) (zs++[z])→K1 z H4)→(∀H3,Same (upd H p (.tup [x,y])) H3→P (i+1) zs→K2 H3)→
  g (.ref p) σ₀ (upd H p (.tup [x,y])) fun σ2 H2=>(∀(k:Nat) v,σ₀[k]? = some (some v)→σ2[k]? = some (some v))∧ti σ2 H2 fun b H3=>if b=true then te σ2 H3 K1 else K2 H3)
 (fin:∀zs H,Same H1 H→P xs.length zs→zs.length≤xs.length→H D=some (.lst zs)→R H) :
 ∃W:Nat→Nat→Hp→Prop,(∃m,W 0 m (upd H1 D (.lst [])))∧∀i m H,W i m H→((Itz K true true a b).stop i H∧R H)∨((Itz K true true a b).go i H∧∀x H',(Itz K true true a b).yld i H x H'→g x σ₀ H' fun σ2 H2=>(∀(k:Nat) v,σ₀[k]? = some (some v)→σ2[k]? = some (some v))∧ti σ2 H2 fun b H3=>
  if b=true then te σ2 H3 fun y H4=>∃zs,H4 D=some (.lst zs)∧zs.length<sizeLine∧∃m',m' < m∧W (i+1) m' (upd H4 D (.lst (zs++[y]))) else ∃m',m' < m∧W (i+1) m' H3):=by
 refine⟨fun i m H=>i+m=xs.length∧Same H1 H∧∃zs,H D=some (.lst zs)∧zs.length≤i∧P i zs,⟨xs.length,by omega,yae hD _,[],yab,Nat.le_refl _,h0⟩,?_⟩
 rintro i m H ⟨him,s1,zs,hz,hzl,hp⟩
 have ex:=s1 _ _ hx
 have ey:=s1 _ _ hy
 by_cases hi:i<xs.length
 ·refine .inr ⟨⟨xs,ys,_,_,SqL.of ex,SqL.of ey,List.getElem?_eq_getElem hi,List.getElem?_eq_getElem (by omega)⟩,?_⟩
  rintro v H' ⟨p,x,y,rfl,hp',rfl,hxy⟩
  obtain ⟨e1,e2⟩:=hxy xs ys (SqL.of ex) (SqL.of ey)
  have sp:=yae hp' (.tup [x,y])
  refine step i x y zs H p e1 e2 s1 hp hp' _ _ (fun z H4 s4 p4=>⟨zs,s4 _ _ (sp _ _ hz),yas (by omega),m-1,by omega,by omega,((s1.trans sp).trans s4).young hD,zs++[z],yab,by rw[List.length_append,List.length_singleton];omega,p4⟩) fun H3 s3 p3=>⟨m-1,by omega,by omega,(s1.trans sp).trans s3,zs,s3 _ _ (sp _ _ hz),by omega,p3⟩
 ·have e:i=xs.length:=by omega
  subst e
  exact .inl ⟨⟨xs,ys,SqL.of ex,SqL.of ey,.inl (Nat.le_refl _)⟩,fin zs H s1 hp hzl hz⟩
end L2
namespace K13
open PySem L2
abbrev yd6:Stmt:=top 46
abbrev yqw:List Str:=["lots","outs","term","row","lot","out","count"]
abbrev yew:List Str:=["lots","outs","term","row"]
theorem sc_is_given:FnScope yqw yew (yaa yd6):=⟨rfl,rfl,rfl,by decide +kernel,rfl,by decide +kernel,by decide +kernel⟩
abbrev ycd:Stmt:=top 48
abbrev yhh:List Str:=["sums","rows"]
abbrev ydt:List Str:=["sums","rows"]
theorem ylf:FnScope yhh ydt (yaa ycd):=⟨rfl,rfl,rfl,by decide +kernel,rfl,by decide +kernel,by decide +kernel⟩
abbrev ybj:Stmt:=top 49
abbrev ydu:List Str:=["lots","outs","term","rows","goods","gone","by_lots","by_outs"]
abbrev ydv:List Str:=["lots","outs","term","rows"]
theorem sc_is_dealing:FnScope ydu ydv (yaa ybj):=⟨rfl,rfl,rfl,by decide +kernel,rfl,by decide +kernel,by decide +kernel⟩
section
variable {P:Program}{w:World}{K:PySem.W.Frag}{mg:Str→Option Value}{base:Heap}{f:Addr}{fd:FuncData}{cl:Nat→Addr}(T:Txt K mg cl)(B:Bn mg)
include T B
theorem yoi (G_reaches:Cal P w K mg base CX0 4 "reaches" yet yfl) (F:Fun K "is_given" "is_given" yd6 f fd):FnOk P w K mg base CX0 5 f fd yew yk8:=by
 refine F.ok sc_is_given (fun vs H Q E h=>?_) (fun cdv A outer s H vs Q E hr h=>?_)
 ·obtain ⟨a,b,t,tm,l,o,c,ls,os,rfl,_⟩:=h;rfl
 obtain ⟨a,b,t,tm,l,o,c,ls,os,rfl,ht,hL,h3,hO,h2,htm,q⟩:=h
 refine⟨_,(yad (yc4 (pv 3) (ya4 rfl (yaf (yah (i:=4) sc_is_given.nd rfl (Or.inl rfl)) (yaf (yah (i:=5) sc_is_given.nd rfl (Or.inl rfl)) (yaf (yah (i:=6) sc_is_given.nd rfl (Or.inl rfl)) yay)))))
  (yad (ydn (PW.pt (yka (ye9 (ydj yd7 yi6 yaj (pv 4) (yao yau rfl B.len PySem.boot_len (yal (pv 0) yac)))) (yka (ye9 (ydj yd7 yi6 yaj (pv 5) (yao yau rfl B.len PySem.boot_len (yal (pv 1) yac)))) (yjl (ybm yi6 (pv 6) yaj (ybs _)))))) (yai (yaw yj9)) ybb)
  (yai (yaw (yan G_reaches hr rfl ya9 (yal (ya8 yca (ya8 ya3 (pv 1) (pv 5) (fun _ _=>rfl)) yaj (fun _ _=>rfl)) (yal (pv 2) (yal (ya8 yca (ya8 ya3 (pv 0) (pv 4) (fun _ _=>rfl)) yaj (fun _ _=>rfl)) yac)))))))),?_⟩
 refine⟨_,rfl,t,_,rfl,SqT.of ht,rfl,_,_,rfl,_,_,rfl,_,_,rfl,rfl,?_⟩
 obtain ⟨xs,ex,hx⟩:=hL.tups
 obtain ⟨ys,ey,hy⟩:=hO.tups
 have lx:(xs.length:Int)=ls.length:=by rw[hx.1]
 have ly:(ys.length:Int)=os.length:=by rw[hy.1]
 dsimp only
 refine zb2 (decide (¬ ((0≤l∧l<(ls.length:Int))∧(0≤o∧o<(os.length:Int))∧1≤c))) (fun Q' hq=>?_) (fun e=>?_) fun e=>?_
 ·refine⟨_,rfl,_,_,rfl,rfl,_,rfl,?_⟩
  by_cases c1:0≤l
  ·rw[decide_eq_true c1]
   refine yeh ⟨_,rfl,a,_,rfl,.inl (SqL.of ex),_,_,rfl,rfl,_,rfl,?_⟩
   by_cases c2:l<(xs.length:Int)
   ·rw[decide_eq_true c2]
    refine ycq ⟨_,rfl,_,_,rfl,rfl,_,rfl,?_⟩
    by_cases c3:0≤o
    ·rw[decide_eq_true c3]
     refine yeh ⟨_,rfl,b,_,rfl,.inl (SqL.of ey),_,_,rfl,rfl,_,rfl,?_⟩
     by_cases c4:o<(ys.length:Int)
     ·rw[decide_eq_true c4]
      refine ycq ⟨_,rfl,_,_,rfl,rfl,_,rfl,?_⟩
      have e:decide (c<1)=decide (¬ ((0≤l∧l<(ls.length:Int))∧(0≤o∧o<(os.length:Int))∧1≤c)):=by
       rw[Bool.eq_iff_iff,decide_eq_true_iff,decide_eq_true_iff];omega
      rw[e];exact hq
     ·rw[decide_eq_false c4]
      rw[decide_eq_true (by omega)] at hq
      exact yeh hq
    ·rw[decide_eq_false c3]
     rw[decide_eq_true (by omega)] at hq
     exact ycq ⟨_,rfl,yeh hq⟩
   ·rw[decide_eq_false c2]
    rw[decide_eq_true (by omega)] at hq
    exact yeh hq
  ·rw[decide_eq_false c1]
   rw[decide_eq_true (by omega)] at hq
   exact ycq ⟨_,rfl,yeh hq⟩
 ·have e:=of_decide_eq_true e
  exact q false H ⟨fun z=>(by cases z),fun z=>absurd ⟨z.1,z.2.1,z.2.2.1⟩ e⟩ (Same.refl H)
 ·have e:=Classical.not_not.mp (of_decide_eq_false e)
  obtain ⟨⟨l0,l1⟩,⟨o0,o1⟩,c1⟩:=e
  obtain ⟨r,er⟩ : ∃r,os[o.toNat]? = some r:=⟨_,List.getElem?_eq_getElem (by omega)⟩
  obtain ⟨x,ex1⟩ : ∃x,ls[l.toNat]? = some x:=⟨_,List.getElem?_eq_getElem (by omega)⟩
  have colO:yag os 0 o=r.getD 0 0:=by unfold yag;rw[ydm er]
  have colL:yag ls 0 l=x.getD 0 0:=by unfold yag;rw[ydm ex1]
  obtain ⟨v,ev⟩ : ∃v,ys[o.toNat]? = some v:=⟨_,List.getElem?_eq_getElem (by omega)⟩
  obtain ⟨v',ev'⟩ : ∃v,xs[l.toNat]? = some v:=⟨_,List.getElem?_eq_getElem (by omega)⟩
  obtain ⟨p1,rfl,hp1⟩:=hy.2 _ _ _ ev er
  obtain ⟨p2,rfl,hp2⟩:=hx.2 _ _ _ ev' ex1
  obtain ⟨r2,rb⟩:=h2 r (List.mem_of_getElem? er)
  obtain ⟨rd,rc,rfl⟩:=yyn r2
  obtain ⟨xd,xc,xu,rfl⟩:=ynx (h3 x (List.mem_of_getElem? ex1))
  refine⟨_,rfl,_,rfl,b,_,o,_,rfl,rfl,SqL.of ey,ydl o0 ev,p1,_,0,_,rfl,rfl,SqT.of hp1,rfl,?_⟩
  refine⟨_,rfl,_,rfl,_,rfl,a,_,l,_,rfl,rfl,SqL.of ex,ydl l0 ev',p2,_,0,_,rfl,rfl,SqT.of hp2,rfl,?_⟩
  refine⟨rd,tm,xd,rfl,rb,htm,fun H' sm=>q _ H' ?_ sm⟩
  unfold Gvn
  show _↔(_∧_)∧(_∧_)∧_∧yc2 tm (yag os 0 o) (yag ls 0 l)=true
  rw[colO,colL]
  exact⟨fun z=>⟨⟨l0,l1⟩,⟨o0,o1⟩,c1,z⟩,fun z=>z.2.2.2⟩
theorem ylg (F:Fun K "none_above" "none_above" ycd f fd):FnOk P w K mg base CX0 1 f fd ydt yk9:=by
 refine F.ok ylf (fun vs H Q E h=>?_) (fun cdv A outer s H vs Q E hr h=>?_)
 ·obtain ⟨a,b,ss,rs,rfl,_⟩:=h;rfl
 obtain ⟨a,b,ss,rs,rfl,hI,hR,h2,hl,hn,q⟩:=h
 refine⟨_,(yai (yaw (yao (ygd rfl) rfl B.all PyProof.Rows.boot_all (yal (yem (N':=["units","row"]) (ix:=[none,none]) (g:=(ylk K 2 (ybw (ybc 0) (ybw (ybc 1) ylj)))) (ti:=yho) (te:=(tOp (rI0 fun i j=>.bl (decide (i≤j))) (yck 0) (tOp (yxb K) (yck 1) (tC (.int 1))))) rfl (yav (N:=yhh) (D:=yaa ycd) (by decide +kernel)) (you rfl B.zip (yal (pv 0) (yal (pv 1) yac))) (fun C s H fp=>(ya4 rfl (yaf (yah (i:=0) (show (["units","row"]:List Str).Nodup by decide +kernel) rfl (Or.inl rfl)) (yaf (yah (i:=1) (show (["units","row"]:List Str).Nodup by decide +kernel) rfl (Or.inl rfl)) yay)))) (fun C s H fp=>ybo) (fun C s H fp=>(ygq yd7 (pv 0) (ya8 yca (pv 1) yaj (fun _ _=>rfl)) (ybs _)))) yac)))),?_⟩
 obtain ⟨ys,ey,ht⟩:=hR.tups
 refine⟨_,rfl,_,rfl,true,true,a,b,_,ys,rfl,SqL.of hI,SqL.of ey,fun D hD=>?_⟩
 refine yt2 (fun i zs=>∃bs:List Bool,zs=bs.map V.bl∧bs.length=i∧∀(j:Nat) x u r,bs[j]? = some x→ss[j]? = some u→rs[j]? = some r→(x=true↔u≤r.getD 1 0)) hD hI ey (by rw[List.length_map,ht.1,hl]) (by rw[List.length_map];omega) ⟨[],rfl,rfl,fun j x u r e=>by cases e⟩ (fun i x y zs H2 p e1 e2 s2 hz hp K1 K2 q1 q2=>?_) fun zs H2 s2 hz ln hD2=>?_
 ·obtain ⟨u,rfl,eu⟩:=ycs e1
  obtain ⟨pr,r,rfl,er,hpr⟩:=ht.at e2
  obtain ⟨bs,rfl,lb,hb⟩:=hz
  have sp:=s2.trans (yae hp (.tup [.int u,.ref pr]))
  refine⟨p,_,rfl,SqT.of yab,rfl,_,_,rfl,_,_,rfl,rfl,yax (yax ybf rfl) rfl,?_⟩
  obtain ⟨r0,r1,rt,rfl⟩ : ∃r0 r1 rt,r=r0::r1::rt:=by
   have:=h2 r (List.mem_of_getElem? er)
   match r,this with
   |r0::r1::rt,_=>exact⟨_,_,_,rfl⟩
  refine⟨_,rfl,_,rfl,pr,_,1,_,rfl,rfl,SqT.of (sp _ _ hpr),ydl (by decide) rfl,_,_,rfl,rfl,q1 _ _ (Same.refl _) ⟨bs++[decide (u≤r1)],by rw[List.map_append];rfl,by rw[List.length_append,lb];rfl,fun j x u' r' z1 z2 z3=>?_⟩⟩
  by_cases c:j<bs.length
  ·rw[List.getElem?_append_left c] at z1
   exact hb j x u' r' z1 z2 z3
  ·have cj:j=bs.length:=by
    have:=(List.getElem?_eq_some_iff.mp z1).1
    rw[List.length_append,List.length_singleton] at this
    omega
   subst cj
   rw[List.getElem?_append_right (Nat.le_refl _),Nat.sub_self] at z1
   rw[lb] at z2 z3
   rw[eu] at z2
   rw[er] at z3
   cases z1;cases z2;cases z3
   exact decide_eq_true_iff
 ·obtain ⟨bs,rfl,lb,hb⟩:=hz
  refine⟨D,bs,rfl,SqL.of hD2,?_⟩
  refine q _ H2 ⟨fun z i u r e1 e2=>?_,fun z=>?_⟩ s2
  ·have hi:i<bs.length:=by rw[lb,List.length_map];exact(List.getElem?_eq_some_iff.mp e1).1
   exact(hb i _ u r (List.getElem?_eq_getElem hi) e1 e2).mp (List.all_eq_true.mp z _ (List.getElem_mem hi))
  ·refine List.all_eq_true.mpr fun x hx=>?_
   obtain ⟨i,hi,rfl⟩:=List.getElem_of_mem hx
   have h1:i<ss.length:=by rw[lb,List.length_map] at hi;exact hi
   exact(hb i _ _ _ (List.getElem?_eq_getElem hi) (List.getElem?_eq_getElem h1) (List.getElem?_eq_getElem (show i<rs.length by omega))).mpr (z i _ _ (List.getElem?_eq_getElem h1) (List.getElem?_eq_getElem (show i<rs.length by omega)))
theorem ylh (G_checked_both:Cal P w K mg base (CXE P w) 4 "checked_both" ybt (ymb cl)) (G_is_given:Cal P w K mg base CX0 5 "is_given" yew yk8) (G_summed:Cal P w K mg base CX0 1 "summed" yfu yhq) (G_none_above:Cal P w K mg base CX0 1 "none_above" ydt yk9) (F:Fun K "is_dealing" "is_dealing" ybj f fd):FnOk P w K mg base (CXE P w) 6 f fd ydv (yla cl):=by
 refine F.okE sc_is_dealing (fun vs H Q E h=>?_) (fun cdv A outer s H vs Q E hr h=>?_)
 ·obtain ⟨a,b,p,tm,rs,os,ts,rfl,_⟩:=h;rfl
 obtain ⟨a,b,p,tm,rs,os,ts,rfl,hR,h3,hO,h2,hT,t3,tn,q1,q2⟩:=h
 refine⟨_,(yad (yc4 (yan (E:=E) G_checked_both hr rfl (yez fun _ _ z=>z) (yal (pv 0) (yal (pv 1) (yal (pv 2) yac)))) (ya4 rfl (yaf (yah (i:=4) sc_is_dealing.nd rfl (Or.inr rfl)) (yaf (yah (i:=5) sc_is_dealing.nd rfl (Or.inr rfl)) yay))))
  (yad (ydn (ye9 (yek (yao (ygd rfl) rfl B.all PyProof.Rows.boot_all (yal (yem (N':=["row","goods","gone","term"]) (ix:=[none,some 4,some 5,some 2]) (g:=(ybc 0)) (ti:=yho) (te:=(yi7 yk8 [] E0 (ybp (yck 1) (ybp (yck 2) (ybp (yck 3) (ybp (yck 0) yhw)))))) rfl (yav (N:=ydu) (D:=yaa ybj) (by decide +kernel)) (ybd (pv 3)) (fun C s H fp=>(yah (i:=0) (show (["row","goods","gone","term"]:List Str).Nodup by decide +kernel) rfl (Or.inl rfl))) (fun C s H fp=>ybo) (fun C s H fp=>(yan G_is_given hr rfl ya9 (yal (pv 1) (yal (pv 2) (yal (pv 3) (yal (pv 0) yac))))))) yac)) (fun _=>rfl))) (yai (yaw yj9)) ybb)
  (yad (ydn (ybm yi6 (yao ymv rfl B.len PySem.boot_len (yal (ytl (hu:=yy5 hr) (N':=["lot","out","count"]) (ix:=[none,none,none]) (g:=(ylk K 3 (ybw (ybc 0) (ybw (ybc 1) (ybw (ybc 2) ylj))))) (ti:=yho) (te:=(yrn (ybp (yck 0) (ybp (yck 1) yhw)))) rfl (yav (N:=ydu) (D:=yaa ybj) (by decide +kernel)) (ybd (pv 3)) (fun C s H fp=>(ya4 rfl (yaf (yah (i:=0) (show (["lot","out","count"]:List Str).Nodup by decide +kernel) rfl (Or.inl rfl)) (yaf (yah (i:=1) (show (["lot","out","count"]:List Str).Nodup by decide +kernel) rfl (Or.inl rfl)) (yaf (yah (i:=2) (show (["lot","out","count"]:List Str).Nodup by decide +kernel) rfl (Or.inl rfl)) yay))))) (fun C s H fp=>ybo) (fun C s H fp=>(yb0 (yal (pv 0) (yal (pv 1) yac))))) yac)) (yao yau rfl B.len PySem.boot_len (yal (pv 3) yac)) (ybs _)) (yai (yaw yj9)) ybb)
  (yad (ya2 (i:=6) sc_is_dealing.nd rfl (Or.inl rfl) (yan G_summed hr rfl ya9 (yal (yao yau rfl B.len PySem.boot_len (yal (pv 4) yac)) (yal (yem (N':=["lot","out","count"]) (ix:=[none,none,none]) (g:=(ylk K 3 (ybw (ybc 0) (ybw (ybc 1) (ybw (ybc 2) ylj))))) (ti:=yho) (te:=(yrn (ybp (yck 0) (ybp (yck 2) yhw)))) rfl (yav (N:=ydu) (D:=yaa ybj) (by decide +kernel)) (ybd (pv 3)) (fun C s H fp=>(ya4 rfl (yaf (yah (i:=0) (show (["lot","out","count"]:List Str).Nodup by decide +kernel) rfl (Or.inl rfl)) (yaf (yah (i:=1) (show (["lot","out","count"]:List Str).Nodup by decide +kernel) rfl (Or.inl rfl)) (yaf (yah (i:=2) (show (["lot","out","count"]:List Str).Nodup by decide +kernel) rfl (Or.inl rfl)) yay))))) (fun C s H fp=>ybo) (fun C s H fp=>(yb0 (yal (pv 0) (yal (pv 2) yac))))) yac))))
  (yad (ya2 (i:=7) sc_is_dealing.nd rfl (Or.inl rfl) (yan G_summed hr rfl ya9 (yal (yao yau rfl B.len PySem.boot_len (yal (pv 5) yac)) (yal (yem (N':=["lot","out","count"]) (ix:=[none,none,none]) (g:=(ylk K 3 (ybw (ybc 0) (ybw (ybc 1) (ybw (ybc 2) ylj))))) (ti:=yho) (te:=(yrn (ybp (yck 1) (ybp (yck 2) yhw)))) rfl (yav (N:=ydu) (D:=yaa ybj) (by decide +kernel)) (ybd (pv 3)) (fun C s H fp=>(ya4 rfl (yaf (yah (i:=0) (show (["lot","out","count"]:List Str).Nodup by decide +kernel) rfl (Or.inl rfl)) (yaf (yah (i:=1) (show (["lot","out","count"]:List Str).Nodup by decide +kernel) rfl (Or.inl rfl)) (yaf (yah (i:=2) (show (["lot","out","count"]:List Str).Nodup by decide +kernel) rfl (Or.inl rfl)) yay))))) (fun C s H fp=>ybo) (fun C s H fp=>(yb0 (yal (pv 1) (yal (pv 2) yac))))) yac))))
  (yai (yaw (ylm (yan G_none_above hr rfl ya9 (yal (pv 6) (yal (pv 4) yac))) (yq9 (yan G_none_above hr rfl ya9 (yal (pv 7) (yal (pv 5) yac)))))))))))),?_⟩
 refine⟨_,rfl,_,rfl,_,rfl,a,b,tm,rs,os,rfl,hR,h3,hO,h2,q1,fun bn t' g o H1 ht' hg ho s1 R1 O1 e1=>?_⟩
 refine⟨t',_,rfl,SqT.of e1,rfl,_,_,rfl,_,_,rfl,rfl,?_⟩
 have q:=q2 bn
 obtain ⟨xs,ex,ht⟩:=(hT.same s1).tups
 have okT:=ymp bn
 obtain ⟨rn,on,_,ob⟩:=yoc bn
 have o9:=ys9 ob h2
 refine⟨_,rfl,p,rfl,⟨_,SqL.of ex⟩,fun D hD=>?_⟩
 refine yn4 (fun i zs _=>∃bs:List Bool,zs=bs.map V.bl∧bs.length=i∧∀(j:Nat) x r,bs[j]? = some x→ts[j]? = some r→(x=true↔Gvn rs os tm r)) hD ex (by rw[ht.1];omega) (fun i zs _ _ h _=>h) ⟨[],rfl,rfl,fun j x r e=>by cases e⟩ (fun i x zs H2 e2 s2 hz K1 K2 k1 k2=>?_) fun zs H2 s2 hz ln hD2=>?_
 ·obtain ⟨pr,r,rfl,er,hpr⟩:=ht.at e2
  obtain ⟨l,u,c,rfl⟩:=ynx (t3 r (List.mem_of_getElem? er))
  obtain ⟨bs,rfl,lb,hb⟩:=hz
  refine⟨yax ybf rfl,?_⟩
  refine⟨_,rfl,_,rfl,_,rfl,_,rfl,g,o,pr,tm,l,u,c,rs,os,rfl,s2 _ _ hpr,R1.same s2,h3,O1.same s2,o9,okT,fun y H3 hy s3=>k1 _ _ s3 ⟨bs++[y],by rw[List.map_append];rfl,by rw[List.length_append,lb];rfl,fun j x r' z1 z2=>?_⟩⟩
  by_cases c:j<bs.length
  ·rw[List.getElem?_append_left c] at z1
   exact hb j x r' z1 z2
  ·have cj:j=bs.length:=by
    have:=(List.getElem?_eq_some_iff.mp z1).1
    rw[List.length_append,List.length_singleton] at this
    omega
   subst cj
   rw[List.getElem?_append_right (Nat.le_refl _),Nat.sub_self] at z1
   rw[lb,er] at z2
   cases z1;cases z2
   exact hy
 obtain ⟨bs,rfl,lb,hb⟩:=hz
 have lbt:bs.length=ts.length:=by rw[lb,ht.1]
 have gv:bs.all id=true↔∀r∈ts,Gvn rs os tm r:=by
  refine⟨fun z r hr=>?_,fun z=>List.all_eq_true.mpr fun x hx=>?_⟩
  ·obtain ⟨i,hi,rfl⟩:=List.getElem_of_mem hr
   exact(hb i _ _ (List.getElem?_eq_getElem (show i<bs.length by omega)) (List.getElem?_eq_getElem hi)).mp (List.all_eq_true.mp z _ (List.getElem_mem _))
  ·obtain ⟨i,hi,rfl⟩:=List.getElem_of_mem hx
   exact(hb i _ _ (List.getElem?_eq_getElem hi) (List.getElem?_eq_getElem (show i<ts.length by omega))).mpr (z _ (List.getElem_mem _))
 refine⟨D,_,rfl,SqL.of hD2,_,rfl,?_⟩
 have s12:=s1.trans s2
 cases ca:bs.all id with
 |false=>
  refine yeh (q false H2 ⟨fun z=>(by cases z),fun z=>?_⟩ s12)
  rw[ca] at gv
  exact absurd (gv.mpr z.1) (by simp)
 |true=>
  have gvn:=gv.mp ca
  refine ycq ?_
  clear hb hD2 gv ca
  have ex2:=s2 _ _ ex
  refine⟨_,rfl,p,rfl,⟨_,SqL.of ex2⟩,fun D2 hD'=>?_⟩
  refine ytm (PrsP ts) hD' ex2 (by rw[ht.1];exact tn) PrsP.zero (fun i x ks0 H3 e2 s3 hz K1 K2 k1=>?_) fun ys H3 s3 hz ln hD3=>?_
  ·obtain ⟨pr,r,rfl,er,hpr⟩:=ht.at e2
   obtain ⟨l,u,c,rfl⟩:=ynx (t3 r (List.mem_of_getElem? er))
   refine⟨pr,_,rfl,SqT.of (s3 _ _ (s2 _ _ hpr)),rfl,_,_,rfl,_,_,rfl,_,_,rfl,rfl,yax (yax (yax ybf rfl) rfl) rfl,?_⟩
   refine⟨_,rfl,_,rfl,by show 2≤sizeLine;decide,fun tp htp=>?_⟩
   exact k1 tp (pk2 (l,u)) _ yab (yae htp _) (fun z=>hz.old er z) fun z=>hz.new er z
  have nod:=PrsP.fin (by rw[ht.1] at hz;exact hz)
  rw[List.length_map] at nod
  have s13:=s12.trans s3
  have s23:=s2.trans s3
  refine⟨D2,ys,rfl,hD3,by omega,_,rfl,p,_,rfl,.inl (SqL.of (s3 _ _ ex2)),_,_,rfl,rfl,_,rfl,?_⟩
  have lxs:xs.length=ts.length:=ht.1
  by_cases c:((ys.length:Int)<(xs.length:Int))
  ·rw[decide_eq_true c]
   refine yeh (q false H3 ⟨fun z=>(by cases z),fun z=>?_⟩ s13)
   exact absurd z.2.1 (nod.mp (by omega))
  ·rw[decide_eq_false c]
   refine ycq ?_
   have hnd:(ts.map pr2).Nodup:=Classical.byContradiction fun z=>c (by have:=nod.mpr z;omega)
   obtain ⟨gx,eg,hgx⟩:=(R1.same s23).tups
   obtain ⟨gy,eo,hgy⟩:=(O1.same s23).tups
   have ht3:=ht.same s23
   refine⟨_,rfl,g,_,rfl,.inl (SqL.of eg),?_⟩
   refine⟨_,rfl,p,rfl,⟨_,SqL.of (s3 _ _ ex2)⟩,fun D4 hD4=>?_⟩
   have lgx:(gx.length:Int)=rs.length:=by rw[hgx.1]
   have lgy:(gy.length:Int)=os.length:=by rw[hgy.1]
   refine yiw (fun r=>[r.getD 0 0,r.getD 2 0]) hD4 (s3 _ _ ex2) ht3 (by omega) (fun i pr r H4 er s4 hpr K1 K2 k1=>?_) fun H4 s4 R4=>?_
   ·obtain ⟨l,u,cc,rfl⟩:=ynx (t3 r (List.mem_of_getElem? er))
    exact⟨pr,_,rfl,SqT.of hpr,rfl,_,_,rfl,_,_,rfl,_,_,rfl,rfl,yax (yax (yax ybf rfl) rfl) rfl,_,rfl,_,rfl,by show 2≤sizeLine;decide,fun tp htp=>k1 tp htp⟩
   have n1:((gx.length:Int)).toNat=rs.length:=by omega
   have n2:((gy.length:Int)).toNat=os.length:=by omega
   refine⟨(gx.length:Int),D4,ya6 ts,rfl,by omega,by omega,R4,fun r hr=>?_,fun bl H5 hbl s5 I5=>?_⟩
   ·obtain ⟨r',hr',rfl⟩:=List.mem_map.mp hr
    exact⟨rfl,(gvn r' hr').1.1,by show r'.getD 0 0<_;rw[lgx];exact(gvn r' hr').1.2⟩
   rw[n1] at I5
   have s45:=s4.trans s5
   refine⟨_,rfl,o,_,rfl,.inl (SqL.of (s45 _ _ eo)),?_⟩
   refine⟨_,rfl,p,rfl,⟨_,SqL.of (s45 _ _ (s3 _ _ ex2))⟩,fun D6 hD6=>?_⟩
   refine yiw (fun r=>[r.getD 1 0,r.getD 2 0]) hD6 (s45 _ _ (s3 _ _ ex2)) (ht3.same s45) (by omega) (fun i pr r H6 er s6 hpr K1 K2 k1=>?_) fun H6 s6 R6=>?_
   ·obtain ⟨l,u,cc,rfl⟩:=ynx (t3 r (List.mem_of_getElem? er))
    exact⟨pr,_,rfl,SqT.of hpr,rfl,_,_,rfl,_,_,rfl,_,_,rfl,rfl,yax (yax (yax ybf rfl) rfl) rfl,_,rfl,_,rfl,by show 2≤sizeLine;decide,fun tp htp=>k1 tp htp⟩
   refine⟨(gy.length:Int),D6,yby ts,rfl,by omega,by omega,R6,fun r hr=>?_,fun bo H7 hbo s7 I7=>?_⟩
   ·obtain ⟨r',hr',rfl⟩:=List.mem_map.mp hr
    exact⟨rfl,(gvn r' hr').2.1.1,by show r'.getD 1 0<_;rw[lgy];exact(gvn r' hr').2.1.2⟩
   rw[n2] at I7
   have s67:=s6.trans s7
   have s37:=s45.trans s67
   have s17:=s23.trans s37
   have s07:=s1.trans s17
   refine⟨_,rfl,_,rfl,bl,g,_,rs,rfl,s67 _ _ I5,R1.same s17,fun r hr=>by rw[h3 r hr];decide,by unfold yar;rw[List.length_map,List.length_range],by omega,fun x1 H8 hx1 s8=>?_⟩
   cases x1 with
   |false=>exact⟨_,rfl,ycq (q false H8 ⟨fun z=>(by cases z),fun z=>hx1.mpr z.2.2.1⟩ (s07.trans s8))⟩
   |true=>
    refine⟨_,rfl,yeh ⟨_,rfl,_,rfl,bo,o,_,os,rfl,s8 _ _ I7,O1.same (s17.trans s8),fun r hr=>by rw[h2 r hr];decide,by unfold yar;rw[List.length_map,List.length_range],by omega,fun x2 H9 hx2 s9=>?_⟩⟩
    exact q x2 H9 ⟨fun z=>⟨gvn,hnd,hx1.mp rfl,hx2.mp z⟩,fun z=>hx2.mpr z.2.2.2⟩ (s07.trans (s8.trans s9))
end
end K13
namespace K13
open PySem L2
abbrev yhi:Stmt:=top 63
abbrev yhj:List Str:=["_law_found","_law_due"]
abbrev yt3:List Str:=["_law_found","_law_due"]
theorem yyk:FnScope yhj yt3 (yaa yhi):=⟨rfl,rfl,rfl,by decide +kernel,rfl,by decide +kernel,by decide +kernel⟩
def yi3:Nat→Sp
 |0=>fun _ _ _ _=>False
 |n+1=>fun vs H Q _=>∃v u,vs=[v,u]∧EqD H n v u∧∀H',Same H H'→Q (.bl true) H'
section
variable {P:Program}{w:World}{K:PySem.W.Frag}{mg:Str→Option Value}{base:Heap}{f:Addr}{fd:FuncData}
theorem nd2:(["_law_one","_law_other"]:List Str).Nodup:=by decide +kernel
abbrev g2 (K:PySem.W.Frag):TG:=ylk K 2 (ybw (ybc 0) (ybw (ybc 1) ylj))
theorem ym8 {m:Nat}{H2:Hp}{a b:Addr}{xs ys:List V}{bb:Bool}{Q:VK}(hl:xs.length=ys.length)(hs:xs.length≤1000)(hx:∀(i:Nat) x y,xs[i]? = some x→ys[i]? = some y→EqD H2 m x y)(hb:∀H',Same H2 H'→SqB K H' bb a xs∧SqB K H' bb b ys)
 (q:∀H',Same H2 H'→Q (.bl true) H'):yxf [none,none] (zba K (ybp (yck 0) (ybp (yck 1) yhw))) (g2 K) yho (yi7 (yi3 (m+1)) [] E0 (ybp (yck 0) (ybp (yck 1) yhw))) [some (.ref a),some (.ref b)] H2
  (fun x H3=>∃(p:Addr) (bs:List Bool),[x]=[V.ref p]∧SqL K H3 p (bs.map V.bl)∧Q (.bl (bs.all id)) H3):=by
 obtain ⟨q1,q2⟩:=hb H2 (Same.refl H2)
 refine⟨_,rfl,_,rfl,bb,bb,a,b,xs,ys,rfl,q1,q2,fun D hD=>⟨fun i m' H4=>i+m' = xs.length∧Same H2 H4∧H4 D=some (.lst (List.replicate i (.bl true))),⟨xs.length,by omega,yae hD _,yab⟩,?_⟩⟩
 rintro i m' H4 ⟨him,sm,hD4⟩
 obtain ⟨r1,r2⟩:=hb H4 sm
 by_cases hi:i<xs.length
 ·refine .inr ⟨⟨xs,ys,xs[i],ys[i]'(by omega),r1,r2,List.getElem?_eq_getElem hi,List.getElem?_eq_getElem (by omega)⟩,?_⟩
  rintro x H' ⟨p,x',y',rfl,hp,rfl,hxy⟩
  obtain ⟨e1,e2⟩:=hxy xs ys r1 r2
  refine⟨p,_,rfl,SqT.of yab,rfl,_,_,rfl,_,_,rfl,rfl,?_,?_⟩
  ·intro k v e
   match k,e with
   |0,e=>cases e
   |1,e=>cases e
   |k+2,e=>cases e
  ·refine⟨_,rfl,_,rfl,x',y',rfl,(hx i x' y' e1 e2).same (sm.trans (yae hp _)),fun H5 s5=>?_⟩
   have hD5:=s5 _ _ (show L2.upd H4 p (.tup [x',y']) D=some (.lst (List.replicate i (.bl true))) by rw[yak (yam hD4 hp)];exact hD4)
   refine⟨_,hD5,yas (by rw[List.length_replicate];omega),m' - 1,by omega,by omega,fun c o e=>?_,?_⟩
   ·rw[yak (yam e hD)]
    exact s5 _ _ (yae hp _ _ _ (sm _ _ e))
   ·rw[yab,List.replicate_succ']
 ·refine .inl ⟨⟨xs,ys,r1,r2,.inl (by omega)⟩,D,List.replicate i true,rfl,SqL.of (by rw[List.map_replicate];exact hD4),?_⟩
  have e:(List.replicate i true).all id=true:=List.all_eq_true.mpr fun b hb=>by rw[List.eq_of_mem_replicate hb];rfl
  rw[e]
  exact q H4 sm
theorem yv2 {n:Nat} (F:Fun K "_law_same" "_law_same" yhi f fd) (B:Bn mg) (G:FnOk P w K mg base CX0 n f fd yhj (yi3 n)) (b1:Binds K fd yhj []) (k1:PySem.W.keepIn K (.ref f)=true) (m1:mg "_law_same" = some (.ref f)) :
 FnOk P w K mg base CX0 (n+1) f fd yhj (yi3 (n+1)):=by
 refine F.ok yyk (fun vs H Q E h=>?_) (fun cdv A outer s H vs Q E hr h=>?_)
 ·obtain ⟨v,u,rfl,_⟩:=h;rfl
 obtain ⟨v,u,rfl,heq,q⟩:=h
 refine⟨_,yad (ydn (ybm ywe (pv 1) yon (ybs _)) (yai (yaw (ygq ywe (pv 0) yon (ybs _)))) ybb)
  (yad (ydn (PW.pt (yka (yek (yao ydk rfl B.isi PyProof.Rows.boot_isinstance (yal (pv 1) (yal (yc3 rfl B.bool PyProof.Rows.boot_bool (v:=.ty "bool") rfl) yac))) (fun _=>rfl)) (yjl (yek (yao ydk rfl B.isi PyProof.Rows.boot_isinstance (yal (pv 0) (yal (yc3 rfl B.bool PyProof.Rows.boot_bool (v:=.ty "bool") rfl) yac))) (fun _=>rfl)))))
   (yai (yaw (ylm (yao ydk rfl B.isi PyProof.Rows.boot_isinstance (yal (pv 1) (yal (yc3 rfl B.bool PyProof.Rows.boot_bool (v:=.ty "bool") rfl) yac))) (ylm (yao ydk rfl B.isi PyProof.Rows.boot_isinstance (yal (pv 0) (yal (yc3 rfl B.bool PyProof.Rows.boot_bool (v:=.ty "bool") rfl) yac))) (yq9 (ygq yuk (pv 0) (pv 1) (ybs _))))))) ybb)
  (yad (ydn (yek (yao yoy rfl B.isi PyProof.Rows.boot_isinstance (yal (pv 1) (yal (yb0 (yal (yc3 rfl B.int PyProof.Rows.boot_int (v:=.ty "int") rfl) (yal (yc3 rfl B.str PyProof.Rows.boot_str (v:=.ty "str") rfl) yac))) yac))) (fun _=>rfl))
   (yai (yaw (ylm (ygq yuk (yao ydk rfl B.isi PyProof.Rows.boot_isinstance (yal (pv 0) (yal (yc3 rfl B.int PyProof.Rows.boot_int (v:=.ty "int") rfl) yac))) (yao ydk rfl B.isi PyProof.Rows.boot_isinstance (yal (pv 1) (yal (yc3 rfl B.int PyProof.Rows.boot_int (v:=.ty "int") rfl) yac))) (ybs _))
    (ylm (yao yoy rfl B.isi PyProof.Rows.boot_isinstance (yal (pv 0) (yal (yb0 (yal (yc3 rfl B.int PyProof.Rows.boot_int (v:=.ty "int") rfl) (yal (yc3 rfl B.str PyProof.Rows.boot_str (v:=.ty "str") rfl) yac))) yac))) (yq9 (ygq yuk (pv 0) (pv 1) (ybs _))))))) ybb)
  (yad (ydn (PW.pt (yka (ybm yrg (yao ydk rfl B.isi PyProof.Rows.boot_isinstance (yal (pv 0) (yal (yc3 rfl B.list PyProof.Rows.boot_list (v:=.ty "list") rfl) yac))) (yao ydk rfl B.isi PyProof.Rows.boot_isinstance (yal (pv 1) (yal (yc3 rfl B.list PyProof.Rows.boot_list (v:=.ty "list") rfl) yac))) (ybs _))
   (yjl (ybm yrg (yao ydk rfl B.isi PyProof.Rows.boot_isinstance (yal (pv 0) (yal (yc3 rfl B.tuple PyProof.Rows.boot_tuple (v:=.ty "tuple") rfl) yac))) (yao ydk rfl B.isi PyProof.Rows.boot_isinstance (yal (pv 1) (yal (yc3 rfl B.tuple PyProof.Rows.boot_tuple (v:=.ty "tuple") rfl) yac))) (ybs _)))))
   (yai (yaw yj9)) ybb)
  (yad (ydn (ybm yrg (yao yau rfl B.len PySem.boot_len (yal (pv 0) yac)) (yao yau rfl B.len PySem.boot_len (yal (pv 1) yac)) (ybs _)) (yai (yaw yj9)) ybb)
  (yai (yaw (yao (ygd rfl) rfl B.all PyProof.Rows.boot_all (yal (yem (N':=["_law_one","_law_other"]) (ix:=[none,none]) (g:=g2 K) (ti:=yho) (te:=yi7 (yi3 n) [] E0 (ybp (yck 0) (ybp (yck 1) yhw))) rfl (yav (N:=yhj) (D:=yaa yhi) (by decide +kernel)) (you rfl B.zip (yal (pv 0) (yal (pv 1) yac)))
   (fun C s H fp=>ya4 rfl (yaf (yah (i:=0) nd2 rfl (Or.inl rfl)) (yaf (yah (i:=1) nd2 rfl (Or.inl rfl)) yay))) (fun _ _ _ _=>ybo) (fun C s H fp=>yro G hr rfl m1 k1 b1 .nil ya9 (yal (pv 0) (yal (pv 1) yac)))) yac)))))))),?_⟩
 have sN:∀{p:Addr}{o:HO},H p=none→Same H (L2.upd H p o):=fun hp=>yae hp _
 cases heq with
 |flat hf=>
  cases v with
  |non=>
   refine⟨_,rfl,rfl,_,rfl,?_⟩
   refine yeh ?_
   exact⟨_,rfl,rfl,q H (Same.refl H)⟩
  |bl b=>
   refine⟨_,rfl,rfl,_,rfl,?_⟩
   refine ycq ?_
   refine⟨_,rfl,_,_,_,_,true,rfl,rfl,TyOf.bl b,by kernel_rfl,_,rfl,?_⟩
   refine yeh (yeh ?_)
   refine⟨_,rfl,_,_,_,_,true,rfl,rfl,TyOf.bl b,by kernel_rfl,_,rfl,?_⟩
   refine yeh ⟨_,rfl,_,_,_,_,true,rfl,rfl,TyOf.bl b,by kernel_rfl,_,rfl,?_⟩
   refine yeh ⟨_,rfl,_,rfl,rfl,?_⟩
   rw[decide_eq_true (rfl:V.bl b=V.bl b)]
   exact q H (Same.refl H)
  |int i=>
   refine⟨_,rfl,rfl,_,rfl,?_⟩
   refine ycq ?_
   refine⟨_,rfl,_,_,_,_,false,rfl,rfl,TyOf.int i,by kernel_rfl,_,rfl,?_⟩
   refine ycq ⟨_,rfl,_,_,_,_,false,rfl,rfl,TyOf.int i,by kernel_rfl,_,rfl,?_⟩
   refine ycq ?_
   refine⟨_,rfl,by show 2≤sizeLine;decide,fun p hp=>⟨_,p,_,_,[.type "int",.type "str"],true,rfl,yab,rfl,TyOf.int i,by kernel_rfl,_,rfl,?_⟩⟩
   refine yeh ?_
   refine⟨_,rfl,_,_,_,_,true,rfl,rfl,TyOf.int i,by kernel_rfl,_,rfl,_,_,_,_,true,rfl,rfl,TyOf.int i,by kernel_rfl,rfl,_,rfl,?_⟩
   refine yeh ⟨_,rfl,by show 2≤sizeLine;decide,fun p2 hp2=>⟨_,p2,_,_,[.type "int",.type "str"],true,rfl,yab,rfl,TyOf.int i,by kernel_rfl,_,rfl,?_⟩⟩
   refine yeh ⟨_,rfl,_,rfl,rfl,?_⟩
   rw[decide_eq_true (rfl:V.int i=V.int i)]
   exact q _ ((sN hp).trans (yae hp2 _))
  |str x=>
   refine⟨_,rfl,rfl,_,rfl,?_⟩
   refine ycq ?_
   refine⟨_,rfl,_,_,_,_,false,rfl,rfl,TyOf.str x,by kernel_rfl,_,rfl,?_⟩
   refine ycq ⟨_,rfl,_,_,_,_,false,rfl,rfl,TyOf.str x,by kernel_rfl,_,rfl,?_⟩
   refine ycq ?_
   refine⟨_,rfl,by show 2≤sizeLine;decide,fun p hp=>⟨_,p,_,_,[.type "int",.type "str"],true,rfl,yab,rfl,TyOf.str x,by kernel_rfl,_,rfl,?_⟩⟩
   refine yeh ?_
   refine⟨_,rfl,_,_,_,_,false,rfl,rfl,TyOf.str x,by kernel_rfl,_,rfl,_,_,_,_,false,rfl,rfl,TyOf.str x,by kernel_rfl,rfl,_,rfl,?_⟩
   refine yeh ⟨_,rfl,by show 2≤sizeLine;decide,fun p2 hp2=>⟨_,p2,_,_,[.type "int",.type "str"],true,rfl,yab,rfl,TyOf.str x,by kernel_rfl,_,rfl,?_⟩⟩
   refine yeh ⟨_,rfl,_,rfl,rfl,?_⟩
   rw[decide_eq_true (rfl:V.str x=V.str x)]
   exact q _ ((sN hp).trans (yae hp2 _))
  |_=>exact absurd (show false=true from hf) Bool.false_ne_true
 |@tup m a b xs ys h1 h2 hl hs hx=>
  refine⟨_,rfl,rfl,_,rfl,?_⟩
  refine ycq ?_
  refine⟨_,rfl,_,_,_,_,false,rfl,rfl,TyOf.tup h2,by kernel_rfl,_,rfl,?_⟩
  refine ycq ⟨_,rfl,_,_,_,_,false,rfl,rfl,TyOf.tup h1,by kernel_rfl,_,rfl,?_⟩
  refine ycq ?_
  refine⟨_,rfl,by show 2≤sizeLine;decide,fun p hp=>?_⟩
  have g1:=sN (o:=.tup [.ty "int",.ty "str"]) hp _ _ h1
  have g2:=sN (o:=.tup [.ty "int",.ty "str"]) hp _ _ h2
  refine⟨_,p,_,_,[.type "int",.type "str"],false,rfl,yab,rfl,TyOf.tup g2,by kernel_rfl,_,rfl,?_⟩
  refine ycq ?_
  refine⟨_,rfl,_,_,_,_,false,rfl,rfl,TyOf.tup g1,by kernel_rfl,_,rfl,_,_,_,_,false,rfl,rfl,TyOf.tup g2,by kernel_rfl,rfl,_,rfl,?_⟩
  refine ycq ⟨_,rfl,_,_,_,_,true,rfl,rfl,TyOf.tup g1,by kernel_rfl,_,rfl,_,_,_,_,true,rfl,rfl,TyOf.tup g2,by kernel_rfl,rfl,_,rfl,?_⟩
  refine ycq ?_
  refine⟨_,rfl,a,_,rfl,.inr (SqT.of g1),_,rfl,b,_,rfl,.inr (SqT.of g2),rfl,_,rfl,?_⟩
  refine yy6 (by rw[hl]) ?_
  exact ym8 (bb:=false) hl hs (fun i x y e1 e2=>(hx i x y e1 e2).same (sN hp)) (fun H' sm=>⟨SqT.of (sm _ _ g1),SqT.of (sm _ _ g2)⟩) fun H' sm=>q H' ((sN hp).trans sm)
 |@lst m a b xs ys h1 h2 hl hs hx=>
  refine⟨_,rfl,rfl,_,rfl,?_⟩
  refine ycq ?_
  refine⟨_,rfl,_,_,_,_,false,rfl,rfl,TyOf.lst h2,by kernel_rfl,_,rfl,?_⟩
  refine ycq ⟨_,rfl,_,_,_,_,false,rfl,rfl,TyOf.lst h1,by kernel_rfl,_,rfl,?_⟩
  refine ycq ?_
  refine⟨_,rfl,by show 2≤sizeLine;decide,fun p hp=>?_⟩
  have g1:=sN (o:=.tup [.ty "int",.ty "str"]) hp _ _ h1
  have g2:=sN (o:=.tup [.ty "int",.ty "str"]) hp _ _ h2
  refine⟨_,p,_,_,[.type "int",.type "str"],false,rfl,yab,rfl,TyOf.lst g2,by kernel_rfl,_,rfl,?_⟩
  refine ycq ?_
  refine⟨_,rfl,_,_,_,_,true,rfl,rfl,TyOf.lst g1,by kernel_rfl,_,rfl,_,_,_,_,true,rfl,rfl,TyOf.lst g2,by kernel_rfl,rfl,_,rfl,?_⟩
  refine ycq ⟨_,rfl,_,_,_,_,false,rfl,rfl,TyOf.lst g1,by kernel_rfl,_,rfl,_,_,_,_,false,rfl,rfl,TyOf.lst g2,by kernel_rfl,rfl,_,rfl,?_⟩
  refine ycq ?_
  refine⟨_,rfl,a,_,rfl,.inl (SqL.of g1),_,rfl,b,_,rfl,.inl (SqL.of g2),rfl,_,rfl,?_⟩
  refine yy6 (by rw[hl]) ?_
  exact ym8 (bb:=true) hl hs (fun i x y e1 e2=>(hx i x y e1 e2).same (sN hp)) (fun H' sm=>⟨SqL.of (sm _ _ g1),SqL.of (sm _ _ g2)⟩) fun H' sm=>q H' ((sN hp).trans sm)
theorem yt4 (F:Fun K "_law_same" "_law_same" yhi f fd) (B:Bn mg) (b1:Binds K fd yhj []) (k1:PySem.W.keepIn K (.ref f)=true) (m1:mg "_law_same" = some (.ref f)):∀n:Nat,FnOk P w K mg base CX0 n f fd yhj (yi3 n)
 |0=>⟨fun _ _ _ _ h=>False.elim h,fun _ _ _ _ _ _ _ _ _ _ _ _ _ h=>False.elim h⟩
 |n+1=>yv2 F B (yt4 F B b1 k1 m1 n) b1 k1 m1
end
end K13
namespace K13
open PySem L2
abbrev ydw:Stmt:=top 55
abbrev ym9:List Str:=["_law_rows"]
abbrev yfn:List Str:=["_law_rows"]
theorem yqx:FnScope ym9 yfn (yaa ydw):=⟨rfl,rfl,rfl,by decide +kernel,rfl,by decide +kernel,by decide +kernel⟩
abbrev yfx:Str:=("_law_eldest" : Str) ++ ".<locals>." ++ "<lambda>"
abbrev yfy:PySem.Pos:=yz2 ydw
section
variable {P:Program}{w:World}{K:PySem.W.Frag}{mg:Str→Option Value}{base:Heap}{f c PT:Addr}{fd:FuncData}{tb:Tbs}(B:Bn mg)
include B
theorem yqy (BM:ylb mg base) (hc:fd.code = .ref c) (hC:PySem.W.codeHdIn K c PT=true) (ht:(PT,yfx,yfy)∈tb) (F:Fun K "_law_eldest" "_law_eldest" ydw f fd):FnOk P w K mg base CX0 1 f fd yfn (ymx tb keyE okE):=by
 refine F.okC hc yqx (fun vs H Q E h=>?_) (fun A outer s H vs Q E hr h=>?_)
 ·obtain ⟨a,rs,rfl,_⟩:=h;rfl
 obtain ⟨a,rs,rfl,hT,hR,h60,hok,q⟩:=h
 refine⟨_,(yai (yaw (yvy (N':=["_law_at","_law_rows"]) (ix:=[none,some 0]) (p := "_law_at") (tb:=(yrn (ybp (tOp (yxb K) (tOp (zap K) (yck 1) (yck 0)) (tC (.int 0))) (ybp (yck 0) yhw)))) hr (yal (yen (ykj rfl) rfl B.list PyProof.Rows.boot_list (yal (yen ysm rfl B.range PyProof.Rows.boot_range (yal (yao yau rfl B.len PySem.boot_len (yal (pv 0) yac)) yac)) yac)) yac) rfl B.sorted PyProof.Rows.boot_sorted rfl rfl hC BM rfl rfl (ytp (N:=ym9) (D:=yaa ydw) (by decide +kernel)) (fun _ _ _ _ _=>rfl) (fun A f c s H=>(yb0 (yal (ya8 yca (ya8 ya3 (pv 1) (pv 0) (fun _ _=>rfl)) yaj (fun _ _=>rfl)) (yal (pv 0) yac))))))),?_⟩
 obtain ⟨xs,ex,hx⟩:=hR.tups
 have lx:=hx.1
 refine⟨_,rfl,a,xs,rfl,.inl (SqL.of ex),(xs.length:Int),rfl,fun g hg=>?_⟩
 refine⟨g,xs.length,rfl,yab,by omega,fun l hl=>?_⟩
 have sg:=yae (H:=H) hg (.rng 0 (xs.length:Int))
 have sl:=yae hl (.lst ((yce xs.length).map V.int))
 have s1:=sg.trans sl
 refine⟨l,yce xs.length,keyE rs,2,rfl,yab,by rw[ya5];omega,s1 _ _ (hT _ ht),by decide,fun n hn=>rfl,fun n hn H2 h2=>?_,fun D ms H' hD hp ho s2 e2=>?_⟩
 ·obtain ⟨n0,n1⟩:=uptoN_mem.mp hn
  obtain ⟨k,rfl⟩ : ∃k:Nat,n=(k:Int):=⟨n.toNat,by omega⟩
  have hk:k<xs.length:=by omega
  obtain ⟨p,r,ep,er,hp⟩:=hx.at (List.getElem?_eq_getElem hk)
  have eix:atI xs (k:Int)=some (.ref p):=yfb (by rw[List.getElem?_eq_getElem hk,ep])
  obtain ⟨d,r',rfl⟩ : ∃d r',r=d::r':=by
   match r,hok r (List.mem_of_getElem? er) with
   |d::r',_=>exact⟨d,r',rfl⟩
  have ex2:H2 a=some (.lst xs):=h2 _ _ (s1 _ _ ex) (by intro z;cases z) (by intro z;cases z)
  have hp2:H2 p=some (.tup ((d::r').map V.int)):=h2 _ _ (s1 _ _ hp) (by intro z;cases z) (by intro z;cases z)
  refine⟨_,rfl,_,rfl,a,xs,_,.ref p,rfl,rfl,SqL.of ex2,eix,p,_,_,.int d,rfl,rfl,SqT.of hp2,ydl (by decide) rfl,_,rfl,by show 2≤sizeLine;decide,fun t ht=>⟨t,rfl,yae ht _,?_⟩⟩
  have e2:keyE rs ((k:Nat):Int)=[d,(k:Int)]:=by
   unfold keyE yag
   rw[yfe er];rfl
  rw[e2]
  exact yab
 ·rw[lx] at hp
  exact q D ms H' (s1.free hD) (s1.trans s2) ⟨hp,ho⟩ e2
end
end K13
namespace L2
open PySem PySem.Spec PySem.W PyProof.Rows
theorem yco (ps qs:List (List Int))(k:Nat):ybh (ps++qs) k=ybh ps k+ybh qs k:=by
 unfold ybh;rw[List.filter_append,List.map_append,List.sum_append]
theorem yex (a b:Int)(k:Nat):ybh [[a,b]] k=if a=(k:Int) then b else 0:=by
 unfold ybh
 rw[List.filter_cons]
 by_cases c:a=(k:Int)
 ·rw[if_pos c,if_pos (decide_eq_true (show [a,b].getD 0 0=(k:Int) from c))];show b+0=b;omega
 ·rw[if_neg c,if_neg (fun z:decide ([a,b].getD 0 0=(k:Int))=true=>c (of_decide_eq_true z))];rfl
theorem yhb (a b:List (List Int)):ya6 (a++b)=ya6 a++ya6 b:=List.map_append
theorem yey (a b:List (List Int)):yby (a++b)=yby a++yby b:=List.map_append
structure PassOk (rs os:List (List Int)) (tm:Int) (is:List Int) (j want want':Int) (left left':List Int) (ns:List (List Int)):Prop where
 sub:(ns.map fun r=>r.getD 0 0).Sublist is
 row:∀r∈ns,∃i u,r=[i,j,u]∧i∈is∧1≤u∧0≤yag os 0 j-yag rs 0 i∧yag os 0 j-yag rs 0 i≤tm
 len:left'.length=left.length
 con:∀k:Nat,left'.getD k 0+ybh (ya6 ns) k=left.getD k 0
 lnn:∀k:Nat,0≤left'.getD k 0
 wnn:0≤want'
 out:∀k:Nat,ybh (yby ns) k=if j=(k:Int) then want-want' else 0
 few:ns.length+left'.countP (fun x=>decide (0<x))+(if 0<want' then 1 else 0)≤left.countP (fun x=>decide (0<x))+(if 0<want then 1 else 0)
theorem yna {l:List Int}{n k:Nat}{v:Int}(h:n<l.length):(l.set n v).getD k 0=if k=n then v else l.getD k 0:=by
 rw[List.getD_eq_getElem?_getD,List.getD_eq_getElem?_getD,List.getElem?_set]
 by_cases c:k=n
 ·subst c;rw[if_pos rfl,if_pos rfl,if_pos h];rfl
 ·rw[if_neg (fun z=>c z.symm),if_neg c]
theorem yj6:∀(l:List Int) (n:Nat) (v:Int),n<l.length→(l.set n v).countP (fun x=>decide (0<x))+(if 0<l.getD n 0 then 1 else 0)=l.countP (fun x=>decide (0<x))+(if 0<v then 1 else 0)
 |[],n,v,h=>absurd h (Nat.not_lt_zero _)
 |x::l,0,v,_=>by
  rw[List.set_cons_zero,List.countP_cons,List.countP_cons]
  show _+(if decide (0<v)=true then 1 else 0)+(if 0<x then 1 else 0)=_+(if decide (0<x)=true then 1 else 0)+_
  simp only[decide_eq_true_eq]
  omega
 |x::l,n+1,v,h=>by
  have ih:=yj6 l n v (by simpa using h)
  rw[List.set_cons_succ,List.countP_cons,List.countP_cons]
  show _+_+(if 0<l.getD n 0 then 1 else 0)=_
  omega
theorem yoj {rs os:List (List Int)}{tm j:Int}:∀(is:List Int) (want:Int) (left:List Int) (told:List (List Int)),(∀i∈is,0≤i∧i.toNat<left.length)→0≤want→(∀k:Nat,0≤left.getD k 0)→
 ∃ns want' left',is.foldl (yds rs tm (yag os 0 j) j) (want,left,told)=(want',left',told++ns)∧PassOk rs os tm is j want want' left left' ns
 |[],want,left,told,_,hw,hl=>⟨[],want,left,by rw[List.append_nil];rfl,⟨.slnil,(fun r hr=>nomatch hr),rfl,(fun k=>by show _+0=_;omega),hl,hw,(fun k=>by show (0:Int)=_;split <;> omega),by rw[List.length_nil];omega⟩⟩
 |i::is,want,left,told,hi,hw,hl=>by
  obtain ⟨i0,i1⟩:=hi i (.head _)
  rw[List.foldl_cons]
  by_cases c:0<min want (left.getD i.toNat 0)∧yag os 0 j-tm≤yag rs 0 i∧yag rs 0 i≤yag os 0 j
  ·have e:yds rs tm (yag os 0 j) j (want,left,told) i=(want-min want (left.getD i.toNat 0),left.set i.toNat (left.getD i.toNat 0-min want (left.getD i.toNat 0)),told++[[i,j,min want (left.getD i.toNat 0)]]):=by unfold yds;rw[if_pos c]
   rw[e]
   have cs:=yj6 left i.toNat (left.getD i.toNat 0-min want (left.getD i.toNat 0)) i1
   have hl2:∀k:Nat,0≤(left.set i.toNat (left.getD i.toNat 0-min want (left.getD i.toNat 0))).getD k 0:=fun k=>by
    rw[yna i1];split
    ·omega
    ·exact hl k
   obtain ⟨ns,w',l',e2,P⟩:=yoj is (want-min want (left.getD i.toNat 0)) (left.set i.toNat (left.getD i.toNat 0-min want (left.getD i.toNat 0))) (told++[[i,j,min want (left.getD i.toNat 0)]]) (fun k hk=>by rw[List.length_set];exact hi k (.tail _ hk)) (by omega) hl2
   refine⟨[i,j,min want (left.getD i.toNat 0)]::ns,w',l',by rw[e2,List.append_assoc];rfl,⟨P.sub.cons_cons i,fun r hr=>?_,by rw[P.len,List.length_set],fun k=>?_,P.lnn,P.wnn,fun k=>?_,?_⟩⟩
   ·rcases List.mem_cons.mp hr with z|z
    ·exact⟨i,_,z,.head _,by omega,by omega,by omega⟩
    ·obtain ⟨i',u,h1,h2,h3⟩:=P.row r z
     exact⟨i',u,h1,.tail _ h2,h3⟩
   ·have:=P.con k
    rw[yna i1] at this
    show _+ybh ([[i,min want (left.getD i.toNat 0)]]++ya6 ns) k=_
    rw[yco,yex]
    by_cases ck:k=i.toNat
    ·rw[if_pos ck] at this
     rw[if_pos (by omega),ck];rw[ck] at this;omega
    ·rw[if_neg ck] at this
     rw[if_neg (by omega)];omega
   ·have:=P.out k
    show ybh ([[j,min want (left.getD i.toNat 0)]]++yby ns) k=_
    rw[yco,yex,this]
    split <;> omega
   ·have:=P.few
    rw[List.length_cons]
    have a1:(if 0<left.getD i.toNat 0 then 1 else 0)=1:=if_pos (by omega)
    have a2:(if 0<want then 1 else 0)=1:=if_pos (by omega)
    rw[a1] at cs
    rw[a2]
    by_cases z:want≤left.getD i.toNat 0
    ·have:(if 0<want-min want (left.getD i.toNat 0) then 1 else 0)=0:=if_neg (by omega)
     by_cases y:0<left.getD i.toNat 0-min want (left.getD i.toNat 0)
     ·rw[if_pos y] at cs;omega
     ·rw[if_neg y] at cs;omega
    ·have b1:¬ 0<left.getD i.toNat 0-min want (left.getD i.toNat 0):=by omega
     rw[if_neg b1] at cs
     have b2:(if 0<want-min want (left.getD i.toNat 0) then 1 else 0)≤1:=by split <;> omega
     omega
  ·have e:yds rs tm (yag os 0 j) j (want,left,told) i=(want,left,told):=by unfold yds;rw[if_neg c]
   rw[e]
   obtain ⟨ns,w',l',e2,P⟩:=yoj is want left told (fun k hk=>hi k (.tail _ hk)) hw hl
   exact⟨ns,w',l',e2,⟨P.sub.cons i,fun r hr=>by obtain ⟨i',u,h1,h2,h3⟩:=P.row r hr;exact⟨i',u,h1,.tail _ h2,h3⟩,P.len,P.con,P.lnn,P.wnn,P.out,P.few⟩⟩
def zb4 (ages outs:List Int)(r r':List Int):Prop:=outs.idxOf (r.getD 1 0)<outs.idxOf (r'.getD 1 0)∨(outs.idxOf (r.getD 1 0)=outs.idxOf (r'.getD 1 0)∧ages.idxOf (r.getD 0 0)<ages.idxOf (r'.getD 0 0))
structure DealW (rs os:List (List Int)) (tm:Int) (ages outs:List Int) (all:List Int) (left left':List Int) (us:List (List Int)):Prop where
 row:∀r∈us,∃i j u,r=[i,j,u]∧i∈ages∧j∈outs∧1≤u∧0≤yag os 0 j-yag rs 0 i∧yag os 0 j-yag rs 0 i≤tm
 ord:us.Pairwise (zb4 ages all)
 len:left'.length=left.length
 con:∀k:Nat,left'.getD k 0+ybh (ya6 us) k=left.getD k 0
 lnn:∀k:Nat,0≤left'.getD k 0
 out:∀k:Nat,(k:Int)∈outs→ybh (yby us) k≤yag os 1 (k:Int)
 non:∀k:Nat,(k:Int) ∉ outs→ybh (yby us) k=0
 few:us.length+left'.countP (fun x=>decide (0<x))≤left.countP (fun x=>decide (0<x))+outs.length
theorem ypw:∀{l:List Int},l.Nodup→∀(i:Nat) (h:i<l.length),l.idxOf l[i]=i
 |x::l,nd,0,_=>by rw[List.getElem_cons_zero,List.idxOf_cons_self]
 |x::l,nd,i+1,h=>by
  obtain ⟨n1,n2⟩:=List.nodup_cons.mp nd
  have h':i<l.length:=by simpa using h
  rw[List.getElem_cons_succ,List.idxOf_cons,beq_eq_false_iff_ne.mpr (fun e:x=l[i]=>n1 (by rw[e];exact List.getElem_mem h')),cond_false,ypw n2 i h']
theorem yt5 {ages:List Int}(nd:ages.Nodup):∀{xs:List Int},xs.Sublist ages→xs.Pairwise (fun a b=>ages.idxOf a<ages.idxOf b):=fun {xs} h=>by
 refine List.Pairwise.sublist h ?_
 rw[List.pairwise_iff_getElem]
 intro i j hi hj hij
 rw[ypw nd,ypw nd]
 exact hij
theorem yt6 {rs os:List (List Int)}{tm:Int}{ages all:List Int}(nda:ages.Nodup)(ndo:all.Nodup)(ho:∀r∈os,0≤r.getD 1 0):∀(outs:List Int) (left:List Int) (told:List (List Int)),outs.Sublist all→(∀j∈outs,0≤j∧j.toNat<os.length)→(∀i∈ages,0≤i∧i.toNat<left.length)→(∀k:Nat,0≤left.getD k 0)→
 ∃us left',outs.foldl (ywx rs os tm ages) (left,told)=(left',told++us)∧DealW rs os tm ages outs all left left' us
 |[],left,told,_,_,_,hl=>⟨[],left,by rw[List.append_nil];rfl,⟨(fun r hr=>nomatch hr),.nil,rfl,(fun k=>by show _+0=_;omega),hl,(fun k hk=>nomatch hk),(fun k _=>rfl),by rw[List.length_nil,List.length_nil];omega⟩⟩
 |j::outs,left,told,hs,hj,ha,hl=>by
  obtain ⟨j0,j1⟩:=hj j (.head _)
  have cnt:0≤yag os 1 j:=by
   unfold yag
   rw[ydm (List.getElem?_eq_getElem j1)]
   exact ho _ (List.getElem_mem j1)
  obtain ⟨ns,w',l1,e1,P⟩:=yoj (rs:=rs) (os:=os) (tm:=tm) (j:=j) ages (yag os 1 j) left told ha cnt hl
  have hs2:outs.Sublist all:=(List.sublist_cons_self j outs).trans hs
  obtain ⟨us,l2,e2,D⟩:=yt6 (rs:=rs) (tm:=tm) nda ndo ho outs l1 (told++ns) hs2 (fun k hk=>hj k (.tail _ hk)) (fun i hi=>by rw[P.len];exact ha i hi) P.lnn
  have ndj:(j::outs).Nodup:=hs.nodup ndo
  have jn:j ∉ outs:=(List.nodup_cons.mp ndj).1
  have rel:=yt5 ndo hs
  have w1:ybh (yby ns) j.toNat≤yag os 1 j:=by
   rw[P.out,if_pos (by omega)];have:=P.wnn;omega
  refine⟨ns++us,l2,?_,⟨fun r hr=>?_,?_,by rw[D.len,P.len],fun k=>?_,D.lnn,fun k hk=>?_,fun k hk=>?_,?_⟩⟩
  ·rw[List.foldl_cons]
   have:ywx rs os tm ages (left,told) j=(l1,told++ns):=by
    unfold ywx;dsimp only;rw[e1]
   rw[this,e2,List.append_assoc]
  ·rcases List.mem_append.mp hr with z|z
   ·obtain ⟨i,u,h1,h2,h3⟩:=P.row r z
    exact⟨i,j,u,h1,h2,.head _,h3⟩
   ·obtain ⟨i,j',u,h1,h2,h3,h4⟩:=D.row r z
    exact⟨i,j',u,h1,h2,.tail _ h3,h4⟩
  ·refine List.pairwise_append.mpr ⟨?_,D.ord,fun r hr r' hr'=>?_⟩
   ·have:=yt5 nda P.sub
    rw[List.pairwise_map] at this
    refine this.imp_of_mem fun {r r'} hr hr' z=>?_
    obtain ⟨i,u,e,_⟩:=P.row r hr
    obtain ⟨i',u',e',_⟩:=P.row r' hr'
    subst e;subst e'
    exact .inr ⟨rfl,z⟩
   ·obtain ⟨i,u,e,_⟩:=P.row r hr
    obtain ⟨i',j',u',e',_,h3,_⟩:=D.row r' hr'
    subst e;subst e'
    exact .inl ((List.pairwise_cons.mp rel).1 j' h3)
  ·have h1:=P.con k
   have h2:=D.con k
   rw[yhb,yco];omega
  ·rw[yey,yco]
   rcases List.mem_cons.mp hk with z|z
   ·have h1:=D.non k (by rw[z];exact jn)
    have:k=j.toNat:=by omega
    subst this
    rw[h1,z];omega
   ·have h1:=D.out k z
    rw[P.out,if_neg (fun y=>jn (by rw[y];exact z))];omega
  ·rw[yey,yco,D.non k (fun z=>hk (.tail _ z)),P.out,if_neg (fun y=>hk (by rw[← y];exact .head _))];rfl
  ·have h1:=P.few
   have h2:=D.few
   rw[List.length_append,List.length_cons]
   have b1:(if 0<yag os 1 j then 1 else 0)≤1:=by split <;> omega
   have b2:0≤(if 0<w' then 1 else 0):=Nat.zero_le _
   omega
theorem ynb {n k:Nat}{f g:Nat→Int}{v:Int}(h1:g k=v)(h2:∀x,x≠k→g x=f x):((List.range n).map f).set k v=(List.range n).map g:=by
 refine List.ext_getElem? fun i=>?_
 rw[List.getElem?_set,List.getElem?_map,List.length_map,List.length_range]
 by_cases hi:i<n
 ·rw[List.getElem?_map,List.getElem?_range hi,Option.map_some,Option.map_some]
  by_cases c:k=i
  ·subst c;rw[if_pos rfl,if_pos hi,h1]
  ·rw[if_neg c,h2 i (fun z=>c z.symm)]
 ·rw[List.getElem?_map,List.getElem?_eq_none (by rw[List.length_range];omega)]
  by_cases c:k=i
  ·subst c;rw[if_pos rfl,if_neg hi];rfl
  ·rw[if_neg c];rfl
def ybz (os:List (List Int))(us:List (List Int)):List Int:=(List.range os.length).map fun (k:Nat)=>yag os 1 (k:Int)-ybh (yby us) k
theorem yt7 {n:Nat}{us:List (List Int)}{i j c:Int}(h0:0≤i):(yar n (ya6 us)).set i.toNat (ybh (ya6 us) i.toNat+c)=yar n (ya6 (us++[[i,j,c]])):=by
 unfold yar
 refine ynb ?_ fun x hx=>?_
 ·rw[yhb,yco];show _+ybh [[i,c]] _=_;rw[yex,if_pos (by omega)]
 ·rw[yhb,yco];show _+ybh [[i,c]] _=_;rw[yex,if_neg (by omega)];omega
theorem yqz {os us:List (List Int)}{i j c:Int}(h0:0≤j):(ybz os us).set j.toNat (yag os 1 ((j.toNat:Nat):Int)-ybh (yby us) j.toNat-c)=ybz os (us++[[i,j,c]]):=by
 unfold ybz
 refine ynb ?_ fun x hx=>?_
 ·rw[yey,yco];show _-(_+ybh [[j,c]] _)=_;rw[yex,if_pos (by omega)];omega
 ·rw[yey,yco];show _-(_+ybh [[j,c]] _)=_;rw[yex,if_neg (by omega)];omega
theorem yv3 {ps:List (List Int)}(h:∀r∈ps,0≤r.getD 1 0)(k:Nat):0≤ybh ps k:=by
 unfold ybh
 induction ps with
 |nil=>exact Int.le_refl _
 |cons r ps ih=>
  have:=ih fun q hq=>h q (.tail _ hq)
  rw[List.filter_cons]
  split
  ·rw[List.map_cons,List.sum_cons];have:=h r (.head _);omega
  ·exact this
theorem yq0 {us:List (List Int)}(h:∀r∈us,0≤r.getD 2 0)(i k:Nat):ybh (yby (us.take i)) k≤ybh (yby us) k:=by
 have e:yby us=yby (us.take i)++yby (us.drop i):=by rw[← yey,List.take_append_drop]
 rw[e,yco]
 have:=yv3 (ps:=yby (us.drop i)) (fun r hr=>by
  obtain ⟨q,hq,rfl⟩:=List.mem_map.mp hr
  exact h q (List.mem_of_mem_drop hq)) k
 omega
theorem DealW.pairs {rs os:List (List Int)}{tm:Int}{ages outs ts left:List Int}{us:List (List Int)}(D:DealW rs os tm ages outs outs ts left us):(us.map pr2).Nodup:=by
 refine List.Pairwise.map _ (fun a b z e=>?_) D.ord
 injection e with e1 e2
 rcases z with z|⟨_,z⟩
 ·rw[e2] at z;exact Nat.lt_irrefl _ z
 ·rw[e1] at z;exact Nat.lt_irrefl _ z
def yhk (ages outs:List Int)(r:List Int):List Int:=[((outs.idxOf (r.getD 1 0):Nat):Int),((ages.idxOf (r.getD 0 0):Nat):Int)]
theorem DealW.sorted {rs os:List (List Int)}{tm:Int}{ages outs ts left:List Int}{us ss:List (List Int)}(D:DealW rs os tm ages outs outs ts left us)(hp:ss.Perm (us.map (yhk ages outs)))(hs:ss.Pairwise (fun a b=>yfq b a=false)):ss=us.map (yhk ages outs):=by
 have st:(us.map (yhk ages outs)).Pairwise (fun a b=>yfq a b=true):=by
  refine List.Pairwise.map _ (fun a b z=>?_) D.ord
  unfold yhk
  show (if _=_ then yfq [_] [_] else decide (_<_))=true
  rcases z with z|⟨z1,z⟩
  ·rw[if_neg (by omega)];exact decide_eq_true (by omega)
  ·rw[if_pos (by omega)]
   show (if _=_ then yfq [] [] else decide (_<_))=true
   rw[if_neg (by omega)];exact decide_eq_true (by omega)
 have two:∀a∈us.map (yhk ages outs),∃x y:Int,a=[x,y]:=fun a ha=>by
  obtain ⟨r,_,rfl⟩:=List.mem_map.mp ha
  exact⟨_,_,rfl⟩
 refine List.Perm.eq_of_pairwise (le:=fun a b=>yfq b a=false) (fun a b ha hb h1 h2=>?_) hs (st.imp fun z=>yny z) hp
 obtain ⟨x,y,rfl⟩:=two a (hp.mem_iff.mp ha)
 obtain ⟨x',y',rfl⟩:=two b hb
 change (if x'=x then yfq [y'] [y] else decide (x' < x))=false at h1
 change (if x=x' then yfq [y] [y'] else decide (x<x'))=false at h2
 by_cases c:x=x'
 ·subst c
  rw[if_pos rfl] at h1 h2
  change (if y'=y then yfq [] [] else decide (y' < y))=false at h1
  change (if y=y' then yfq [] [] else decide (y<y'))=false at h2
  by_cases d:y=y'
  ·rw[d]
  ·rw[if_neg (fun z=>d z.symm)] at h1
   rw[if_neg d] at h2
   have:=of_decide_eq_false h1
   have:=of_decide_eq_false h2
   omega
 ·rw[if_neg (fun z=>c z.symm)] at h1
  rw[if_neg c] at h2
  have:=of_decide_eq_false h1
  have:=of_decide_eq_false h2
  omega
theorem ywz {n:Nat}{i:Int}(h0:0≤i)(h1:i<(n:Int)):ixN n i=some i.toNat:=by unfold ixN;rw[if_pos h0,if_pos h1]
theorem ync {os us:List (List Int)}{j:Int}(h0:0≤j)(h1:j<(os.length:Int)):(ybz os us)[j.toNat]? = some (yag os 1 ((j.toNat:Nat):Int)-ybh (yby us) j.toNat):=by
 unfold ybz
 rw[List.getElem?_map,List.getElem?_range (by omega)];rfl
theorem yv4 {K:PySem.W.Frag}{H:Hp}{l e:Addr}{xs ys:List V}{rs:List (List Int)}{neg:Bool}{Q:VK}(h1:Tups H xs rs)(h2:Tups H ys rs)(hl:H l=some (.lst xs))(he:H e=some (.lst ys))(q:Q (.bl (neg != true)) H):yxg K neg (.ref l) (.ref e) H Q:=by
 refine⟨l,e,xs,ys,rfl,rfl,SqL.of hl,SqL.of he,.inr ⟨by rw[h1.1,h2.1],1,fun _=>true,by decide,fun j x y e1 e2=>?_,?_⟩⟩
 ·obtain ⟨p,r,rfl,er,hp⟩:=h1.at e1
  obtain ⟨p',r',rfl,er',hp'⟩:=h2.at e2
  rw[er] at er'
  cases er'
  by_cases c:p=p'
  ·subst c;exact .same
  ·have:=EqB.tup (K:=K) (n:=0) (fun _=>true) c (SqT.of hp) (SqT.of hp') (fun j x y e1 e2=>by
    rw[e1] at e2
    cases e2
    obtain ⟨v,rfl,_⟩:=ycs e1
    have:eqV (.int v) (.int v)=true:=by simp [eqV]
    rw[← this]
    exact EqB.flat rfl rfl)
   rw[ykg] at this
   simpa using this
 ·rw[ykg];exact q
theorem ynd {l:List Int}(nd:l.Nodup){b:Int}(hb:b∈l):l[l.idxOf b]? = some b∧∀(m:Nat) z,m<l.idxOf b→l[m]? = some z→z≠b:=by
 have hlt:=List.idxOf_lt_length_of_mem hb
 refine⟨by rw[List.getElem?_eq_getElem hlt,List.getElem_idxOf],fun m z hm e z'=>?_⟩
 obtain ⟨h1,h2⟩:=List.getElem?_eq_some_iff.mp e
 have:=ypw nd m h1
 rw[h2,z'] at this
 omega
theorem yv5 {rs os:List (List Int)}{tm:Int}{ages outs ts:List Int}(ha:yb2 (keyE rs) rs.length ages)(hb:yb2 (keyE os) os.length outs)(ho:∀r∈os,0≤r.getD 1 0)(hl:ts.length=rs.length)(hts:∀u∈ts,0≤u) :
 DealW rs os tm ages outs outs ts (yg9 rs os tm ages outs ts).1 (yg9 rs os tm ages outs ts).2:=by
 have nda:ages.Nodup:=(ha.1.nodup_iff).mpr (yd5 _)
 have ndo:outs.Nodup:=(hb.1.nodup_iff).mpr (yd5 _)
 obtain ⟨us,l',e,D⟩:=yt6 (rs:=rs) (os:=os) (tm:=tm) (ages:=ages) (all:=outs) nda ndo ho outs ts [] (List.Sublist.refl _) (fun j hj=>by have:=uptoN_mem.mp (hb.1.mem_iff.mp hj);omega) (fun i hi=>by have:=uptoN_mem.mp (ha.1.mem_iff.mp hi);omega) (fun k=>by
  rw[List.getD_eq_getElem?_getD]
  cases q:ts[k]? with
  |none=>exact Int.le_refl _
  |some v=>exact hts v (List.mem_of_getElem? q))
 rw[List.nil_append] at e
 have e':yg9 rs os tm ages outs ts=(l',us):=e
 rw[e'];exact D
section
variable {prog:Program}{w:World}{A:Around}{E:Value→Shared→Prop}{s:Shared}
abbrev yok (w:World):Obj:={ cls:=.type "set",dict:=none,data:=.set #[] 0 (.fresh 0 0 (!byT w)) }
theorem yv6 (a:Value){Q₁:Value→Shared→Prop}(h:Q₁ (.ref s.heap.objs.size) { s with heap:=s.heap.push (yok w) }) :
 codeAny (model prog w) A (.call (.builtin "set.__new__") ⟨[.type "set",a],[]⟩) (wants Q₁ E) s:=by
 refine codeAny_of_tree (show wpAny _ A.in1 (do checkBuiltinCall "set.__new__" ⟨[.type "set",a],[]⟩;again (.builtin "set.__new__" ⟨[.type "set",a],[]⟩)) _ _ s from ?_)
 refine zwb0 (wpAny_of_eq (F.newCall_set_1 a) (zwp0 ⟨plainId_quiet F.plain_set_new _,codeAny_builtin F.entry_set_new ?_⟩));rw[Around.under_plainId F.plain_set_new _]
 unfold Builtin.«set.__new__» Builtin.Frozenset.newClass;have hsub:=PySem.sub_set_self;obtain ⟨hp,g,d,tk,os⟩:=s
 dsimp only;wp_walk;refine wpAny_askSetting (zwp0 ?_);dsimp only;simp only[newObj]
 exact zwb0 (wpAny_alloc (zwp0 (zwp0 h)))
end
section
variable {X:Cx}
end
section
variable {prog:Program}{w:World}{A:Around}{E:Value→Shared→Prop}{s:Shared}
theorem yol {h h':Heap}{ks:List Key}{p:Addr}(x:(TKn prog w).is h ks p)(k:∀o,h.get? p=some o→h'.get? p=some o):(TKn prog w).is h' ks p:=by
 obtain ⟨o,its,n,h1,r⟩:=x
 exact⟨o,its,n,k o h1,r⟩
theorem yz5 {h:Heap}{a:Addr}(e:h.get? a=some (yok w)):SetT prog w a [] h:=
 ⟨_,#[],0,_,e,⟨rfl,rfl,rfl⟩,rfl,rfl,(fun e he=>by simp at he),(fun q hq=>by simp at hq),⟨rfl,(fun i j hi=>by simp [SetTable.fresh] at hi),rfl,.inl rfl,(show 0*5<7*3 by decide),(fun i e j hi=>by simp at hi)⟩⟩
def OfL (key:Nat→List Key)(at_:Nat→Addr)(i:Nat)(xs:List (List Key×Addr)):Prop:=xs.length≤i∧∀q∈xs,∃k,k<i∧q=(key k,at_ k)
theorem OfL.ins {key:Nat→List Key}{at_:Nat→Addr}{i:Nat}{xs xs':List (List Key×Addr)}(h:OfL key at_ i xs)(ii:yvt xs (key i) (at_ i) xs'):OfL key at_ (i+1) xs':=by
 rcases ii with ⟨_,rfl⟩ | ⟨_,rfl⟩
 ·exact⟨Nat.le_succ_of_le h.1,fun q hq=>by obtain ⟨k,h1,h2⟩:=h.2 q hq;exact⟨k,by omega,h2⟩⟩
 ·refine⟨by rw[List.length_append,List.length_singleton];exact Nat.succ_le_succ h.1,fun q hq=>?_⟩
  rcases List.mem_append.mp hq with z|z
  ·obtain ⟨k,h1,h2⟩:=h.2 q z;exact⟨k,by omega,h2⟩
  ·exact⟨i,Nat.lt_succ_self _,List.mem_singleton.mp z⟩
theorem yt8 {I:Addr}{fp wr:List Addr}{G:Array GenState→Array GenState→Prop}{n:Nat}{P:Nat→Value→Prop}{St:Nat→Shared→Prop}{R:Result→Shared→Prop}(W:WalksS prog w A.in1 I fp wr G n P St)(S:Addr)(hSf:S ∉ fp){key:Nat→List Key}{at_:Nat→Addr}(hu:A.in1.units<cLine)
 (hval:∀i v,i<n→P i v→v = .ref (at_ i)) (hfar:∀i,i<n→at_ i ∉ S::fp) (hb:n≤76) {T:Nat→List (List Key×Addr)→Prop} (hT:∀i xs xs',i<n→T i xs→yvt xs (key i) (at_ i) xs'→T (i+1) xs'):∀(k i:Nat) (s:Shared) (xs:List (List Key×Addr)),n-i=k→i≤n→St i s→SetT prog w S xs s.heap→OfL key at_ i xs→T i xs→(∀j,j<n→(TKn prog w).is s.heap (key j) (at_ j))→
  (∀s' xs',Moved (S::wr) G s s'→SetT prog w S xs' s'.heap→T n xs'→xs'.length≤n→R (.ok (.ret .none)) s')→codeAny (model prog w) A (.builtin "set.update.loop" ⟨[.ref S,.ref I],[]⟩) R s:=by
 have hSw:S ∉ wr:=fun h=>hSf (W.sub _ h)
 have hsub:∀b∈wr,b∈S::wr:=fun b hb=>List.mem_cons_of_mem _ hb
 have far:∀i,i<n→at_ i≠S∧at_ i ∉ wr:=fun i hi=>⟨fun z=>hfar i hi (by rw[z];exact List.mem_cons_self),fun z=>hfar i hi (List.mem_cons_of_mem _ (W.sub _ z))⟩
 intro k
 induction k with
 |zero=>
  intro i s xs hk hi hst hS hO hTi hK hR;obtain rfl:i=n:=by omega
  refine codeAny_builtin PyProof.Rows.F.entry_set_update_loop ?_;rw[Around.under_plainId PyProof.Rows.F.plain_set_update_loop _]
  refine(show wpAny _ A.in1 (pyNext (.ref I) >>= _) _ _ s from zwb0 (W.done s _ _ hst fun s' hm=>?_))
  exact(show wpAny _ A.in1 (ret Value.none) _ _ s' from zwp0 (hR s' xs (hm.mono hsub) (hS.keep fun o e=>hm.heap S _ hSw e) hTi hO.1))
 |succ k ih=>
  intro i s xs hk hi hst hS hO hTi hK hR;have hlt:i<n:=by omega
  refine codeAny_builtin PyProof.Rows.F.entry_set_update_loop ?_;rw[Around.under_plainId PyProof.Rows.F.plain_set_update_loop _]
  refine(show wpAny _ A.in1 (pyNext (.ref I) >>= _) _ _ s from zwb0 (W.item i s _ _ hlt hst fun v s' hP hst' hm=>?_))
  obtain rfl:=hval i v hlt hP
  have hS':SetT prog w S xs s'.heap:=hS.keep fun o e=>hm.heap S _ hSw e
  have hK':∀j,j<n→(TKn prog w).is s'.heap (key j) (at_ j):=fun j hj=>yol (hK j hj) fun o e=>hm.heap _ _ (far j hj).2 e
  refine(show wpAny _ A.in1 (holding [Value.ref (at_ i)] (setAdd S (.ref (at_ i))) >>= _) _ _ s' from zwb0 (wpAny_holding ?_))
  refine ypn hu hS' (fun q hq=>by obtain ⟨j,h1,rfl⟩:=hO.2 q hq;exact hK' j (by omega)) (hK' i hlt) (by have:=hO.1;omega) fun b h' tk xs' htk hsb hS2 ii=>?_
  have kk:∀b o,b≠S→s'.heap.get? b=some o→h'.get? b=some o:=fun b o hb e=>by rw[hsb.2 b hb];exact e
  refine zwp0 ⟨plainId_quiet PyProof.Rows.F.plain_set_update_loop _,ih (i+1) _ xs' (by omega) hlt (W.frame _ s' _ _ hst' htk fun b hb o e=>kk b o (fun z:b=S=>hSf (by rw[← z];exact hb)) e) hS2 (hO.ins ii) (hT i xs xs' hlt hTi ii) (fun j hj=>yol (hK' j hj) fun o e=>kk _ o (far j hj).1 e) fun s'' xs'' hm'' hS'' hT'' hl''=>?_⟩
  ·refine hR s'' xs'' (Moved.trans W.gtrans ((hm.mono hsub).then_heap htk fun b o hb e=>kk b o (fun z:b=S=>hb (by rw[z];exact List.mem_cons_self)) e) hm'') hS'' hT'' hl''
theorem yt9 {l:Addr}{items:Array Value}{key:Nat→List Key}{at_:Nat→Addr}{T:Nat→List (List Key×Addr)→Prop}{Q:Value→Shared→Prop}(hu:A.units+16<cLine)(hh:A.handled=none)(hl:s.heap.IsList l items)(hi:∀(i:Nat) v,items[i]? = some v→v = .ref (at_ i))(hlt:∀i,i<items.size→(TKn prog w).is s.heap (key i) (at_ i))(hb:items.size≤76)
 (hT0:T 0 []) (hTS:∀i xs xs',i<items.size→T i xs→yvt xs (key i) (at_ i) xs'→T (i+1) xs')
 (h:∀(h':Heap) (tk:Nat) xs,SetT prog w s.heap.objs.size xs h'→T items.size xs→xs.length≤items.size→(∀b o,b<s.heap.objs.size→s.heap.get? b=some o→h'.get? b=some o)→Q (.ref s.heap.objs.size) { s with heap:=h',toks:=tk }) :
 wpAny (model prog w) A (call (.type "set") [.ref l]) Q E s:=by
 obtain ⟨c,tl,hmro⟩:=F.called_set.mro;have hmade:=F.called_set.made;have hsub:=F.called_set.sub
 refine wpAny_call (codeAny_of_tree (show wpAny _ _ (callAny (.type "set") _) _ _ _ from zwp0 ⟨Code.quiet_builtin _ (by decide +kernel),codeAny_builtin F.entry_type_call ?_⟩))
 rw[Around.under_plain (weight_type_call_type "set" [.ref l] []) rfl];have h1:=F.called_set.notType;have h2:=F.called_set.canCreate;have hct:=F.typeCall_set_1 (.ref l)
 repeat (any_goals (first|assumption|wp_step))
 refine codeAny_mono (yv6 (.ref l) (E:=E) (Q₁:=fun obj s₁=>obj = .ref s.heap.objs.size∧s₁ = { s with heap:=s.heap.push (yok w) }) ⟨rfl,rfl⟩) fun r s₁ hr=>?_
 cases r with
 |error e=>exact hr
 |ok fl=>
  cases fl with
  |ret obj=>
   obtain ⟨rfl,rfl⟩:=hr
   have hS:(s.heap.push (yok w)).get? s.heap.objs.size=some (yok w):=Heap.get?_push_size _ rfl
   have hT:Shared.TypeIs { s with heap:=s.heap.push (yok w) } (.ref s.heap.objs.size) "set" := ⟨_,hS,rfl⟩
   have hli:=F.called_set.init.lookup;have hbi:=F.called_set.init.bind (.ref s.heap.objs.size)
   repeat (any_goals (first|assumption|wp_step))
   refine codeAny_mono (codeAny_call_builtin (R:=wants (fun r s₂=>r = .none∧∃h' tk xs,s₂ = { s with heap:=h',toks:=tk }∧SetT prog w s.heap.objs.size xs h'∧T items.size xs∧xs.length≤items.size∧(∀b o,b<s.heap.objs.size→s.heap.get? b=some o→h'.get? b=some o)) E) F.called_set.init.plain F.entry_set_init (check_set_init_1 hT ?_)) fun r₂ s₂ hr₂=>?_
   ·obtain ⟨ol,hol,hcl,nl,hdl⟩:=hl
    obtain ⟨ocls,odict,odata,oslots⟩:=ol;simp only at hcl hdl;subst hcl;subst hdl
    have hol':(s.heap.push (yok w)).get? l=some { cls:=.type "list",dict:=odict,data:=.seq items nl,slots:=oslots }:=Heap.get?_push_of_some _ hol
    have hsls:=F.sub_list_set;have hslf:=F.sub_list_frozenset
    have hne:(Value.type "list" == Value.type "dict")=false:=by decide +kernel
    have hl1:(s.heap.push (yok w)).IsList l items:=⟨_,hol',rfl,nl,rfl⟩
    unfold Builtin.«set.__init__» noKeywords Builtin.Frozenset.updateFrom;generalize hPI:pyIter=PI
    wp_walk
    subst hPI
    refine wpAny_pyIter_list hl1 (zwb0 (wpAny_runValue ?_))
    have hlS:l<s.heap.objs.size:=Heap.lt_size hol;have hh3:A.in1.in1.in1.handled=none:=by simp [hh]
    have zS:(s.heap.push (yok w)).objs.size=s.heap.objs.size+1:=Heap.size_push ..
    have hneI:l≠(s.heap.push (yok w)).objs.size:=by rw[zS];exact Nat.ne_of_lt (Nat.lt_succ_of_lt hlS)
    have hSf:s.heap.objs.size ∉ [(s.heap.push (yok w)).objs.size,l]:=by
     rw[zS];simp only[List.mem_cons,List.not_mem_nil,or_false,not_or];exact⟨Nat.ne_of_lt (Nat.lt_succ_self _),Nat.ne_of_gt hlS⟩
    have far:∀i,i<items.size→at_ i<s.heap.objs.size∧at_ i≠l:=fun i hi'=>by
     obtain ⟨o,its,nn,h1,h2,_⟩:=hlt i hi'
     refine⟨Heap.lt_size h1,fun z=>?_⟩
     rw[z,hol] at h1
     cases h1
     simp at h2
    refine yt8 ((Walks.list hh3 _ l hneI items).toS) s.heap.objs.size hSf (by simp only[yge];omega) (fun i v _ hv=>hi i v hv) (fun i hi'=>?_) hb hTS (items.size-0) 0 _ [] (by omega) (Nat.zero_le _) ⟨⟨_,Heap.get?_push_size _ rfl,rfl,rfl⟩,(hl1.push _)⟩ (yz5 (Heap.get?_push_of_some _ hS)) ⟨Nat.le_refl _,fun q hq=>nomatch hq⟩ hT0 (fun j hj=>yol (hlt j hj) fun o e=>Heap.get?_push_of_some _ (Heap.get?_push_of_some _ e)) fun s' xs' hm hS' hTn hln=>?_
    ·obtain ⟨f1,f2⟩:=far i hi'
     simp only[List.mem_cons,List.not_mem_nil,or_false,not_or]
     refine⟨Nat.ne_of_lt f1,?_,f2⟩
     rw[zS];exact Nat.ne_of_lt (Nat.lt_succ_of_lt f1)
    obtain ⟨h',g',d',tk',os'⟩:=s'
    obtain rfl:g'=s.gens:=hm.gens
    obtain rfl:d'=s.drawn:=hm.drawn
    obtain rfl:os'=s.os:=hm.os
    refine(show wpAny _ _ _ _ _ _ from zwp0 (show wpAny _ _ (ret Value.none) _ _ _ from zwp0 ⟨rfl,h',tk',xs',rfl,hS',hTn,hln,fun b o hb e=>?_⟩))
    have hb1:b≠s.heap.objs.size:=Nat.ne_of_lt hb
    have hb2:b≠(s.heap.push (yok w)).objs.size:=by rw[zS];exact Nat.ne_of_lt (Nat.lt_succ_of_lt hb)
    exact hm.heap b o (by simp only[List.mem_cons,List.not_mem_nil,or_false,not_or];exact⟨hb1,hb2⟩) (Heap.get?_push_of_some _ (Heap.get?_push_of_some _ e))
   ·cases r₂ with
    |error e=>exact hr₂
    |ok fl₂=>
     cases fl₂ with
     |ret r=>obtain ⟨rfl,h',tk,xs',rfl,hS',hTn,hln,hk'⟩:=hr₂;(repeat (any_goals (first|assumption|wp_step)));exact h _ _ _ hS' hTn hln hk'
     |_=>exact hr₂.elim
  |_=>exact hr.elim
end
section
variable {X:Cx}
def za3 (K:PySem.W.Frag)(prog:Program)(w:World):List V→Hp→VK→Prop:=fun vs H Q=>∃(p:Addr) (xs:List V) (key:Nat→List Key) (at_:Nat→Addr) (T:Nat→List (List Key×Addr)→Prop),vs=[.ref p]∧SqL K H p xs∧xs.length≤76∧(∀(i:Nat) x,xs[i]? = some x→x = .ref (at_ i)∧H (at_ i)=some (.tup (List.map kV (key i))))∧
 T 0 []∧(∀i xs0 xs',i<xs.length→T i xs0→yvt xs0 (key i) (at_ i) xs'→T (i+1) xs')∧∀d ys H',H d=none→Same H H'→T xs.length ys→ys.length≤xs.length→H' d=some (HT prog w d ys)→Q (.ref d) H'
theorem yua (hc:X.calm=true) (hu:X.A.units+64<cLine):yfa X (.type "set") (za3 X.K X.prog X.w):=by
 intro pins s σ H vs us Q I r h
 obtain ⟨p,xs,key,at_,T,rfl,hq,hn,hx,t0,tS,q⟩:=h
 obtain ⟨u,rfl,ru⟩:=r.one
 cases ru
 obtain ⟨its,r',pl,hz⟩:=I.list hq
 have lz:=r'.length
 have sz:its.toArray.size=xs.length:=by rw[List.size_toArray];omega
 refine yt9 (w:=X.w) (items:=its.toArray) (key:=key) (at_:=at_) (T:=T) (by omega) (show X.A.handled=none from I.ok.hd hc) pl.isList (fun i v hv=>?_) (fun i hi=>?_) (by omega) t0 (fun i x0 x1 hi=>tS i x0 x1 (by omega)) fun h' tk ys S' hT hl k=>?_
 ·rw[List.getElem?_toArray] at hv
  have hi:i<xs.length:=by have:=(List.getElem?_eq_some_iff.mp hv).1;omega
  obtain ⟨u,eu,ru⟩:=r'.get (List.getElem?_eq_getElem hi)
  rw[hv] at eu
  cases eu
  obtain ⟨e1,_⟩:=hx i _ (List.getElem?_eq_getElem hi)
  rw[e1] at ru
  exact ru
 ·exact yj0 I.hok (hx i _ (List.getElem?_eq_getElem (show i<xs.length by omega))).2
 ·rw[sz] at hT hl
  exact⟨.ref s.heap.objs.size,_,I.laid (t':=tk) (fun b o e=>k b o (Heap.lt_size e) e) (Nat.le_refl _) (yyb S'),rfl,q _ _ _ (I.hok.fresh (Nat.le_refl _)) (yae (I.hok.fresh (Nat.le_refl _)) _) hT hl yab⟩
end
end L2
namespace L2
open PySem PySem.Spec PyProof.Rows
variable {X:Cx}
theorem yq1 {M:Model}{A:Around}{E:Value→Shared→Prop}{s:Shared}{Q:Value→Shared→Prop}{c d:Bool}(h:Q (.bool (!(c == d))) s):wpAny M A (compareOp .IsNot (.bool c) (.bool d)) Q E s:=by
 cases c <;> cases d <;> exact zwp0 h
def zb5 (neg:Bool):R2:=fun x y H Q=>∃c d:Bool,x = .bl c∧y = .bl d∧Q (.bl (neg != (c == d))) H
theorem yub:OpR X (compareOp .IsNot) (zb5 true):=by
 intro pins s σ H x y v u Q I rx ry h
 obtain ⟨c,d,rfl,rfl,q⟩:=h
 cases rx;cases ry
 refine yq1 ⟨.bl _,H,I,rfl,?_⟩
 cases c <;> cases d <;> exact q
end L2
namespace L2
open PySem PySem.Spec PySem.W PyProof.Rows
section
variable {X:Cx}
end
end L2
namespace L2
open PySem
variable {P:Program}{w:World}{K:PySem.W.Frag}{mg:Str→Option Value}{base:Heap}
end L2
namespace L2
open PySem PySem.Spec PyProof.Rows
section
variable {X:Cx}
end
end L2
namespace L2
open PySem
theorem yne (g:Int→Int)(k:Int):∀os:List Int,yng g (os++[k])=yng g os+g k
 |[]=>by show g k+0=0+g k;omega
 |i::os=>by show g i+yng g (os++[k])=g i+yng g os+g k;rw[yne g k os];omega
theorem yuc (n:Nat):yce (n+1)=yce n++[(n:Int)]:=by
 unfold yce
 rw[List.range_succ,List.map_append];rfl
theorem ypx (rs:List (List Int))(ts:List Int)(v:Int→Int→Int)(f l:Int):∀k,yfj rs ts v k f l=v f l-yng (fun i=>if f≤yag rs 0 i∧yag rs 0 i≤l then ts.getD i.toNat 0 else 0) (yce k)
 |0=>by show v f l=v f l-0;omega
 |k+1=>by
  rw[yuc,yne]
  have ih:=ypx rs ts v f l k
  show yd1 (yfj rs ts v k) _ _ f l=_
  unfold yd1
  have e:yag rs 0 (k:Int)=(rs.getD k []).getD 0 0:=rfl
  have e2:((k:Nat):Int).toNat=k:=by omega
  rw[ih,e,e2]
  split <;> omega
theorem yi4 (rs os:List (List Int))(tm:Int)(ts:List Int)(f l:Int):yfk rs os tm ts f l=ya1 os tm f l-yi2 rs (fun i=>ts.getD i.toNat 0) f l:=ypx rs ts (ya1 os tm) f l rs.length
theorem yyl {rs os:List (List Int)}{tm:Int}{ts:List Int}(h:zbd rs os tm fun i=>ts.getD i.toNat 0):NoLack rs os tm ts:=fun ds hds p hp=>by
 have:=h.2 ds hds p hp
 rw[yi4]
 omega
end L2
namespace L2
open PySem PySem.Spec PySem.W PyProof.Rows
theorem yv7 {ls os:List (List Int)}{tm:Int}{cs:List Int}(g:GoodC ls os tm)(h:BestIs ls os tm cs):TakenOk ls cs∧NoLack ls os tm cs:=by
 have l0:∀r∈ls,0≤r.getD 1 0:=g.ok.r0
 have o0:∀r∈os,0≤r.getD 1 0:=g.ok.o0
 exact⟨h.taken l0 o0,yyl (h.fits l0 o0)⟩
theorem yv8 {ls os:List (List Int)}{tm:Int}{cs ts:List Int}(h:TakenOk ls cs)(n:NoLack ls os tm cs)(hl:ts.length=cs.length)(hle:∀(j:Nat) u v,ts[j]? = some u→cs[j]? = some v→0≤u∧u≤v):TakenOk ls ts∧NoLack ls os tm ts:=by
 have lc:=h.1
 have at_:∀i:Nat,i<ls.length→0≤ts.getD i 0∧ts.getD i 0≤cs.getD i 0:=fun i hi=>by
  rw[List.getD_eq_getElem?_getD,List.getD_eq_getElem?_getD,List.getElem?_eq_getElem (show i<ts.length by omega),List.getElem?_eq_getElem (show i<cs.length by omega)]
  exact hle i _ _ (List.getElem?_eq_getElem (show i<ts.length by omega)) (List.getElem?_eq_getElem (show i<cs.length by omega))
 refine⟨yqv (by omega) fun j r u e1 e2=>?_,fun ds hds p hp=>?_⟩
 ·have hj:j<ls.length:=(List.getElem?_eq_some_iff.mp e1).1
  have h1:=h.at e1 (List.getElem?_eq_getElem (show j<cs.length by omega))
  have h2:=hle j u _ e2 (List.getElem?_eq_getElem (show j<cs.length by omega))
  omega
 ·have h1:=n ds hds p hp
  rw[yi4] at h1 ⊢
  have:yi2 ls (fun i=>ts.getD i.toNat 0) p.1 p.2≤yi2 ls (fun i=>cs.getD i.toNat 0) p.1 p.2:=by
   unfold yi2
   refine ytv fun i hi=>?_
   have:=uptoN_mem.mp hi
   have:=at_ i.toNat (by omega)
   dsimp only
   split <;> omega
  omega
theorem yq2 {ls os:List (List Int)}{tm:Int}{ts:List Int}{us:List (List Int)}(g:GoodC ls os tm)(tk:TakenOk ls ts)(nl:NoLack ls os tm ts)(h:ys8 ls os tm ts us) :
 ∃ages outs left,yb2 (keyE ls) ls.length ages∧yb2 (keyE os) os.length outs∧DealW ls os tm ages outs outs ts left us∧(∀k:Nat,left.getD k 0=0)∧us.length≤60∧ywt ls os tm us∧yo7 ls.length us∧yar ls.length (ya6 us)=ts:=by
 obtain ⟨ages,outs,ha,hb,e⟩:=h
 have ln:=g.ln
 have on:=g.on
 have tl:=tk.1
 have o0:∀r∈os,0≤r.getD 1 0:=g.ok.o0
 have l1:∀i∈ages,1≤yag ls 0 i:=fun i hi=>by
  obtain ⟨i0,i1⟩:=uptoN_mem.mp (ha.1.mem_iff.mp hi)
  obtain ⟨d,c,u,e1,h1,_⟩:=g.lg _ (List.getElem_mem (show i.toNat<ls.length by omega))
  unfold yag
  rw[ydm (List.getElem?_eq_getElem (show i.toNat<ls.length by omega)),e1]
  exact h1
 rw[yyj l1] at e
 have D:=yv5 (tm:=tm) ha hb o0 tl tk.nn
 rw[← e] at D
 obtain ⟨_,ls0⟩:=yv0 g.t0 ha hb o0 tl tk.nn
 obtain ⟨ds,hds⟩:=yha ls
 have z:=(yps g.t0 hds ha hb o0 tl tk.nn).mpr (nl ds hds)
 have l0:∀k:Nat,(yg9 ls os tm ages outs ts).1.getD k 0=0:=fun k=>by
  by_cases hk:k<ls.length
  ·have:=z (k:Int) (ha.1.mem_iff.mpr (uptoN_mem.mpr ⟨by omega,by omega⟩))
   rw[Int.toNat_natCast] at this
   exact this
  ·rw[List.getD_eq_getElem?_getD,List.getElem?_eq_none (by rw[D.len];omega)];rfl
 have sums:yar ls.length (ya6 us)=ts:=by
  refine List.ext_getElem? fun k=>?_
  unfold yar
  rw[List.getElem?_map]
  by_cases hk:k<ls.length
  ·have c1:=D.con k
   rw[l0 k] at c1
   rw[List.getElem?_range hk,Option.map_some,List.getElem?_eq_getElem (show k<ts.length by omega)]
   rw[List.getD_eq_getElem?_getD,List.getElem?_eq_getElem (show k<ts.length by omega)] at c1
   rw[show ybh (ya6 us) k=ts[k] by have:(some ts[k]).getD 0=ts[k]:=rfl;omega]
  ·rw[List.getElem?_eq_none (by rw[List.length_range];omega),List.getElem?_eq_none (by omega)];rfl
 have mem:∀r∈us,∃i j u,r=[i,j,u]∧(0≤i∧i<(ls.length:Int))∧(0≤j∧j<(os.length:Int))∧1≤u∧i∈ages∧0≤yag os 0 j-yag ls 0 i∧yag os 0 j-yag ls 0 i≤tm:=fun r hr=>by
  obtain ⟨i,j,u,e,h1,h2,h3,h4⟩:=D.row r hr
  exact⟨i,j,u,e,uptoN_mem.mp (ha.1.mem_iff.mp h1),uptoN_mem.mp (hb.1.mem_iff.mp h2),h3,h1,h4⟩
 have few:us.length≤60:=by
  have h1:=D.few
  have h2:ts.countP (fun x=>decide (0<x))≤ts.length:=List.countP_le_length
  have h3:outs.length=os.length:=by rw[hb.1.length_eq,ya5]
  omega
 refine⟨ages,outs,_,ha,hb,D,l0,few,⟨fun r hr=>?_,D.pairs,fun i u r e1 e2=>?_,fun j u r e1 e2=>?_⟩,fun r hr=>?_,sums⟩
 ·obtain ⟨i,j,u,rfl,hi,hj,hu,hia,h1,h2⟩:=mem r hr
  refine⟨hi,hj,hu,decide_eq_true ?_⟩
  have:=l1 i hia
  show max 1 (yag os 0 j-tm)≤yag ls 0 i∧yag ls 0 i≤yag os 0 j
  omega
 ·rw[sums] at e1
  exact(tk.at e2 e1).2
 ·have hj:j<os.length:=(List.getElem?_eq_some_iff.mp e2).1
  have eu:=ygy (ps:=yby us) (a:=(j:Int)) (by omega) (show (j:Int)<(os.length:Int) by omega)
  rw[Int.toNat_natCast,e1] at eu
  rw[Option.some.inj eu]
  have h1:=D.out j (hb.1.mem_iff.mpr (uptoN_mem.mpr ⟨by omega,by omega⟩))
  have:yag os 1 (j:Int)=r.getD 1 0:=by unfold yag;rw[Int.toNat_natCast,ydm e2]
  rw[← this];exact h1
 ·obtain ⟨i,j,u,rfl,hi,_⟩:=mem r hr
  exact hi
theorem yv9 {K:PySem.W.Frag}{H:Hp}{l e:Addr}{ts:List Int}{neg:Bool}{Q:VK}(h1:ya0 H l ts)(h2:ya0 H e ts)(q:Q (.bl (neg != true)) H):yxg K neg (.ref l) (.ref e) H Q:=by
 refine⟨l,e,_,_,rfl,rfl,SqL.of h1,SqL.of h2,.inr ⟨rfl,0,fun _=>true,by decide,fun j x y e1 e2=>?_,by rw[ykg];exact q⟩⟩
 rw[e1] at e2
 cases e2
 obtain ⟨v,rfl,_⟩:=ycs e1
 have:eqV (.int v) (.int v)=true:=by simp [eqV]
 rw[← this]
 exact EqB.flat rfl rfl
theorem ywa {H:Hp}{a b:Addr}{ts:List Int}(h1:ya0 H a ts)(h2:ya0 H b ts)(hn:ts.length≤1000):EqD H 2 (.ref a) (.ref b):=by
 refine .lst h1 h2 rfl (by rw[List.length_map];exact hn) fun i x y e1 e2=>?_
 rw[e1] at e2
 cases e2
 obtain ⟨v,rfl,_⟩:=ycs e1
 exact .flat rfl
end L2
namespace K13
open PySem L2
abbrev yd2:Stmt:=top 64
abbrev yhs:List Str:=["_law_lots","_law_outs","_law_term","_law_rows","_law_some","_law_seats","_law_pairs","_law_lot","_law_out","_law_count","_law_gone","_law_ages"]
abbrev ygn:List Str:=["_law_lots","_law_outs","_law_term","_law_rows"]
theorem sc_walked:FnScope yhs ygn (yaa yd2):=⟨rfl,rfl,rfl,by decide +kernel,rfl,by decide +kernel,by decide +kernel⟩
abbrev yjk:Stmt:=top 65
abbrev yz6:List Str:=["_law_script","_law_draw","_law_lots","_law_outs","_law_term","_law_more","_law_taken","_law_k","_law_rows"]
abbrev yz7:List Str:=["_law_script"]
theorem sc_law:FnScope yz6 yz7 (yaa yjk):=⟨rfl,rfl,rfl,by decide +kernel,rfl,by decide +kernel,by decide +kernel⟩
def ywb (K:PySem.W.Frag)(tb:Tbs):Sp:=fun vs H Q _=>∃(a:Addr) (ns:List Int),vs=[.ref a]∧Tb tb H∧SqL K H a (ns.map V.int)∧ns.length≤63∧∀H',Tb tb H'→Q (.bl true) H'
def yli (tb:Tbs):Sp:=fun vs H Q _=>∃(l o p:Addr) (tm:Int) (ls os us:List (List Int)) (ts ages outs left:List Int),vs=[.ref l,.ref o,.int tm,.ref p]∧Tb tb H∧Rows H l ls∧Rows H o os∧GoodC ls os tm∧Rows H p us∧us.length≤60∧yb2 (keyE ls) ls.length ages∧yb2 (keyE os) os.length outs∧ts.length=ls.length∧DealW ls os tm ages outs outs ts left us∧(∀k:Nat,left.getD k 0=0)∧
 ∀t H',H t=none→Same H H'→ya0 H' t ts→Q (.ref t) H'
section
variable {P:Program}{w:World}{K:PySem.W.Frag}{mg:Str→Option Value}{base:Heap}{f:Addr}{fd:FuncData}{cl:Nat→Addr}{tb:Tbs} (B:Bn mg) (N_set:mg "set" = none)
include B N_set
theorem yud (G_eldestL:Cal P w K mg base CX0 1 "_law_eldest" yfn (ymx tb keyE okE)) (F:Fun K "_law_walked" "_law_walked" yd2 f fd):FnOk P w K mg base CX0 2 f fd ygn (yli tb):=by
 refine F.ok sc_walked (fun vs H Q E h=>?_) (fun cdv A outer s H vs Q E hr h=>?_)
 ·obtain ⟨l,o,p,tm,ls,os,us,ts,ages,outs,left,rfl,_⟩:=h;rfl
 obtain ⟨l,o,p,tm,ls,os,us,ts,ages,outs,left,rfl,T0,hL,hO,g,hU,hn,ha,hb,hl,D,l0,q⟩:=h
 refine⟨_,(yad (ya2 (i:=4) sc_walked.nd rfl (Or.inl rfl) (yb1 yrv (yf1 (yal yaj yac)) (yao yau rfl B.len PySem.boot_len (yal (pv 0) yac))))
  (yad (ycw (i:=5) sc_walked.nd rfl (Or.inl rfl) (N':=["_law_day","_law_count"]) (ix:=[none,none]) (g:=(ylk K 2 (ybw (ybc 0) (ybw (ybc 1) ylj)))) (ti:=yho) (te:=(yck 1)) rfl (yav (N:=yhs) (D:=yaa yd2) (by decide +kernel)) (ybd (pv 1)) (fun C s H fp=>(ya4 rfl (yaf (yah (i:=0) (show (["_law_day","_law_count"]:List Str).Nodup by decide +kernel) rfl (Or.inl rfl)) (yaf (yah (i:=1) (show (["_law_day","_law_count"]:List Str).Nodup by decide +kernel) rfl (Or.inl rfl)) yay)))) (fun C s H fp=>ybo) (fun C s H fp=>(pv 1)))
  (yad (ycw (i:=6) sc_walked.nd rfl (Or.inl rfl) (N':=["_law_row"]) (ix:=[none]) (g:=(ybc 0)) (ti:=yho) (te:=(yrn (ybp (tOp (yxb K) (yck 0) (tC (.int 0))) (ybp (tOp (yxb K) (yck 0) (tC (.int 1))) yhw)))) rfl (yav (N:=yhs) (D:=yaa yd2) (by decide +kernel)) (ybd (pv 3)) (fun C s H fp=>(yah (i:=0) (show (["_law_row"]:List Str).Nodup by decide +kernel) rfl (Or.inl rfl))) (fun C s H fp=>ybo) (fun C s H fp=>(yb0 (yal (ya8 yca (pv 0) yaj (fun _ _=>rfl)) (yal (ya8 yca (pv 0) yaj (fun _ _=>rfl)) yac)))))
  (yad (yei PassesOwn.never rfl (ybd (pv 3)) (ya4 rfl (yaf (yah (i:=7) sc_walked.nd rfl (Or.inl rfl)) (yaf (yah (i:=8) sc_walked.nd rfl (Or.inl rfl)) (yaf (yah (i:=9) sc_walked.nd rfl (Or.inl rfl)) yay)))) (yad (ya2 (i:=10) sc_walked.nd rfl (Or.inl rfl) (yb1 yjm (ya8 yca (ya8 ya3 (pv 1) (pv 8) (fun _ _=>rfl)) yaj (fun _ _=>rfl)) (ya8 yca (ya8 ya3 (pv 0) (pv 7) (fun _ _=>rfl)) yaj (fun _ _=>rfl))))
   (yad (yc4 (yb1 ydx (ya8 ya3 (pv 4) (pv 7) (fun _ _=>rfl)) (pv 9)) (yfz (pv 4) (pv 7) ycp))
   (yad (yc4 (yb1 yjm (ya8 ya3 (pv 5) (pv 8) (fun _ _=>rfl)) (pv 9)) (yfz (pv 5) (pv 8) ycp))
   (yai (ydn (PW.pt (yka (ybm yi6 (pv 9) yaj (ybs _)) (yka (ybm yi6 (pv 10) yaj (ybs _)) (yka (ybm yw5 (pv 10) (pv 2) (ybs _)) (yjl (ybm yi6 (ya8 ya3 (pv 5) (pv 8) (fun _ _=>rfl)) yaj (ybs _))))))) (yai (yaw yon)) ybb))))))
  (yad (ycw (i:=11) sc_walked.nd rfl (Or.inl rfl) (N':=["_law_lot","_law_out","_law_outs","_law_lots"]) (ix:=[none,none,some 1,some 0]) (g:=(ylk K 2 (ybw (ybc 0) (ybw (ybc 1) ylj)))) (ti:=yho) (te:=(yrn (ybp (tBM K "list" yr5 (yi7 (ymx tb keyE okE) [] E0 (ybp (yck 2) yhw)) (ybp (yck 1) yhw)) (ybp (tBM K "list" yr5 (yi7 (ymx tb keyE okE) [] E0 (ybp (yck 3) yhw)) (ybp (yck 0) yhw)) yhw)))) rfl (yav (N:=yhs) (D:=yaa yd2) (by decide +kernel)) (ybd (pv 6)) (fun C s H fp=>(ya4 rfl (yaf (yah (i:=0) (show (["_law_lot","_law_out","_law_outs","_law_lots"]:List Str).Nodup by decide +kernel) rfl (Or.inl rfl)) (yaf (yah (i:=1) (show (["_law_lot","_law_out","_law_outs","_law_lots"]:List Str).Nodup by decide +kernel) rfl (Or.inl rfl)) yay)))) (fun C s H fp=>ybo) (fun C s H fp=>(yb0 (yal (yno PySem.F.plainAttrs_list PySem.F.slot_list_index PySem.F.type_list_index yov (yan G_eldestL hr rfl ya9 (yal (pv 2) yac)) (yal (pv 1) yac)) (yal (yno PySem.F.plainAttrs_list PySem.F.slot_list_index PySem.F.type_list_index yov (yan G_eldestL hr rfl ya9 (yal (pv 3) yac)) (yal (pv 0) yac)) yac)))))
  (yad (ydn (PW.pt (yka (ybm yrg (yao ymv rfl B.len PySem.boot_len (yal (yen (yua rfl hr.units) rfl N_set PyProof.Rows.boot_set (yal (pv 6) yac)) yac)) (yao yau rfl B.len PySem.boot_len (yal (pv 6) yac)) (ybs _)) (yjl (ybm (ywi hr.units) (pv 11) (yao ygv rfl B.sorted PyProof.Rows.boot_sorted (yal (pv 11) yac)) (ybs _))))) (yai (yaw yon)) ybb)
  (yai (yaw (pv 4))))))))),?_⟩
 obtain ⟨xl,exl,hxl⟩:=hL.tups
 obtain ⟨xo,exo,hxo⟩:=hO.tups
 obtain ⟨xu,exu,hxu⟩:=hU.tups
 have ll:=hxl.1
 have lo:=hxo.1
 have lu:=hxu.1
 have gl:=g.ln
 have go:=g.on
 refine⟨by show 1≤sizeLine;decide,fun z hz=>?_⟩
 have sz:=yae (H:=H) hz (.lst [.int 0])
 refine⟨_,rfl,l,xl,rfl,.inl (SqL.of (sz _ _ exl)),z,(xl.length:Int),_,rfl,rfl,yab,by omega,by omega,?_,fun sm hsm=>?_⟩
 ·show 1*(xl.length:Int).toNat≤sizeLine
  exact Nat.le_of_lt (yas (by omega))
 have s1:=sz.trans (yae hsm (.lst (List.replicate (xl.length:Int).toNat [V.int 0]).flatten))
 have hsm0:H sm=none:=sz.free hsm
 have e1:ya0 (L2.upd (L2.upd H z (.lst [.int 0])) sm (.lst (List.replicate (xl.length:Int).toNat [V.int 0]).flatten)) sm (yar ls.length (ya6 (us.take 0))):=by
  unfold ya0
  have e0:yar ls.length (ya6 (us.take 0))=List.replicate ls.length 0:=by
   rw[List.take_zero]
   show (List.range ls.length).map (ybh [])=_
   rw[List.eq_replicate_iff]
   exact⟨by rw[List.length_map,List.length_range],fun b hb=>by obtain ⟨x,_,rfl⟩:=List.mem_map.mp hb;rfl⟩
  rw[e0,yab,List.map_replicate,Int.toNat_natCast,ll]
  congr 2
  induction ls.length with
  |zero=>rfl
  |succ k ih=>rw[List.replicate_succ,List.flatten_cons,ih];rfl
 generalize L2.upd (L2.upd H z (.lst [.int 0])) sm (.lst (List.replicate (xl.length:Int).toNat [V.int 0]).flatten)=H1 at s1 e1 ⊢
 refine⟨_,rfl,o,rfl,⟨_,SqL.of (s1 _ _ exo)⟩,fun st hst=>?_⟩
 refine yn4 (fun i zs _=>zs=((ybz os []).take i).map V.int) hst (s1 _ _ exo) (by omega) (fun i zs _ _ h _=>h) rfl (fun i x zs H2 e2 s2 hz K1 K2 k1 k2=>?_) fun zs H2 s2 hz ln hD2=>?_
 ·obtain ⟨pr,r,rfl,er,hpr⟩:=hxo.at e2
  obtain ⟨d,c,rfl,_⟩:=g.og r (List.mem_of_getElem? er)
  refine⟨pr,_,rfl,SqT.of (s2 _ _ (s1 _ _ hpr)),rfl,_,_,rfl,_,_,rfl,rfl,yax (yax ybf rfl) rfl,_,rfl,k1 _ _ (Same.refl _) ?_⟩
  have hi:i<os.length:=(List.getElem?_eq_some_iff.mp er).1
  have e3:(ybz os [])[i]? = some c:=by
   unfold ybz
   rw[List.getElem?_map,List.getElem?_range hi,Option.map_some]
   show some (yag os 1 (i:Int)-0)=_
   unfold yag
   rw[Int.toNat_natCast,ydm er]
   show some (c-0)=_
   rw[Int.sub_zero]
  rw[List.take_succ,e3,List.map_append,hz];rfl
 rw[lo] at hz
 have e3:(ybz os []).take os.length=ybz os (us.take 0):=by
  rw[List.take_of_length_le (by unfold ybz;rw[List.length_map,List.length_range];exact Nat.le_refl _),List.take_zero]
 rw[e3] at hz
 subst hz
 have I2:ya0 H2 st (ybz os (us.take 0)):=hD2
 have e12:=s2 _ _ e1
 have s12:=s1.trans s2
 have nss:sm≠st:=yam e1 hst
 refine⟨_,rfl,p,rfl,⟨_,SqL.of (s12 _ _ exu)⟩,fun pp hpp=>?_⟩
 have u3:∀r∈us,r.length=3:=fun r hr=>by obtain ⟨i,j,u,rfl,_⟩:=D.row r hr;rfl
 refine yiw (fun r=>[r.getD 0 0,r.getD 1 0]) hpp (s12 _ _ exu) (hxu.same s12) (by omega) (fun i pr r H4 er s4 hpr K1 K2 k1=>?_) fun H3 s3 R3=>?_
 ·obtain ⟨a,b,c,rfl⟩:=ynx (u3 r (List.mem_of_getElem? er))
  refine⟨yax ybf rfl,?_⟩
  exact⟨_,rfl,pr,_,0,_,rfl,rfl,SqT.of hpr,rfl,_,rfl,pr,_,1,_,rfl,rfl,SqT.of hpr,rfl,by show 2≤sizeLine;decide,fun tp htp=>k1 tp htp⟩
 have e13:=s3 _ _ e12
 have I3:ya0 H3 st (ybz os (us.take 0)):=s3 _ _ I2
 have s13:=s12.trans s3
 have nsp:sm≠pp:=yam e12 hpp
 have ntp:st≠pp:=yam I2 hpp
 have u0:∀r∈us,0≤r.getD 2 0:=fun r hr=>by obtain ⟨i,j,u,rfl,_,_,h1,_⟩:=D.row r hr;show 0≤u;omega
 have exu3:=s13 _ _ exu
 have nos:∀{b:Addr}{x:HO},H b=some x→b≠sm∧b≠st:=fun {b x} e=>⟨yam e hsm0,yam (s1 _ _ e) hst⟩
 refine⟨_,rfl,p,rfl,⟨_,SqL.of exu3⟩,?_⟩
 refine yej (xs:=xu) (fun i σ H5=>∃o7 o8 o9 o10,σ=[some (.ref l),some (.ref o),some (.int tm),some (.ref p),some (.ref sm),some (.ref st),some (.ref pp),o7,o8,o9,o10,none]∧(∀b x,b≠sm→b≠st→H3 b=some x→H5 b=some x)∧ya0 H5 sm (yar ls.length (ya6 (us.take i)))∧ya0 H5 st (ybz os (us.take i))) ⟨_,_,_,_,rfl,fun b x _ _ e=>e,e13,I3⟩ ?_ ?_ ?_
 ·rintro i σ H5 hi ⟨o7,o8,o9,o10,rfl,k5,_⟩
  exact SqL.of (k5 _ _ (nos exu).1 (nos exu).2 exu3)
 ·rintro i x σ H5 exi ⟨o7,o8,o9,o10,rfl,k5,M5,S5⟩
  obtain ⟨pr,r,rfl,er,hpr⟩:=hxu.at exi
  obtain ⟨a,b,c,rfl,ia,jb,c1,g0,g1⟩:=D.row r (List.mem_of_getElem? er)
  have old:∀{b:Addr}{x:HO},H b=some x→H5 b=some x:=fun {b x} e=>k5 _ _ (nos e).1 (nos e).2 (s13 _ _ e)
  obtain ⟨a0,a1⟩:=uptoN_mem.mp (ha.1.mem_iff.mp ia)
  obtain ⟨b0,b1⟩:=uptoN_mem.mp (hb.1.mem_iff.mp jb)
  obtain ⟨v,ev⟩ : ∃v,xo[b.toNat]? = some v:=⟨_,List.getElem?_eq_getElem (by omega)⟩
  obtain ⟨v',ev'⟩ : ∃v,xl[a.toNat]? = some v:=⟨_,List.getElem?_eq_getElem (by omega)⟩
  obtain ⟨p1,r1,rfl,er1,hp1⟩:=hxo.at ev
  obtain ⟨p2,r2,rfl,er2,hp2⟩:=hxl.at ev'
  obtain ⟨rd,rc,rfl,_⟩:=g.og r1 (List.mem_of_getElem? er1)
  obtain ⟨xd,xc,xu',rfl,_⟩:=g.lg r2 (List.mem_of_getElem? er2)
  have cO:∀k,yag os k b=[rd,rc].getD k 0:=fun k=>by unfold yag;rw[ydm er1]
  have cL:∀k,yag ls k a=[xd,xc,xu'].getD k 0:=fun k=>by unfold yag;rw[ydm er2]
  rw[cO 0,cL 0] at g0 g1
  change 0≤rd-xd at g0
  change rd-xd≤tm at g1
  refine⟨pr,_,rfl,SqT.of (old hpr),rfl,_,_,rfl,_,_,rfl,_,_,rfl,rfl,?_⟩
  refine⟨_,rfl,_,rfl,o,_,b,_,rfl,rfl,SqL.of (old exo),ydl b0 ev,p1,_,0,_,rfl,rfl,SqT.of (old hp1),rfl,?_⟩
  refine⟨_,rfl,_,rfl,l,_,a,_,rfl,rfl,SqL.of (old exl),ydl a0 ev',p2,_,0,_,rfl,rfl,SqT.of (old hp2),rfl,_,_,rfl,rfl,?_⟩
  have gm:=ygy (ps:=ya6 (us.take i)) a0 a1
  refine⟨_,rfl,_,rfl,sm,_,a,.int (ybh (ya6 (us.take i)) a.toNat),rfl,rfl,SqL.of M5,ydl a0 (by rw[List.getElem?_map,gm];rfl),_,rfl,_,_,rfl,rfl,?_⟩
  have ls1:(yar ls.length (ya6 (us.take i))).length=ls.length:=by unfold yar;rw[List.length_map,List.length_range]
  have lt1:(ybz os (us.take i)).length=os.length:=by unfold ybz;rw[List.length_map,List.length_range]
  refine⟨_,rfl,_,rfl,sm,_,a,a.toNat,rfl,rfl,M5,ywz a0 (by rw[List.length_map,ls1];exact a1),?_⟩
  have M6:ya0 (L2.upd H5 sm (.lst (((yar ls.length (ya6 (us.take i))).map V.int).set a.toNat (.int (ybh (ya6 (us.take i)) a.toNat+c))))) sm (yar ls.length (ya6 (us.take (i+1)))):=by
   unfold ya0
   rw[yab,← List.map_set,yt7 (j:=b) a0,← ya7 er]
  have k6:∀(x:Addr) (y:HO),x≠sm→H5 x=some y→L2.upd H5 sm (.lst (((yar ls.length (ya6 (us.take i))).map V.int).set a.toNat (.int (ybh (ya6 (us.take i)) a.toNat+c)))) x=some y:=fun x y n e=>by rw[yak n];exact e
  generalize L2.upd H5 sm (.lst (((yar ls.length (ya6 (us.take i))).map V.int).set a.toNat (.int (ybh (ya6 (us.take i)) a.toNat+c))))=H6 at M6 k6 ⊢
  have S6:=k6 _ _ nss.symm S5
  have gs:=ync (us:=us.take i) b0 b1
  refine⟨_,rfl,_,rfl,st,_,b,.int (yag os 1 ((b.toNat:Nat):Int)-ybh (yby (us.take i)) b.toNat),rfl,rfl,SqL.of S6,ydl b0 (by rw[List.getElem?_map,gs];rfl),_,rfl,_,_,rfl,rfl,?_⟩
  refine⟨_,rfl,_,rfl,st,_,b,b.toNat,rfl,rfl,S6,ywz b0 (by rw[List.length_map,lt1];exact b1),?_⟩
  have S7:ya0 (L2.upd H6 st (.lst (((ybz os (us.take i)).map V.int).set b.toNat (.int (yag os 1 ((b.toNat:Nat):Int)-ybh (yby (us.take i)) b.toNat-c))))) st (ybz os (us.take (i+1))):=by
   unfold ya0
   rw[yab,← List.map_set,yqz (i:=a) b0,← ya7 er]
  have k7:∀(x:Addr) (y:HO),x≠st→H6 x=some y→L2.upd H6 st (.lst (((ybz os (us.take i)).map V.int).set b.toNat (.int (yag os 1 ((b.toNat:Nat):Int)-ybh (yby (us.take i)) b.toNat-c)))) x=some y:=fun x y n e=>by rw[yak n];exact e
  generalize L2.upd H6 st (.lst (((ybz os (us.take i)).map V.int).set b.toNat (.int (yag os 1 ((b.toNat:Nat):Int)-ybh (yby (us.take i)) b.toNat-c))))=H7 at S7 k7 ⊢
  have gs7:=ync (us:=us.take (i+1)) b0 b1
  have nn:0≤yag os 1 ((b.toNat:Nat):Int)-ybh (yby (us.take (i+1))) b.toNat:=by
   have h1:=D.out b.toNat (by rw[show ((b.toNat:Nat):Int)=b by omega];exact jb)
   have h2:=yq0 u0 (i+1) b.toNat
   omega
  refine⟨_,rfl,_,_,rfl,rfl,_,rfl,?_⟩
  rw[decide_eq_false (show ¬ c<1 by omega)]
  refine ycq ⟨_,rfl,_,_,rfl,rfl,_,rfl,?_⟩
  rw[decide_eq_false (show ¬ rd-xd<0 by omega)]
  refine ycq ⟨_,rfl,_,rfl,_,_,rfl,rfl,_,rfl,?_⟩
  rw[decide_eq_false (show ¬ tm<rd-xd by omega)]
  refine ycq ⟨_,rfl,_,rfl,st,_,b,.int (yag os 1 ((b.toNat:Nat):Int)-ybh (yby (us.take (i+1))) b.toNat),rfl,rfl,SqL.of S7,ydl b0 (by rw[List.getElem?_map,gs7];rfl),_,_,rfl,rfl,_,rfl,?_⟩
  rw[decide_eq_false (show ¬ yag os 1 ((b.toNat:Nat):Int)-ybh (yby (us.take (i+1))) b.toNat<0 by omega)]
  refine ycq ?_
  exact⟨_,_,_,_,rfl,fun x y n1 n2 e=>k7 _ _ n2 (k6 _ _ n1 (k5 _ _ n1 n2 e)),k7 _ _ nss M6,S7⟩
 ·rintro σ H5 ⟨o7,o8,o9,o10,rfl,k5,M5,S5⟩
  dsimp only
  have nda:ages.Nodup:=(ha.1.nodup_iff).mpr (yd5 _)
  have ndo:outs.Nodup:=(hb.1.nodup_iff).mpr (yd5 _)
  have old:∀{b:Addr}{x:HO},H b=some x→H5 b=some x:=fun {b x} e=>k5 _ _ (nos e).1 (nos e).2 (s13 _ _ e)
  have s05:Same H H5:=fun b x e=>old e
  have T5:=T0.same s05
  have L5:=hL.same s05
  have O5:=hO.same s05
  obtain ⟨qs,eqs,lqs,hqs⟩:=id R3
  have nlp:∀(i:Nat) q r,qs[i]? = some q→(us.map fun r=>[r.getD 0 0,r.getD 1 0])[i]? = some r→H5 q=some (.tup (r.map V.int)):=fun i q r z1 z2=>by
   have:=hqs i q r z1 z2
   exact k5 _ _ (yi5 this e13 (by intro z;cases z)) (yi5 this I3 (by intro z;cases z)) this
  have eqs5:=k5 _ _ nsp.symm ntp.symm eqs
  have R5:Rows H5 pp (us.map fun r=>[r.getD 0 0,r.getD 1 0]):=⟨qs,eqs5,lqs,nlp⟩
  have lqu:qs.length=us.length:=by rw[lqs,List.length_map]
  refine⟨_,rfl,pp,rfl,⟨_,SqL.of eqs5⟩,fun ag hag=>?_⟩
  refine yv1 (fun i zs H'=>Tups H' zs ((us.take i).map (yhk ages outs))) hag eqs5 (by rw[List.length_map];omega) (fun i zs H6 H7 h hd k=>h.keep fun p z e=>k _ _ (fun y=>by subst y;rcases hd with w|⟨_,w⟩ <;> rw[w] at e <;> cases e) e) Tups.nil (fun i x zs H6 e6 hD6 s6 hz K1 k1=>?_) fun zs H6 s6 hz ln hD6=>?_
  ·obtain ⟨q,rfl,eq⟩ : ∃q,x = .ref q∧qs[i]? = some q:=by
    rw[List.getElem?_map] at e6
    obtain ⟨q,h1,h2⟩:=Option.map_eq_some_iff.mp e6
    exact⟨q,h2.symm,h1⟩
   obtain ⟨r,er⟩ : ∃r,us[i]? = some r:=⟨_,List.getElem?_eq_getElem (by have:=(List.getElem?_eq_some_iff.mp eq).1;omega)⟩
   have hq5:=nlp i q _ eq (by rw[List.getElem?_map,er];rfl)
   obtain ⟨a,b,c,rfl,ia,jb,_⟩:=D.row r (List.mem_of_getElem? er)
   refine⟨q,_,rfl,SqT.of (s6 _ _ hq5),rfl,_,_,rfl,_,_,rfl,rfl,yax (yax ybf rfl) rfl,?_⟩
   refine⟨_,rfl,o,os,rfl,T5.same s6,O5.same s6,by omega,fun r hr=>by unfold okE;rw[g.h2 r hr];decide,fun l1 os1 H7 hl1 s7 ho1 e7=>?_⟩
   rw[ym7 ho1 hb] at e7
   obtain ⟨f1,f2⟩:=ynd ndo jb
   refine⟨.inl ⟨rfl,_,SqL.of e7⟩,_,rfl,l1,_,.int b,outs.idxOf b,rfl,rfl,e7,rfl,by simp [ygr],⟨.int b,by rw[List.getElem?_map,f1];rfl,by simp [eqV]⟩,fun m z hm ez=>?_,?_⟩
   ·obtain ⟨v,rfl,ev⟩:=ycs ez
    have:=f2 m v hm ev
    simpa [eqV] using this
   have s67:=s6.trans s7
   refine⟨_,rfl,l,ls,rfl,T5.same s67,L5.same s67,by omega,fun r hr=>by unfold okE;rw[g.h3 r hr];decide,fun l2 os2 H8 hl2 s8 ho2 e8=>?_⟩
   rw[ym7 ho2 ha] at e8
   obtain ⟨f1,f2⟩:=ynd nda ia
   refine⟨.inl ⟨rfl,_,SqL.of e8⟩,_,rfl,l2,_,.int a,ages.idxOf a,rfl,rfl,e8,rfl,by simp [ygr],⟨.int a,by rw[List.getElem?_map,f1];rfl,by simp [eqV]⟩,fun m z hm ez=>?_,?_⟩
   ·obtain ⟨v,rfl,ev⟩:=ycs ez
    have:=f2 m v hm ev
    simpa [eqV] using this
   refine⟨by show 2≤sizeLine;decide,fun tp htp=>k1 _ _ ((s7.trans s8).trans (yae htp _)) ?_⟩
   rw[ya7 er,List.map_append]
   exact((hz.same ((s7.trans s8).trans (yae htp _)))).append (Tups.one yab)
  rw[List.length_map,lqu,List.take_length] at hz
  have eqs6:=s6 _ _ eqs5
  have pq:∀(i:Nat) q,qs[i]? = some q→∃r,us[i]? = some r∧H6 q=some (.tup (List.map kV (pk2 (pr2 r)))):=fun i q eq=>by
   obtain ⟨r,er⟩ : ∃r,us[i]? = some r:=⟨_,List.getElem?_eq_getElem (by have:=(List.getElem?_eq_some_iff.mp eq).1;omega)⟩
   have:=nlp i q [r.getD 0 0,r.getD 1 0] eq (by rw[List.getElem?_map,er];rfl)
   exact⟨r,er,s6 _ _ this⟩
  refine⟨_,rfl,pp,_,fun k=>pk2 (pr2 (us.getD k [])),fun k=>qs.getD k 0,fun i ys=>PrsP us i (ys.map (·.1)),rfl,SqL.of eqs6,by rw[List.length_map];omega,fun i x ex=>?_,PrsP.zero,fun i xs0 xs' hi h0 ii=>?_,fun sd ys H7 hsd s7 hP hln h7=>?_⟩
  ·rw[List.getElem?_map] at ex
   obtain ⟨q,h1,h2⟩:=Option.map_eq_some_iff.mp ex
   obtain ⟨r,er,hq⟩:=pq i q h1
   have e1:qs.getD i 0=q:=by rw[List.getD_eq_getElem?_getD,h1];rfl
   have e2:us.getD i []=r:=ydm er
   dsimp only
   rw[e1,e2]
   exact⟨h2.symm,hq⟩
  ·rw[List.length_map] at hi
   obtain ⟨r,er,_⟩:=pq i _ (List.getElem?_eq_getElem hi)
   have e2:us.getD i []=r:=ydm er
   dsimp only at ii
   rw[e2] at ii
   rcases ii with ⟨⟨q,hq,e⟩,rfl⟩ | ⟨hno,rfl⟩
   ·exact h0.old er (List.mem_map.mpr ⟨q,hq,e⟩)
   ·rw[List.map_append]
    exact h0.new er fun z=>by obtain ⟨q,hq,e⟩:=List.mem_map.mp z;exact hno q hq e
  rw[List.length_map] at hP hln
  have ly:ys.length=us.length:=by
   rw[lqu] at hP hln
   have:=PrsP.fin hP
   rw[List.length_map] at this
   have nd:=D.pairs
   apply Classical.byContradiction
   intro z
   exact this.mp (by omega) nd
  refine⟨sd,ys,rfl,h7,by omega,_,rfl,pp,_,rfl,.inl (SqL.of (s7 _ _ eqs6)),rfl,_,rfl,?_⟩
  rw[show (!decide (V.int (ys.length:Int)=V.int ((qs.map V.ref).length:Int)))=false by rw[List.length_map,lqu,ly];simp]
  have R7:Rows H7 ag (us.map (yhk ages outs)):=(hz.same s7).rows (s7 _ _ hD6)
  refine ycq ⟨_,rfl,_,rfl,ag,us.map (yhk ages outs),2,rfl,R7,by rw[List.length_map];omega,fun r hr=>by obtain ⟨q,_,rfl⟩:=List.mem_map.mp hr;rfl,by decide,fun sl ss H8 hsl hp hs s8 R8=>?_⟩
  have es:=D.sorted hp hs
  subst es
  obtain ⟨zs',ez',hz'⟩:=R8.tups
  refine yv4 (hz.same (s7.trans s8)) hz' ((s7.trans s8) _ _ hD6) ez' ⟨_,rfl,ycq ?_⟩
  have s58:=s6.trans (s7.trans s8)
  refine⟨_,rfl,q sm H8 hsm0 (s05.trans s58) ?_⟩
  have M8:=s58 _ _ M5
  unfold ya0
  rw[M8,lu,List.take_length]
  congr 2
  congr 1
  refine List.ext_getElem? fun k=>?_
  unfold yar
  rw[List.getElem?_map]
  by_cases hk:k<ls.length
  ·have c1:=D.con k
   rw[l0 k] at c1
   rw[List.getElem?_range hk,Option.map_some,List.getElem?_eq_getElem (show k<ts.length by omega)]
   rw[List.getD_eq_getElem?_getD,List.getElem?_eq_getElem (show k<ts.length by omega)] at c1
   show some _=some _
   rw[show ybh (ya6 us) k=ts[k] by have:(some ts[k]).getD 0=ts[k]:=rfl;omega]
  ·rw[List.getElem?_eq_none (by rw[List.length_range];omega),List.getElem?_eq_none (by omega)];rfl
variable (G_begin:Cal P w K mg base CX0 1 "_law_begin" yhz (ynr K)) (G_pick:Cal P w K mg base CX0 1 "_law_pick" yju ylw) (G_case:Cal P w K mg base CX0 3 "_law_case" ylz yse) (G_same:Cal P w K mg base CX0 3 "_law_same" yhj (yi3 3))
 (G_walked:Cal P w K mg base CX0 2 "_law_walked" ygn (yli tb)) (G_best:Cal P w K mg base (CXE P w) 5 "best" ymn (ys4 cl)) (G_dealt:Cal P w K mg base (CXE P w) 6 "dealt" yiu (yof cl)) (G_is_dealing:Cal P w K mg base (CXE P w) 6 "is_dealing" ydv (yla cl)) (G_counts_of:Cal P w K mg base (CXE P w) 4 "counts_of" yed (ygz cl))
include G_begin G_pick G_case G_same G_walked G_best G_dealt G_is_dealing G_counts_of
theorem yz8 (F:Fun K "law" "law" yjk f fd):FnOk P w K mg base CX0 7 f fd yz7 (ywb K tb):=by
 refine F.ok sc_law (fun vs H Q E h=>?_) (fun cdv A outer s H vs Q E hr h=>?_)
 ·obtain ⟨a,ns,rfl,_⟩:=h;rfl
 obtain ⟨a0,ns,rfl,hTb,hS,hlen,q⟩:=h
 refine⟨_,(yad (ya2 (i:=1) sc_law.nd rfl (Or.inr rfl) (yan G_begin hr rfl ya9 (yal (pv 0) yac)))
  (yad (yc4 (yan G_case hr rfl ya9 (yal (pv 1) (yal yaj yac))) (ya4 rfl (yaf (yah (i:=2) sc_law.nd rfl (Or.inl rfl)) (yaf (yah (i:=3) sc_law.nd rfl (Or.inl rfl)) (yaf (yah (i:=4) sc_law.nd rfl (Or.inl rfl)) yay)))))
  (yad (ydn (ybm yuk (yan G_pick hr rfl ya9 (yal (pv 1) (yal yaj yac))) yaj (ybs _)) (yad (ya2 (i:=5) sc_law.nd rfl (Or.inl rfl) (yan G_case hr rfl ya9 (yal (pv 1) (yal yaj yac))))
   (yad (ya2 (i:=2) sc_law.nd rfl (Or.inl rfl) (ykb ynn (yb1 yru (pv 2) (ya8 yca (pv 5) yaj (fun _ _=>rfl))) ynk (ynl yaj)))
   (yai (ya2 (i:=3) sc_law.nd rfl (Or.inl rfl) (ykb ynn (yb1 yru (pv 3) (ya8 yca (pv 5) yaj (fun _ _=>rfl))) ynk (ynl yaj)))))) ybb)
  (yad (ya2 (i:=6) sc_law.nd rfl (Or.inl rfl) (yan G_best hr rfl yso (yal (pv 2) (yal (pv 3) (yal (pv 4) yac)))))
  (yad (yei PassesOwn.never rfl (yhu rfl B.range (yal yaj yac)) (yah (i:=7) sc_law.nd rfl (Or.inl rfl)) (yad (ya2 (i:=8) sc_law.nd rfl (Or.inl rfl) (yan G_dealt hr rfl yso (yal (pv 2) (yal (pv 3) (yal (pv 4) (yal (pv 6) yac))))))
   (yad (ydn (ybm (ywi hr.units) (yan G_walked hr rfl ya9 (yal (pv 2) (yal (pv 3) (yal (pv 4) (yal (pv 8) yac))))) (pv 6) (ybs _)) (yai (yaw yj9)) ybb)
   (yad (ydn (PW.pt (yka (ybm yub (yan G_is_dealing hr rfl yso (yal (pv 2) (yal (pv 3) (yal (pv 4) (yal (pv 8) yac))))) yj9 (ybs _)) (yjl (ye9 (yek (yan G_same hr rfl ya9 (yal (yan G_counts_of hr rfl yso (yal (pv 2) (yal (pv 8) yac))) (yal (pv 6) yac))) (fun _=>rfl)))))) (yai (yaw yj9)) ybb)
   (yai (ycw (i:=6) sc_law.nd rfl (Or.inl rfl) (N':=["_law_count","_law_draw"]) (ix:=[none,some 1]) (g:=(ybc 0)) (ti:=yho) (te:=(yi7 ylw [] E0 (ybp (yck 1) (ybp (tOp (rI0 fun i j=>.int (i+j)) (yck 0) (tC (.int 1))) yhw)))) rfl (yav (N:=yz6) (D:=yaa yjk) (by decide +kernel)) (ybd (pv 6)) (fun C s H fp=>(yah (i:=0) (show (["_law_count","_law_draw"]:List Str).Nodup by decide +kernel) rfl (Or.inl rfl))) (fun C s H fp=>ybo) (fun C s H fp=>(yan G_pick hr rfl ya9 (yal (pv 1) (yal (yb1 ydx (pv 0) yaj) yac))))))))))
  (yai (yaw yj9))))))),?_⟩
 refine⟨_,rfl,a0,ns,rfl,hS,hlen,fun a c H1 ha hc s1 d1=>?_⟩
 have T1:=hTb.same s1
 clear hTb s1 hS
 refine⟨_,rfl,a,c,14,rfl,d1,by decide,by decide,fun t l o tm lo n sc ls os H2 hl ho nlo t0 t4 lo1 n6 h1000 sc0 sc1 hls hos lsn osn d2 kb2 R2l R2o ht=>?_⟩
 have T2:=T1.keep d1 kb2
 have g0:GoodC ls os tm:=⟨fun r hr=>(hls r hr).good lo1 h1000 sc1,fun r hr=>(hos r hr).good lo1 h1000 sc1,by omega,by omega,t0,t4⟩
 have nla:l≠a:=d1.ne hl
 have noa:o≠a:=d1.ne ho
 refine⟨t,_,rfl,SqT.of ht,rfl,_,_,rfl,_,_,rfl,_,_,rfl,rfl,?_⟩
 dsimp only
 refine yxh (fun σ H'=>∃l o o5 ls os,σ=[some (.ref a0),some (.ref a),some (.ref l),some (.ref o),some (.int tm),o5,none,none,none]∧Tb tb H'∧DrawAt H' a c∧l≠a∧o≠a∧Rows H' l ls∧Rows H' o os∧GoodC ls os tm) (fun D' nx _=>?_) ?_
 ·refine⟨_,rfl,a,c,9,rfl,d2,by decide,by decide,fun y H3 y0 y1 d3 kb3=>⟨rfl,_,rfl,?_⟩⟩
  have T3:=T2.keep d2 kb3
  have L3:=R2l.keep nla d2 kb3
  have O3:=R2o.keep noa d2 kb3
  refine yym (fun _=>?_) (fun _=>nx _ _ ⟨_,_,_,_,_,rfl,T3,d3,nla,noa,L3,O3,g0⟩)
  refine⟨_,rfl,a,c,30,rfl,d3,by decide,by decide,fun qm lm om tmm lo' n' sc' lsm osm H4 hlm hom nlo' t0' t4' lo1' n6' h1000' sc0' sc1' hls' hos' lsn' osn' d4 kb4 R4 O4 e4=>?_⟩
  have T4:=T3.keep d3 kb4
  have L4:=L3.keep nla d3 kb4
  have O4':=O3.keep noa d3 kb4
  obtain ⟨x1,ex1,hx1⟩:=L4.tups
  obtain ⟨y1',ey1,hy1⟩:=O4'.tups
  obtain ⟨xm,exm,hxm⟩:=R4.tups
  obtain ⟨ym,eym,hym⟩:=O4.tups
  have gx1:=hx1.1
  have gy1:=hy1.1
  have gxm:=hxm.1
  have gym:=hym.1
  refine⟨_,rfl,_,rfl,qm,_,_,.ref lm,rfl,rfl,SqT.of e4,rfl,l,lm,_,_,rfl,rfl,ex1,exm,Nat.le_of_lt (yas (by omega)),fun p1 hp1=>?_⟩
  have v1:=yae (H:=H4) hp1 (.lst (x1++xm))
  refine⟨_,rfl,p1,_,rfl,SqL.of yab,fun p2 hp2=>?_⟩
  rw[yz4 _ (show (0:Int)≤30 by decide)]
  have v2:=v1.trans (yae hp2 (.lst ((x1++xm).take (30:Int).toNat)))
  have E2:=yab (H:=L2.upd H4 p1 (.lst (x1++xm))) (a:=p2) (o:=.lst ((x1++xm).take (30:Int).toNat))
  have d5:=(d4.new (o:=.lst (x1++xm)) hp1).new (o:=.lst ((x1++xm).take (30:Int).toNat)) hp2
  have n2a:p2≠a:=(d4.new (o:=.lst (x1++xm)) hp1).ne hp2
  generalize L2.upd (L2.upd H4 p1 (.lst (x1++xm))) p2 (.lst ((x1++xm).take (30:Int).toNat))=H5 at *
  have X:=(((hx1.cat hxm).same v2).take (30:Int).toNat)
  refine⟨_,rfl,_,rfl,qm,_,_,.ref om,rfl,rfl,SqT.of (v2 _ _ e4),rfl,o,om,_,_,rfl,rfl,v2 _ _ ey1,v2 _ _ eym,Nat.le_of_lt (yas (by omega)),fun p3 hp3=>?_⟩
  have v3:=yae (H:=H5) hp3 (.lst (y1' ++ ym))
  refine⟨_,rfl,p3,_,rfl,SqL.of yab,fun p4 hp4=>?_⟩
  rw[yz4 _ (show (0:Int)≤30 by decide)]
  have v4:=v3.trans (yae hp4 (.lst ((y1' ++ ym).take (30:Int).toNat)))
  have Y:=(((hy1.cat hym).same (v2.trans v4)).take (30:Int).toNat)
  refine nx _ _ ⟨p2,p4,_,_,_,rfl,T4.same (v2.trans v4),(d5.new hp3).new hp4,n2a,(d5.new (o:=.lst (y1' ++ ym)) hp3).ne hp4,(X.same v4).rows (v4 _ _ E2),Y.rows yab,⟨fun r hr=>?_,fun r hr=>?_,by rw[List.length_take];exact Nat.min_le_left _ _,by rw[List.length_take];exact Nat.min_le_left _ _,t0,t4⟩⟩
  ·rcases List.mem_append.mp (List.mem_of_mem_take hr) with z|z
   ·exact g0.lg r z
   ·exact(hls' r z).good lo1' h1000' sc1'
  ·rcases List.mem_append.mp (List.mem_of_mem_take hr) with z|z
   ·exact g0.og r z
   ·exact(hos' r z).good lo1' h1000' sc1'
 clear g0 hls hos R2l R2o nla noa ht d2 T2
 rintro σ H3 ⟨l,o,o5,ls,os,rfl,T3,d3,nla,noa,L3,O3,g⟩
 have gn:=g.ln
 refine⟨_,rfl,_,rfl,_,rfl,l,o,tm,ls,os,rfl,L3,g.h3,O3,g.h2,fun n e=>(by rw[g.both] at e;cases e),fun _ tk cs H4 htk hB s4 I4=>?_⟩
 obtain ⟨tok,nl⟩:=yv7 g hB
 refine⟨2,rfl,by decide,by decide,?_⟩
 refine yhv (n:=2) (fun i σ H6=>∃tk ts o7 o8,σ=[some (.ref a0),some (.ref a),some (.ref l),some (.ref o),some (.int tm),o5,some (.ref tk),o7,o8]∧DrawAt H6 a c∧Rows H6 l ls∧Rows H6 o os∧Tb tb H6∧tk≠a∧ya0 H6 tk ts∧TakenOk ls ts∧NoLack ls os tm ts) ⟨tk,cs,_,_,rfl,d3.same s4,L3.same s4,O3.same s4,T3.same s4,d3.ne htk,I4,tok,nl⟩ ?_ ?_
 ·clear tok nl I4 hB htk s4
  rintro i σ H5 hi ⟨tk,ts,o7,o8,rfl,d5,L5,O5,T5,nta,I5,tok,nl⟩
  have tl:=tok.1
  refine⟨_,rfl,_,rfl,_,rfl,_,rfl,l,o,tk,tm,ls,os,ts,rfl,L5,g.h3,O5,g.h2,I5,by omega,fun n e=>(by rw[g.both] at e;cases e),fun _=>⟨fun z=>absurd tok z,fun _ ds hds=>⟨fun lk=>absurd (nl ds hds) lk,fun _ rl us H6 hrl hD s6 R6=>?_⟩⟩⟩
  obtain ⟨ages,outs,left,oa,oo,D,l0,few,isd,lin,sums⟩:=yq2 g tok nl hD
  have u3:∀r∈us,r.length=3:=fun r hr=>by obtain ⟨i,j,u,rfl,_⟩:=D.row r hr;rfl
  refine⟨_,rfl,_,rfl,_,rfl,_,rfl,l,o,rl,tm,ls,os,us,ts,ages,outs,left,rfl,T5.same s6,L5.same s6,O5.same s6,g,R6,few,oa,oo,tl,D,l0,fun wt H7 hwt s7 I7=>?_⟩
  have s57:=s6.trans s7
  refine⟨_,rfl,yv9 I7 (s57 _ _ I5) ⟨_,rfl,ycq ?_⟩⟩
  refine⟨_,rfl,_,rfl,_,rfl,_,rfl,l,o,rl,tm,ls,os,us,rfl,L5.same s57,g.h3,O5.same s57,g.h2,R6.same s7,u3,by omega,fun n e=>(by rw[g.both] at e;cases e),fun _ x H8 hx s8=>?_⟩
  have ext:x=true:=hx.mpr isd
  subst ext
  have s58:=s57.trans s8
  refine⟨_,_,rfl,rfl,_,rfl,ycq ?_⟩
  refine⟨_,rfl,_,rfl,l,rl,ls,us,rfl,L5.same s58,g.h3,R6.same (s7.trans s8),u3,by omega,fun z=>absurd z (by omega),fun _ j e=>(by rw[ym6 g.lg] at e;cases e),fun _ _=>⟨fun no=>absurd lin no,fun _ ct H9 hct s9 I9=>?_⟩⟩
  rw[sums] at I9
  have s59:=s58.trans s9
  refine⟨_,rfl,_,_,rfl,ywa I9 (s59 _ _ I5) (by omega),fun H10 s10=>⟨_,rfl,ycq ?_⟩⟩
  have s50:=s59.trans s10
  have d10:=d5.same s50
  have I10:ya0 H10 tk ts:=s50 _ _ I5
  refine⟨_,rfl,tk,rfl,⟨_,SqL.of I10⟩,fun C hC=>?_⟩
  have nCa:=d10.ne hC
  refine ytz (fun i zs _=>∃vs:List Int,zs=vs.map V.int∧vs.length=i∧∀(j:Nat) u v,vs[j]? = some u→ts[j]? = some v→0≤u∧u≤v) hC I10 nta d10 (by rw[List.length_map];omega) (fun i zs H' H'' h _ _=>h) ⟨[],rfl,rfl,fun j u v e=>(by cases e)⟩ (fun i x zs H' ex hz k' d' ⟨vs,ez,el,hts⟩ K1 q1=>?_) fun zs H11 k11 d11 ⟨vs,ez,el,hts⟩ lz e11=>?_
  ·obtain ⟨v,rfl,ev⟩:=ycs ex
   have hv:=tok.at (List.getElem?_eq_getElem (show i<ls.length by have:=(List.getElem?_eq_some_iff.mp ev).1;omega)) ev
   have hcc:=g.ok.rc _ (List.getElem_mem (show i<ls.length by have:=(List.getElem?_eq_some_iff.mp ev).1;omega))
   refine⟨yax ybf rfl,?_⟩
   refine⟨_,rfl,_,rfl,_,_,rfl,rfl,a,c,v+1,rfl,d',by omega,by omega,fun r H12 r0 r1 d12 kb12=>?_⟩
   subst ez
   refine q1 (.int r) H12 kb12 d12 ⟨vs++[r],by rw[List.map_append];rfl,by rw[List.length_append,List.length_singleton];omega,fun j u w e1 e2=>?_⟩
   by_cases hj:j<vs.length
   ·rw[List.getElem?_append_left hj] at e1
    exact hts j u w e1 e2
   ·have:j=vs.length:=by
     have:=(List.getElem?_eq_some_iff.mp e1).1
     rw[List.length_append,List.length_singleton] at this
     omega
    subst this
    rw[List.getElem?_append_right (Nat.le_refl _),Nat.sub_self] at e1
    cases e1
    rw[el,ev] at e2
    cases e2
    exact⟨r0,by omega⟩
  ·subst ez
   rw[List.length_map] at el
   obtain ⟨tok',nl'⟩:=yv8 tok nl el hts
   exact⟨C,vs,_,_,rfl,d11,(L5.same s50).keep nla d10 k11,(O5.same s50).keep noa d10 k11,(T5.same s50).keep d10 k11,nCa,e11,tok',nl'⟩
 ·rintro σ H6 ⟨tk,ts,o7,o8,rfl,d6,L6,O6,T6,_⟩
  exact q _ T6
end
end K13
namespace L2
open PySem PySem.Spec PySem.W PyProof.Rows
theorem yue {P:Program}{w:World}{K:PySem.W.Frag}{mg mb:Str→Option Value}{CX:CXT}{k:Nat}{fa a:Addr}{fd:FuncData}{x:Str}{sp:Sp}{s₁:Shared}{vs:List Value}{ns:List Int}{tb:Tbs}
 (KX:K.In s₁.heap) (hns:s₁.heap.Ns mainGlobals mg) (hb:s₁.heap.Ns builtinsNs mb) (hbb:∀x:Str,x ≠ "__name__" → mb x=bootBuiltins x) (hlim:s₁.heap.NoLimit) (hbm:ylb mg s₁.heap) (hg:s₁.gens = #[])
 (ha:s₁.heap.get? a=some { cls:=.type "list",data:=.seq vs.toArray }) (hi:IntsAre vs ns) (hl:ns.length≤sizeLine) (hr:Room k callerA)
 (hnd:(tb.map (·.1)).Nodup) (htab:∀t∈tb,s₁.heap.get? t.1=some (tabObj #[])∧K.lookup t.1=none∧∃c,codeHdIn K c t.1=true)
 (F:∀base:Heap,K.In base→base.Ns mainGlobals mg→ylb mg base→FnOk P w K mg base CX k fa fd [x] sp) (hbind:∀(s:Shared) (u:Value),BindsTo s fd ⟨[u],[]⟩ [(x,u)])
 (hsp:∀H:Hp,Tb tb H→SqL K H a (ns.map V.int)→sp [.ref a] H (fun v H'=>v = .bl true∧Tb tb H') fun _ _ _=>False)
 (hCX:∀H e s',CX [] H s₁ (fun _ _ _=>False) e s'→False) :
 codeAny (model P w) callerA (.call (.ref fa) ⟨[.ref a],[]⟩) (fun r s'=>r = .ok (.ret (.bool true))∧OldK s₁.heap s'.heap∧s'.os=s₁.os∧AllBare s'.gens) s₁:=by
 have rv:=ylt hi
 have lenV:=hi.length
 have core:∀H:Hp,(∀b u,H b=some u→(b=a∧∃o xs,u = .frz o (.lst xs))∨∃t∈tb,b=t.1∧u = .cod t.2.1 t.2.2)→Tb tb H→SqL K H a (ns.map V.int)→HOk P w H s₁.heap→(H a≠none→K.lookup a=none)→
  codeAny (model P w) callerA (.call (.ref fa) ⟨[.ref a],[]⟩) (fun r s'=>r = .ok (.ret (.bool true))∧OldK s₁.heap s'.heap∧s'.os=s₁.os∧AllBare s'.gens) s₁:=by
  intro H hO hT hS hok hK
  have base_of:∀{b:Addr}{o:Obj},s₁.heap.get? b=some o→H b=none→(yuf s₁.heap H).get? b=some o:=fun e n=>yuh e n
  have noA:∀{b:Addr}{o:Obj},s₁.heap.get? b=some o→o≠{ cls:=.type "list",data:=.seq vs.toArray }→o≠tabObj #[]→H b=none:=fun {b o} e d1 d2=>by
   cases q:H b with
   |none=>rfl
   |some u=>
    rcases hO b u q with ⟨e',_⟩ | ⟨t,ht,e',_⟩
    ·rw[e',ha] at e;exact absurd (Option.some.inj e).symm d1
    ·rw[e',(htab t ht).1] at e;exact absurd (Option.some.inj e).symm d2
  have nsK:∀{b:Addr}{m:Str→Option Value},s₁.heap.Ns b m→(yuf s₁.heap H).Ns b m:=fun {b m} ⟨o,es,ep,e,d,r⟩=>⟨o,es,ep,base_of e (noA e (fun z=>by rw[z] at d;cases d) fun z=>by rw[z] at d;cases d),d,r⟩
  have hKb:K.In (yuf s₁.heap H):=fun b o e=>base_of (KX b o e) (by
   cases q:H b with
   |none=>rfl
   |some u=>
    rcases hO b u q with ⟨e',_⟩ | ⟨t,ht,e',_⟩
    ·subst e'
     rw[hK (by rw[q];simp)] at e;cases e
    ·rw[e',(htab t ht).2.1] at e;cases e)
  have hM:Mod K mg (yuf s₁.heap H):=⟨hKb,nsK hns,⟨mb,nsK hb,hbb⟩,let ⟨mc,h1,h2⟩:=hlim;⟨mc,nsK h1,h2⟩⟩
  have hBM:ylb mg (yuf s₁.heap H):=by
   obtain ⟨bm,ob,b1,b2,b3,b4,b5,b6⟩:=hbm
   exact⟨bm,ob,b1,b2,base_of b3 (noA b3 (fun z=>by rw[z] at b6;cases b6) fun z=>by rw[z] at b6;cases b6),b4,b5,b6⟩
  have e0:Env0 P w K mg (yuf s₁.heap H) callerA [] s₁ H:=⟨rfl,hM,fun b o e=>yw0 e,Nat.le_of_eq (yq8 _ _),trivial,fun b hb=>absurd (show b∈([]:List Addr) from hb) (by simp),hok,.of_eq hg⟩
  refine codeAny_mono ((F _ hKb (nsK hns) hBM).run callerA [] s₁ H ⟨[.ref a],[]⟩ [.ref a] [.ref a] _ _ hr e0 (hbind s₁ (.ref a)) (.cons rfl .nil) (hsp H hT hS)) fun r s' h=>?_
  cases r with
  |error e=>exact(hCX H e s' h).elim
  |ok fl=>
   cases fl with
   |next=>exact False.elim h
   |brk=>exact False.elim h
   |cont=>exact False.elim h
   |ret u=>
    obtain ⟨v,H',os,bare,un,hok',r',q⟩:=h
    have q':v = .bl true∧Tb tb H':=q
    obtain ⟨rfl,hT'⟩:=q'
    obtain rfl:u=Value.bool true:=r'
    have old:∀b o,s₁.heap.get? b=some o→s'.heap.get? b=some o∨∃t∈tb,b=t.1:=fun b o e=>by
     cases q:H b with
     |none=>exact .inl (un.keep b o e q (by intro z;exact absurd (show b∈([]:List Addr) from z) (by simp)) (by simp))
     |some u=>
      rcases hO b u q with ⟨e',ob,xs,z⟩ | ⟨t,ht,e',_⟩
      ·subst z
       have z2:=un.frzs b ob _ q
       obtain ⟨e1,_⟩:=hok b _ q
       obtain ⟨e2,_⟩:=hok' b _ z2
       rw[e] at e1;cases e1
       exact .inl e2
      ·exact .inr ⟨t,ht,e'⟩
    refine⟨rfl,⟨fun b o e=>?_,fun b o e=>?_⟩,os,bare⟩
    ·rcases old b o e with z|⟨t,ht,rfl⟩
     ·exact .inl z
     ·obtain ⟨h1,_,c,hc⟩:=htab t ht
      rw[h1] at e;cases e
      have tt:s₁.heap.TableAt c t.1 #[]:=(codeHd_of_K KX hc).tab h1
      rcases (show ObjOk P w H' s'.heap t.1 (.cod t.2.1 t.2.2) from hok' _ _ (hT' t ht)) with z|⟨c',z,_⟩
      ·exact .inl z
      ·exact .inr (.inl ⟨tt.isCodeTable,rfl,#[],_,rfl,by rw[z];simp;rfl⟩)
    ·rcases old b o e with z|⟨t,ht,rfl⟩
     ·exact⟨o,z⟩
     ·rcases (show ObjOk P w H' s'.heap t.1 (.cod t.2.1 t.2.2) from hok' _ _ (hT' t ht)) with z|⟨c',z,_⟩
      ·exact⟨_,z⟩
      ·exact⟨_,z⟩
 have look:∀(l:Tbs) (b:Addr),(∃t∈l,t.1=b∧(l.find? fun t=>t.1 == b)=some t)∨((∀t∈l,t.1≠b)∧(l.find? fun t=>t.1 == b)=none):=fun l b=>by
  cases e:l.find? fun t=>t.1 == b with
  |none=>exact .inr ⟨fun t ht z=>by have:=List.find?_eq_none.mp e t ht;simp [z] at this,rfl⟩
  |some t=>exact .inl ⟨t,List.mem_of_find?_eq_some e,by simpa using List.find?_some e,rfl⟩
 have uniq:∀t∈tb,(tb.find? fun s=>s.1 == t.1)=some t:=fun t ht=>by
  rcases look tb t.1 with ⟨s,hs,e,f⟩ | ⟨n,_⟩
  ·rw[f]
   have:s=t:=by
    obtain ⟨i,hi,ei⟩:=List.getElem_of_mem hs
    obtain ⟨j,hj,ej⟩:=List.getElem_of_mem ht
    have h1:(tb.map (·.1))[i]'(by simpa using hi)=(tb.map (·.1))[j]'(by simpa using hj):=by simp [ei,ej,e]
    have:=(List.getElem_inj hnd).mp h1
    subst this
    rw[← ei,← ej]
   rw[this]
  ·exact absurd rfl (n t ht)
 have nat:∀t∈tb,t.1≠a:=fun t ht z=>by
  have:=(htab t ht).1
  rw[z,ha] at this;cases this
 cases hk:K.lookup a with
 |some o=>
  have e:=KX a o hk
  rw[ha] at e
  cases e
  refine core (fun b=>(tb.find? fun t=>t.1 == b).map fun t=>.cod t.2.1 t.2.2) (fun b u h=>?_) (fun t ht=>by show (tb.find? fun s=>s.1 == t.1).map _=_;rw[uniq t ht];rfl) (.inr ⟨_,vs.toArray,_,hk,rfl,rfl,rfl,by rw[List.size_toArray,lenV];exact hl,by simpa using rv⟩) (fun b u h=>?_) fun z=>?_
  ·rcases look tb b with ⟨t,ht,e,f⟩ | ⟨_,f⟩
   ·have h':(tb.find? fun t=>t.1 == b).map (fun t=>HO.cod t.2.1 t.2.2)=some u:=h
    rw[f] at h';cases h'
    exact .inr ⟨t,ht,e.symm,rfl⟩
   ·have h':(tb.find? fun t=>t.1 == b).map (fun t=>HO.cod t.2.1 t.2.2)=some u:=h
    rw[f] at h';cases h'
  ·rcases look tb b with ⟨t,ht,e,f⟩ | ⟨_,f⟩
   ·have h':(tb.find? fun t=>t.1 == b).map (fun t=>HO.cod t.2.1 t.2.2)=some u:=h
    rw[f] at h';cases h'
    exact .inl (by rw[← e];exact(htab t ht).1)
   ·have h':(tb.find? fun t=>t.1 == b).map (fun t=>HO.cod t.2.1 t.2.2)=some u:=h
    rw[f] at h';cases h'
  ·rcases look tb a with ⟨t,ht,e,_⟩ | ⟨_,f⟩
   ·exact absurd e (nat t ht)
   ·exact absurd (show (tb.find? fun t=>t.1 == a).map (fun t=>HO.cod t.2.1 t.2.2)=none by rw[f];rfl) z
 |none=>
  refine core (fun b=>if b=a then some (.frz { cls:=.type "list",data:=.seq vs.toArray } (.lst (ns.map V.int))) else (tb.find? fun t=>t.1 == b).map fun t=>.cod t.2.1 t.2.2) (fun b u h=>?_) (fun t ht=>?_) (.inl (.inr ⟨{ cls:=.type "list",data:=.seq vs.toArray },if_pos rfl⟩)) (fun b u h=>?_) fun _=>hk
  ·by_cases hb:b=a
   ·have h':=(if_pos hb).symm.trans h
    cases h'
    exact .inl ⟨hb,_,_,rfl⟩
   ·have h':(tb.find? fun t=>t.1 == b).map (fun t=>HO.cod t.2.1 t.2.2)=some u:=(if_neg hb).symm.trans h
    rcases look tb b with ⟨t,ht,e,f⟩ | ⟨_,f⟩
    ·rw[f] at h';cases h'
     exact .inr ⟨t,ht,e.symm,rfl⟩
    ·rw[f] at h';cases h'
  ·show (if t.1=a then _ else (tb.find? fun s=>s.1 == t.1).map _)=_
   rw[if_neg (nat t ht),uniq t ht];rfl
  ·by_cases hb:b=a
   ·have h':=(if_pos hb).symm.trans h
    cases h'
    subst hb
    exact⟨ha,by rw[List.length_map];exact hl,vs,_,rv,ha⟩
   ·have h':(tb.find? fun t=>t.1 == b).map (fun t=>HO.cod t.2.1 t.2.2)=some u:=(if_neg hb).symm.trans h
    rcases look tb b with ⟨t,ht,e,f⟩ | ⟨_,f⟩
    ·rw[f] at h';cases h'
     exact .inl (by rw[← e];exact(htab t ht).1)
    ·rw[f] at h';cases h'
theorem walk_tab {l:PySem.W.OpenLaw}{n k:Nat}{q:Program}{loose:List Str}{XP:(Str→Option Value)→Heap→Prop}{YP:World→Heap→Prop}{d:DefRec}{K:Params→PySem.W.Frag}{ts:List Addr}{x:Str}{sp:PySem.W.Frag→Tbs→Sp}
 (hn:l.most=some n) (hn2:n≤sizeLine) (hdf:d.params.defaults=[]) (hr:Room k callerA)
 (hY:∀(w:World) (h:Heap),YP w h→(K w.params).In h∧∀P∈ts,h.get? P=some (tabObj #[]))
 (F:∀(w:World) (mg:Str→Option Value) (fa:Addr) (h:Heap),(K w.params).In h→h.Ns mainGlobals mg→mg d.name=some (.ref fa)→
  ∃(fd:FuncData) (tb:Tbs),((tb.map (·.1)).Nodup∧∀t∈tb,t.1∈ts∧(K w.params).lookup t.1=none∧∃c,codeHdIn (K w.params) c t.1=true)∧(∀(s:Shared) (u:Value),BindsTo s fd ⟨[u],[]⟩ [(x,u)])∧
   ∀base:Heap,(K w.params).In base→base.Ns mainGlobals mg→ylb mg base→FnOk l.prog w (K w.params) mg base CX0 k fa fd [x] (sp (K w.params) tb))
 (hsp:∀(K:PySem.W.Frag) (tb:Tbs) (H:Hp) (a:Addr) (ns:List Int),ns.length≤n→Tb tb H→SqL K H a (ns.map V.int)→sp K tb [.ref a] H (fun v H'=>v = .bl true∧Tb tb H') fun _ _ _=>False) :
 PySem.W.WalkO q loose XP YP l.row.toRowW d [] (fun f vs=>PySem.call f vs):=by
 refine Att.attach_call hn hdf fun w s₀ s₁ mg mb fa o pm cd doc a vs ns G Y ho hd hcd hmg hobj hints hlen hg=>?_
 obtain ⟨KX,TX⟩:=hY w _ Y
 obtain ⟨fd,tb,⟨hnd,htb⟩,hb,hF⟩:=F w mg fa _ KX G.T.g hmg
 exact yue KX G.T.g G.T.b G.T.builtins G.T.nolimit G.T.bmain hg hobj hints (Nat.le_trans hlen hn2) hr hnd (fun t ht=>⟨TX _ (htb t ht).1,(htb t ht).2⟩) hF hb (fun H hT hS=>hsp (K w.params) tb H a ns hlen hT hS) fun H e s' h=>h
end L2
namespace K13
open PySem L2
def clF (c_0 c_1 c_2 c_3 c_4 c_5 c_7 c_8 c_9:Addr):Nat→Addr
 |0=>c_0
 |1=>c_1
 |2=>c_2
 |3=>c_3
 |4=>c_4
 |5=>c_5
 |7=>c_7
 |8=>c_8
 |9=>c_9
 |_=>c_0
theorem all_mk {l:W.OpenLaw}{w:World}{K:W.Frag}{h:Heap}{mg:Str→Option Value}{fa f0 f1 f2 f3 f4 f5 f6 f7 f8 f9 f10 f11 f12 f13 f14 f15 f16 f17 f18 f19 f20 f21 f22 f23 f24 f25 f26 f27 f28 f29 f30 f31 f32 f33 f34 f35 f36 f37 f38 f39 f40 f41 f42 f43 c_0 c_1 c_2 c_3 c_4 c_5 c_7 c_8 c_9 cc33 PP33:Addr}{u_FIRST_DAY u_LAST_DAY u_MOST_TERM u_MOST_ROWS u_MOST_COUNT u_MOST_DUTY:Tok} (X:K.In h) (G:h.Ns mainGlobals mg) (hfa:mg "law" = some (.ref fa)) {ts:List Addr}
 {d0 e0 d1 e1 d2 e2 d3 e3 d4 e4 d5 e5 d6 e6 d7 e7 d8 e8 d9 e9 d10 e10 d11 e11 d12 e12 d13 e13 d14 e14 d15 e15 d16 e16 d17 e17 d18 e18 d19 e19 d20 e20 d21 e21 d22 e22 d23 e23 d24 e24 d25 e25 d26 e26 d27 e27 d28 e28 d29 e29 d30 e30 d31 e31 d32 e32 d33 e33 d34 e34 d35 e35 d36 e36 d37 e37 d38 e38 d39 e39 d40 e40 d41 e41 d42 e42 d43 e43 to33:Option Addr}{g0 g1 g2 g3 g4 g5 g6 g7 g8 g9 g10 g11 g12 g13 g14 g15 g16 g17 g18 g19 g20 g21 g22 g23 g24 g25 g26 g27 g28 g29 g30 g31 g32 g33 g34 g35 g36 g37 g38 g39 g40 g41 g42 g43 ts33:Array (Option Value)}{tv33:Array Value}{tc33:Value}{i0 j0 n0 p0 r0 s0 i1 j1 n1 p1 r1 s1 i2 j2 n2 p2 r2 s2 i3 j3 n3 p3 r3 s3 i4 j4 n4 p4 r4 s4 i5 j5 n5 p5 r5 s5 i6 j6 n6 p6 r6 s6 i7 j7 n7 p7 r7 s7 i8 j8 n8 p8 r8 s8 i9 j9 n9 p9 r9 s9 i10 j10 n10 p10 r10 s10 i11 j11 n11 p11 r11 s11 i12 j12 n12 p12 r12 s12 i13 j13 n13 p13 r13 s13 i14 j14 n14 p14 r14 s14 i15 j15 n15 p15 r15 s15 i16 j16 n16 p16 r16 s16 i17 j17 n17 p17 r17 s17 i18 j18 n18 p18 r18 s18 i19 j19 n19 p19 r19 s19 i20 j20 n20 p20 r20 s20 i21 j21 n21 p21 r21 s21 i22 j22 n22 p22 r22 s22 i23 j23 n23 p23 r23 s23 i24 j24 n24 p24 r24 s24 i25 j25 n25 p25 r25 s25 i26 j26 n26 p26 r26 s26 i27 j27 n27 p27 r27 s27 i28 j28 n28 p28 r28 s28 i29 j29 n29 p29 r29 s29 i30 j30 n30 p30 r30 s30 i31 j31 n31 p31 r31 s31 i32 j32 n32 p32 r32 s32 i33 j33 n33 p33 s33 i34 j34 n34 p34 r34 s34 i35 j35 n35 p35 r35 s35 i36 j36 n36 p36 r36 s36 i37 j37 n37 p37 r37 s37 i38 j38 n38 p38 r38 s38 i39 j39 n39 p39 r39 s39 i40 j40 n40 p40 r40 s40 i41 j41 n41 p41 r41 s41 i42 j42 n42 p42 r42 s42 i43 j43 n43 p43 r43 s43:Value}
 (a0:W.nsIn K mainGlobals "is_day" = some (some (.ref f0)))
 (l0:K.lookup f0=some ⟨i0,d0,.func (W.fnOf "is_day" "is_day" (yaq yfs) (yap yfs) (yaa yfs) .none j0 n0 p0 e0 r0 s0),g0⟩)
 (c0:W.codeIn K r0 "is_day" = true)
 (k0:W.keepIn K (.ref f0)=true)
 (a1:W.nsIn K mainGlobals "check_day" = some (some (.ref f1)))
 (l1:K.lookup f1=some ⟨i1,d1,.func (W.fnOf "check_day" "check_day" (yaq ydf) (yap ydf) (yaa ydf) .none j1 n1 p1 e1 r1 s1),g1⟩)
 (c1:W.codeIn K r1 "check_day" = true)
 (k1:W.keepIn K (.ref f1)=true)
 (a2:W.nsIn K mainGlobals "check_term" = some (some (.ref f2)))
 (l2:K.lookup f2=some ⟨i2,d2,.func (W.fnOf "check_term" "check_term" (yaq ycx) (yap ycx) (yaa ycx) .none j2 n2 p2 e2 r2 s2),g2⟩)
 (c2:W.codeIn K r2 "check_term" = true)
 (k2:W.keepIn K (.ref f2)=true)
 (a3:W.nsIn K mainGlobals "reach" = some (some (.ref f3)))
 (l3:K.lookup f3=some ⟨i3,d3,.func (W.fnOf "reach" "reach" (yaq yg6) (yap yg6) (yaa yg6) .none j3 n3 p3 e3 r3 s3),g3⟩)
 (c3:W.codeIn K r3 "reach" = true)
 (k3:W.keepIn K (.ref f3)=true)
 (a4:W.nsIn K mainGlobals "check_many" = some (some (.ref f4)))
 (l4:K.lookup f4=some ⟨i4,d4,.func (W.fnOf "check_many" "check_many" (yaq ycz) (yap ycz) (yaa ycz) .none j4 n4 p4 e4 r4 s4),g4⟩)
 (c4:W.codeIn K r4 "check_many" = true)
 (k4:W.keepIn K (.ref f4)=true)
 (a5:W.nsIn K mainGlobals "check_count" = some (some (.ref f5)))
 (l5:K.lookup f5=some ⟨i5,d5,.func (W.fnOf "check_count" "check_count" (yaq ycf) (yap ycf) (yaa ycf) .none j5 n5 p5 e5 r5 s5),g5⟩)
 (c5:W.codeIn K r5 "check_count" = true)
 (k5:W.keepIn K (.ref f5)=true)
 (a6:W.nsIn K mainGlobals "check_duty" = some (some (.ref f6)))
 (l6:K.lookup f6=some ⟨i6,d6,.func (W.fnOf "check_duty" "check_duty" (yaq yc1) (yap yc1) (yaa yc1) .none j6 n6 p6 e6 r6 s6),g6⟩)
 (c6:W.codeIn K r6 "check_duty" = true)
 (k6:W.keepIn K (.ref f6)=true)
 (a7:W.nsIn K mainGlobals "checked_lots" = some (some (.ref f7)))
 (l7:K.lookup f7=some ⟨i7,d7,.func (W.fnOf "checked_lots" "checked_lots" (yaq yb4) (yap yb4) (yaa yb4) .none j7 n7 p7 e7 r7 s7),g7⟩)
 (c7:W.codeIn K r7 "checked_lots" = true)
 (k7:W.keepIn K (.ref f7)=true)
 (a8:W.nsIn K mainGlobals "checked_outs" = some (some (.ref f8)))
 (l8:K.lookup f8=some ⟨i8,d8,.func (W.fnOf "checked_outs" "checked_outs" (yaq yb6) (yap yb6) (yaa yb6) .none j8 n8 p8 e8 r8 s8),g8⟩)
 (c8:W.codeIn K r8 "checked_outs" = true)
 (k8:W.keepIn K (.ref f8)=true)
 (a9:W.nsIn K mainGlobals "checked_both" = some (some (.ref f9)))
 (l9:K.lookup f9=some ⟨i9,d9,.func (W.fnOf "checked_both" "checked_both" (yaq yb7) (yap yb7) (yaa yb7) .none j9 n9 p9 e9 r9 s9),g9⟩)
 (c9:W.codeIn K r9 "checked_both" = true)
 (k9:W.keepIn K (.ref f9)=true)
 (a10:W.nsIn K mainGlobals "checked_taken" = some (some (.ref f10)))
 (l10:K.lookup f10=some ⟨i10,d10,.func (W.fnOf "checked_taken" "checked_taken" (yaq ybx) (yap ybx) (yaa ybx) .none j10 n10 p10 e10 r10 s10),g10⟩)
 (c10:W.codeIn K r10 "checked_taken" = true)
 (k10:W.keepIn K (.ref f10)=true)
 (a11:W.nsIn K mainGlobals "eldest" = some (some (.ref f11)))
 (l11:K.lookup f11=some ⟨i11,d11,.func (W.fnOf "eldest" "eldest" (yaq yel) (yap yel) (yaa yel) .none j11 n11 p11 e11 r11 s11),g11⟩)
 (c11:W.codeIn K r11 "eldest" = true)
 (k11:W.keepIn K (.ref f11)=true)
 (a12:W.nsIn K mainGlobals "dearest" = some (some (.ref f12)))
 (l12:K.lookup f12=some ⟨i12,d12,.func (W.fnOf "dearest" "dearest" (yaq ydr) (yap ydr) (yaa ydr) .none j12 n12 p12 e12 r12 s12),g12⟩)
 (c12:W.codeIn K r12 "dearest" = true)
 (k12:W.keepIn K (.ref f12)=true)
 (a13:W.nsIn K mainGlobals "going" = some (some (.ref f13)))
 (l13:K.lookup f13=some ⟨i13,d13,.func (W.fnOf "going" "going" (yaq yf4) (yap yf4) (yaa yf4) .none j13 n13 p13 e13 r13 s13),g13⟩)
 (c13:W.codeIn K r13 "going" = true)
 (k13:W.keepIn K (.ref f13)=true)
 (a14:W.nsIn K mainGlobals "days_of" = some (some (.ref f14)))
 (l14:K.lookup f14=some ⟨i14,d14,.func (W.fnOf "days_of" "days_of" (yaq yee) (yap yee) (yaa yee) .none j14 n14 p14 e14 r14 s14),g14⟩)
 (c14:W.codeIn K r14 "days_of" = true)
 (k14:W.keepIn K (.ref f14)=true)
 (a15:W.nsIn K mainGlobals "stretches_of" = some (some (.ref f15)))
 (l15:K.lookup f15=some ⟨i15,d15,.func (W.fnOf "stretches_of" "stretches_of" (yaq ybu) (yap ybu) (yaa ybu) .none j15 n15 p15 e15 r15 s15),g15⟩)
 (c15:W.codeIn K r15 "stretches_of" = true)
 (k15:W.keepIn K (.ref f15)=true)
 (a16:W.nsIn K mainGlobals "against_each" = some (some (.ref f16)))
 (l16:K.lookup f16=some ⟨i16,d16,.func (W.fnOf "against_each" "against_each" (yaq ybv) (yap ybv) (yaa ybv) .none j16 n16 p16 e16 r16 s16),g16⟩)
 (c16:W.codeIn K r16 "against_each" = true)
 (k16:W.keepIn K (.ref f16)=true)
 (a17:W.nsIn K mainGlobals "lessened" = some (some (.ref f17)))
 (l17:K.lookup f17=some ⟨i17,d17,.func (W.fnOf "lessened" "lessened" (yaq yd3) (yap yd3) (yaa yd3) .none j17 n17 p17 e17 r17 s17),g17⟩)
 (c17:W.codeIn K r17 "lessened" = true)
 (k17:W.keepIn K (.ref f17)=true)
 (a18:W.nsIn K mainGlobals "slacks_of" = some (some (.ref f18)))
 (l18:K.lookup f18=some ⟨i18,d18,.func (W.fnOf "slacks_of" "slacks_of" (yaq ydg) (yap ydg) (yaa ydg) .none j18 n18 p18 e18 r18 s18),g18⟩)
 (c18:W.codeIn K r18 "slacks_of" = true)
 (k18:W.keepIn K (.ref f18)=true)
 (a19:W.nsIn K mainGlobals "none_lacks" = some (some (.ref f19)))
 (l19:K.lookup f19=some ⟨i19,d19,.func (W.fnOf "none_lacks" "none_lacks" (yaq ycb) (yap ycb) (yaa ycb) .none j19 n19 p19 e19 r19 s19),g19⟩)
 (c19:W.codeIn K r19 "none_lacks" = true)
 (k19:W.keepIn K (.ref f19)=true)
 (a20:W.nsIn K mainGlobals "free_at" = some (some (.ref f20)))
 (l20:K.lookup f20=some ⟨i20,d20,.func (W.fnOf "free_at" "free_at" (yaq yef) (yap yef) (yaa yef) .none j20 n20 p20 e20 r20 s20),g20⟩)
 (c20:W.codeIn K r20 "free_at" = true)
 (k20:W.keepIn K (.ref f20)=true)
 (a21:W.nsIn K mainGlobals "check_dealable" = some (some (.ref f21)))
 (l21:K.lookup f21=some ⟨i21,d21,.func (W.fnOf "check_dealable" "check_dealable" (yaq ybr) (yap ybr) (yaa ybr) .none j21 n21 p21 e21 r21 s21),g21⟩)
 (c21:W.codeIn K r21 "check_dealable" = true)
 (k21:W.keepIn K (.ref f21)=true)
 (a22:W.nsIn K mainGlobals "check_place" = some (some (.ref f22)))
 (l22:K.lookup f22=some ⟨i22,d22,.func (W.fnOf "check_place" "check_place" (yaq ych) (yap ych) (yaa ych) .none j22 n22 p22 e22 r22 s22),g22⟩)
 (c22:W.codeIn K r22 "check_place" = true)
 (k22:W.keepIn K (.ref f22)=true)
 (a23:W.nsIn K mainGlobals "reaches" = some (some (.ref f23)))
 (l23:K.lookup f23=some ⟨i23,d23,.func (W.fnOf "reaches" "reaches" (yaq yer) (yap yer) (yaa yer) .none j23 n23 p23 e23 r23 s23),g23⟩)
 (c23:W.codeIn K r23 "reaches" = true)
 (k23:W.keepIn K (.ref f23)=true)
 (a24:W.nsIn K mainGlobals "dealt_of" = some (some (.ref f24)))
 (l24:K.lookup f24=some ⟨i24,d24,.func (W.fnOf "dealt_of" "dealt_of" (yaq ydh) (yap ydh) (yaa ydh) .none j24 n24 p24 e24 r24 s24),g24⟩)
 (c24:W.codeIn K r24 "dealt_of" = true)
 (k24:W.keepIn K (.ref f24)=true)
 (a25:W.nsIn K mainGlobals "dealt" = some (some (.ref f25)))
 (l25:K.lookup f25=some ⟨i25,d25,.func (W.fnOf "dealt" "dealt" (yaq yg7) (yap yg7) (yaa yg7) .none j25 n25 p25 e25 r25 s25),g25⟩)
 (c25:W.codeIn K r25 "dealt" = true)
 (k25:W.keepIn K (.ref f25)=true)
 (a26:W.nsIn K mainGlobals "is_given" = some (some (.ref f26)))
 (l26:K.lookup f26=some ⟨i26,d26,.func (W.fnOf "is_given" "is_given" (yaq yd6) (yap yd6) (yaa yd6) .none j26 n26 p26 e26 r26 s26),g26⟩)
 (c26:W.codeIn K r26 "is_given" = true)
 (k26:W.keepIn K (.ref f26)=true)
 (a27:W.nsIn K mainGlobals "summed" = some (some (.ref f27)))
 (l27:K.lookup f27=some ⟨i27,d27,.func (W.fnOf "summed" "summed" (yaq yft) (yap yft) (yaa yft) .none j27 n27 p27 e27 r27 s27),g27⟩)
 (c27:W.codeIn K r27 "summed" = true)
 (k27:W.keepIn K (.ref f27)=true)
 (a28:W.nsIn K mainGlobals "none_above" = some (some (.ref f28)))
 (l28:K.lookup f28=some ⟨i28,d28,.func (W.fnOf "none_above" "none_above" (yaq ycd) (yap ycd) (yaa ycd) .none j28 n28 p28 e28 r28 s28),g28⟩)
 (c28:W.codeIn K r28 "none_above" = true)
 (k28:W.keepIn K (.ref f28)=true)
 (a29:W.nsIn K mainGlobals "is_dealing" = some (some (.ref f29)))
 (l29:K.lookup f29=some ⟨i29,d29,.func (W.fnOf "is_dealing" "is_dealing" (yaq ybj) (yap ybj) (yaa ybj) .none j29 n29 p29 e29 r29 s29),g29⟩)
 (c29:W.codeIn K r29 "is_dealing" = true)
 (k29:W.keepIn K (.ref f29)=true)
 (a30:W.nsIn K mainGlobals "counts_of" = some (some (.ref f30)))
 (l30:K.lookup f30=some ⟨i30,d30,.func (W.fnOf "counts_of" "counts_of" (yaq ycu) (yap ycu) (yaa ycu) .none j30 n30 p30 e30 r30 s30),g30⟩)
 (c30:W.codeIn K r30 "counts_of" = true)
 (k30:W.keepIn K (.ref f30)=true)
 (a31:W.nsIn K mainGlobals "best_of" = some (some (.ref f31)))
 (l31:K.lookup f31=some ⟨i31,d31,.func (W.fnOf "best_of" "best_of" (yaq yeq) (yap yeq) (yaa yeq) .none j31 n31 p31 e31 r31 s31),g31⟩)
 (c31:W.codeIn K r31 "best_of" = true)
 (k31:W.keepIn K (.ref f31)=true)
 (a32:W.nsIn K mainGlobals "best" = some (some (.ref f32)))
 (l32:K.lookup f32=some ⟨i32,d32,.func (W.fnOf "best" "best" (yaq yj2) (yap yj2) (yaa yj2) .none j32 n32 p32 e32 r32 s32),g32⟩)
 (c32:W.codeIn K r32 "best" = true)
 (k32:W.keepIn K (.ref f32)=true)
 (a33:W.nsIn K mainGlobals "_law_eldest" = some (some (.ref f33)))
 (l33:K.lookup f33=some ⟨i33,d33,.func (W.fnOf "_law_eldest" "_law_eldest" (yaq ydw) (yap ydw) (yaa ydw) .none j33 n33 p33 e33 (.ref cc33) s33),g33⟩)
 (tl33:K.lookup cc33=some ⟨tc33,to33,.fields tv33,ts33⟩)
 (tp33:tv33[11]? = some (.ref PP33))
 (hd33:W.codeHdIn K cc33 PP33=true)
 (nk33:K.lookup PP33=none)
 (mt33:PP33∈ts)
 (c33:W.codeIn K (.ref cc33) "_law_eldest" = true)
 (k33:W.keepIn K (.ref f33)=true)
 (a34:W.nsIn K mainGlobals "_law_begin" = some (some (.ref f34)))
 (l34:K.lookup f34=some ⟨i34,d34,.func (W.fnOf "_law_begin" "_law_begin" (yaq ygt) (yap ygt) (yaa ygt) .none j34 n34 p34 e34 r34 s34),g34⟩)
 (c34:W.codeIn K r34 "_law_begin" = true)
 (k34:W.keepIn K (.ref f34)=true)
 (a35:W.nsIn K mainGlobals "_law_pick" = some (some (.ref f35)))
 (l35:K.lookup f35=some ⟨i35,d35,.func (W.fnOf "_law_pick" "_law_pick" (yaq yjt) (yap yjt) (yaa yjt) .none j35 n35 p35 e35 r35 s35),g35⟩)
 (c35:W.codeIn K r35 "_law_pick" = true)
 (k35:W.keepIn K (.ref f35)=true)
 (a36:W.nsIn K mainGlobals "_law_span" = some (some (.ref f36)))
 (l36:K.lookup f36=some ⟨i36,d36,.func (W.fnOf "_law_span" "_law_span" (yaq yjv) (yap yjv) (yaa yjv) .none j36 n36 p36 e36 r36 s36),g36⟩)
 (c36:W.codeIn K r36 "_law_span" = true)
 (k36:W.keepIn K (.ref f36)=true)
 (a37:W.nsIn K mainGlobals "_law_some_term" = some (some (.ref f37)))
 (l37:K.lookup f37=some ⟨i37,d37,.func (W.fnOf "_law_some_term" "_law_some_term" (yaq ydc) (yap ydc) (yaa ydc) .none j37 n37 p37 e37 r37 s37),g37⟩)
 (c37:W.codeIn K r37 "_law_some_term" = true)
 (k37:W.keepIn K (.ref f37)=true)
 (a38:W.nsIn K mainGlobals "_law_some_lots" = some (some (.ref f38)))
 (l38:K.lookup f38=some ⟨i38,d38,.func (W.fnOf "_law_some_lots" "_law_some_lots" (yaq ydd) (yap ydd) (yaa ydd) .none j38 n38 p38 e38 r38 s38),g38⟩)
 (c38:W.codeIn K r38 "_law_some_lots" = true)
 (k38:W.keepIn K (.ref f38)=true)
 (a39:W.nsIn K mainGlobals "_law_some_outs" = some (some (.ref f39)))
 (l39:K.lookup f39=some ⟨i39,d39,.func (W.fnOf "_law_some_outs" "_law_some_outs" (yaq yde) (yap yde) (yaa yde) .none j39 n39 p39 e39 r39 s39),g39⟩)
 (c39:W.codeIn K r39 "_law_some_outs" = true)
 (k39:W.keepIn K (.ref f39)=true)
 (a40:W.nsIn K mainGlobals "_law_case" = some (some (.ref f40)))
 (l40:K.lookup f40=some ⟨i40,d40,.func (W.fnOf "_law_case" "_law_case" (yaq yjw) (yap yjw) (yaa yjw) .none j40 n40 p40 e40 r40 s40),g40⟩)
 (c40:W.codeIn K r40 "_law_case" = true)
 (k40:W.keepIn K (.ref f40)=true)
 (a41:W.nsIn K mainGlobals "_law_same" = some (some (.ref f41)))
 (l41:K.lookup f41=some ⟨i41,d41,.func (W.fnOf "_law_same" "_law_same" (yaq yhi) (yap yhi) (yaa yhi) .none j41 n41 p41 e41 r41 s41),g41⟩)
 (c41:W.codeIn K r41 "_law_same" = true)
 (k41:W.keepIn K (.ref f41)=true)
 (a42:W.nsIn K mainGlobals "_law_walked" = some (some (.ref f42)))
 (l42:K.lookup f42=some ⟨i42,d42,.func (W.fnOf "_law_walked" "_law_walked" (yaq yd2) (yap yd2) (yaa yd2) .none j42 n42 p42 e42 r42 s42),g42⟩)
 (c42:W.codeIn K r42 "_law_walked" = true)
 (k42:W.keepIn K (.ref f42)=true)
 (a43:W.nsIn K mainGlobals "law" = some (some (.ref f43)))
 (l43:K.lookup f43=some ⟨i43,d43,.func (W.fnOf "law" "law" (yaq yjk) (yap yjk) (yaa yjk) .none j43 n43 p43 e43 r43 s43),g43⟩)
 (c43:W.codeIn K r43 "law" = true)
 (k43:W.keepIn K (.ref f43)=true)
 (z_len:W.nsIn K mainGlobals "len" = some none)
 (z_list:W.nsIn K mainGlobals "list" = some none)
 (z_isi:W.nsIn K mainGlobals "isinstance" = some none)
 (z_bool:W.nsIn K mainGlobals "bool" = some none)
 (z_int:W.nsIn K mainGlobals "int" = some none)
 (z_str:W.nsIn K mainGlobals "str" = some none)
 (z_tuple:W.nsIn K mainGlobals "tuple" = some none)
 (z_all:W.nsIn K mainGlobals "all" = some none)
 (z_any:W.nsIn K mainGlobals "any" = some none)
 (z_zip:W.nsIn K mainGlobals "zip" = some none)
 (z_range:W.nsIn K mainGlobals "range" = some none)
 (z_max:W.nsIn K mainGlobals "max" = some none)
 (z_min:W.nsIn K mainGlobals "min" = some none)
 (z_enumerate:W.nsIn K mainGlobals "enumerate" = some none)
 (z_sum:W.nsIn K mainGlobals "sum" = some none)
 (z_sorted:W.nsIn K mainGlobals "sorted" = some none)
 (z_verr:W.nsIn K mainGlobals "ValueError" = some none)
 (z_set:W.nsIn K mainGlobals "set" = some none)
 (g_FIRST_DAY:W.nsIn K mainGlobals "FIRST_DAY" = some (some (.int 1 u_FIRST_DAY)))
 (g_LAST_DAY:W.nsIn K mainGlobals "LAST_DAY" = some (some (.int 999 u_LAST_DAY)))
 (g_MOST_TERM:W.nsIn K mainGlobals "MOST_TERM" = some (some (.int 400 u_MOST_TERM)))
 (g_MOST_ROWS:W.nsIn K mainGlobals "MOST_ROWS" = some (some (.int 30 u_MOST_ROWS)))
 (g_MOST_COUNT:W.nsIn K mainGlobals "MOST_COUNT" = some (some (.int 10000000000 u_MOST_COUNT)))
 (g_MOST_DUTY:W.nsIn K mainGlobals "MOST_DUTY" = some (some (.int 1000000 u_MOST_DUTY)))
 (g_0:W.nsIn K mainGlobals "CustomsError" = some (some (.ref c_0)))
 (g_1:W.nsIn K mainGlobals "BadDay" = some (some (.ref c_1)))
 (g_2:W.nsIn K mainGlobals "BadTerm" = some (some (.ref c_2)))
 (g_3:W.nsIn K mainGlobals "BadCount" = some (some (.ref c_3)))
 (g_4:W.nsIn K mainGlobals "BadDuty" = some (some (.ref c_4)))
 (g_5:W.nsIn K mainGlobals "BadRows" = some (some (.ref c_5)))
 (g_6:W.nsIn K mainGlobals "BadTaken" = some (some (.ref c_7)))
 (g_7:W.nsIn K mainGlobals "NotDealable" = some (some (.ref c_8)))
 (g_8:W.nsIn K mainGlobals "NoPlace" = some (some (.ref c_9)))
 (x_1:W.excIn K c_1 vbm "ValueError.__new__" = true)
 (x_2:W.excIn K c_2 vbm "ValueError.__new__" = true)
 (x_3:W.excIn K c_3 vbm "ValueError.__new__" = true)
 (x_4:W.excIn K c_4 vbm "ValueError.__new__" = true)
 (x_5:W.excIn K c_5 vbm "ValueError.__new__" = true)
 (x_6:W.excIn K c_7 vbm "ValueError.__new__" = true)
 (x_7:W.excIn K c_8 vbm "ValueError.__new__" = true)
 (x_8:W.excIn K c_9 vbm "ValueError.__new__" = true)
 : ∃(fd:FuncData) (tb:Tbs),((tb.map (·.1)).Nodup∧∀t∈tb,t.1∈ts∧K.lookup t.1=none∧∃c,W.codeHdIn K c t.1=true)∧(∀(s:Shared) (v:Value),BindsTo s fd ⟨[v],[]⟩ [("_law_script",v)])∧∀base:Heap,K.In base→base.Ns mainGlobals mg→ylb mg base→FnOk l.prog w K mg base CX0 7 fa fd ["_law_script"] (ywb K tb):=by
 have e:=hfa.symm.trans (W.mg_of X G a43)
 cases e
 have F0:=yaz (st:=yfs) l0 c0 k0
 have F1:=yaz (st:=ydf) l1 c1 k1
 have F2:=yaz (st:=ycx) l2 c2 k2
 have F3:=yaz (st:=yg6) l3 c3 k3
 have F4:=yaz (st:=ycz) l4 c4 k4
 have F5:=yaz (st:=ycf) l5 c5 k5
 have F6:=yaz (st:=yc1) l6 c6 k6
 have F7:=yaz (st:=yb4) l7 c7 k7
 have F8:=yaz (st:=yb6) l8 c8 k8
 have F9:=yaz (st:=yb7) l9 c9 k9
 have F10:=yaz (st:=ybx) l10 c10 k10
 have F11:=yaz (st:=yel) l11 c11 k11
 have F12:=yaz (st:=ydr) l12 c12 k12
 have F13:=yaz (st:=yf4) l13 c13 k13
 have F14:=yaz (st:=yee) l14 c14 k14
 have F15:=yaz (st:=ybu) l15 c15 k15
 have F16:=yaz (st:=ybv) l16 c16 k16
 have F17:=yaz (st:=yd3) l17 c17 k17
 have F18:=yaz (st:=ydg) l18 c18 k18
 have F19:=yaz (st:=ycb) l19 c19 k19
 have F20:=yaz (st:=yef) l20 c20 k20
 have F21:=yaz (st:=ybr) l21 c21 k21
 have F22:=yaz (st:=ych) l22 c22 k22
 have F23:=yaz (st:=yer) l23 c23 k23
 have F24:=yaz (st:=ydh) l24 c24 k24
 have F25:=yaz (st:=yg7) l25 c25 k25
 have F26:=yaz (st:=yd6) l26 c26 k26
 have F27:=yaz (st:=yft) l27 c27 k27
 have F28:=yaz (st:=ycd) l28 c28 k28
 have F29:=yaz (st:=ybj) l29 c29 k29
 have F30:=yaz (st:=ycu) l30 c30 k30
 have F31:=yaz (st:=yeq) l31 c31 k31
 have F32:=yaz (st:=yj2) l32 c32 k32
 have F33:=yaz (st:=ydw) l33 c33 k33
 have F34:=yaz (st:=ygt) l34 c34 k34
 have F35:=yaz (st:=yjt) l35 c35 k35
 have F36:=yaz (st:=yjv) l36 c36 k36
 have F37:=yaz (st:=ydc) l37 c37 k37
 have F38:=yaz (st:=ydd) l38 c38 k38
 have F39:=yaz (st:=yde) l39 c39 k39
 have F40:=yaz (st:=yjw) l40 c40 k40
 have F41:=yaz (st:=yhi) l41 c41 k41
 have F42:=yaz (st:=yd2) l42 c42 k42
 have F43:=yaz (st:=yjk) l43 c43 k43
 have b0:=F0.binds (ps:=ygg) fun _ _ _ _ _ _ us hl=>match us,hl with | [_],_=>rfl
 have m0:=W.mg_of X G a0
 have b1:=F1.binds (ps:=yct) fun _ _ _ _ _ _ us hl=>match us,hl with | [_],_=>rfl
 have m1:=W.mg_of X G a1
 have b2:=F2.binds (ps:=ycy) fun _ _ _ _ _ _ us hl=>match us,hl with | [_],_=>rfl
 have m2:=W.mg_of X G a2
 have b3:=F3.binds (ps:=yit) fun _ _ _ _ _ _ us hl=>match us,hl with | [_,_],_=>rfl
 have m3:=W.mg_of X G a3
 have b4:=F4.binds (ps:=yc0) fun _ _ _ _ _ _ us hl=>match us,hl with | [_],_=>rfl
 have m4:=W.mg_of X G a4
 have b5:=F5.binds (ps:=ycg) fun _ _ _ _ _ _ us hl=>match us,hl with | [_],_=>rfl
 have m5:=W.mg_of X G a5
 have b6:=F6.binds (ps:=ydp) fun _ _ _ _ _ _ us hl=>match us,hl with | [_],_=>rfl
 have m6:=W.mg_of X G a6
 have b7:=F7.binds (ps:=yb5) fun _ _ _ _ _ _ us hl=>match us,hl with | [_],_=>rfl
 have m7:=W.mg_of X G a7
 have b8:=F8.binds (ps:=ycl) fun _ _ _ _ _ _ us hl=>match us,hl with | [_],_=>rfl
 have m8:=W.mg_of X G a8
 have b9:=F9.binds (ps:=ybt) fun _ _ _ _ _ _ us hl=>match us,hl with | [_,_,_],_=>rfl
 have m9:=W.mg_of X G a9
 have b10:=F10.binds (ps:=ycc) fun _ _ _ _ _ _ us hl=>match us,hl with | [_,_],_=>rfl
 have m10:=W.mg_of X G a10
 have b11:=F11.binds (ps:=ygl) fun _ _ _ _ _ _ us hl=>match us,hl with | [_],_=>rfl
 have m11:=W.mg_of X G a11
 have b12:=F12.binds (ps:=yfh) fun _ _ _ _ _ _ us hl=>match us,hl with | [_],_=>rfl
 have m12:=W.mg_of X G a12
 have b13:=F13.binds (ps:=yh6) fun _ _ _ _ _ _ us hl=>match us,hl with | [_,_,_],_=>rfl
 have m13:=W.mg_of X G a13
 have b14:=F14.binds (ps:=yff) fun _ _ _ _ _ _ us hl=>match us,hl with | [_],_=>rfl
 have m14:=W.mg_of X G a14
 have b15:=F15.binds (ps:=ycm) fun _ _ _ _ _ _ us hl=>match us,hl with | [_],_=>rfl
 have m15:=W.mg_of X G a15
 have b16:=F16.binds (ps:=yb8) fun _ _ _ _ _ _ us hl=>match us,hl with | [_,_,_],_=>rfl
 have m16:=W.mg_of X G a16
 have b17:=F17.binds (ps:=yd4) fun _ _ _ _ _ _ us hl=>match us,hl with | [_,_,_],_=>rfl
 have m17:=W.mg_of X G a17
 have b18:=F18.binds (ps:=yeg) fun _ _ _ _ _ _ us hl=>match us,hl with | [_,_,_,_],_=>rfl
 have m18:=W.mg_of X G a18
 have b19:=F19.binds (ps:=ydq) fun _ _ _ _ _ _ us hl=>match us,hl with | [_],_=>rfl
 have m19:=W.mg_of X G a19
 have b20:=F20.binds (ps:=yfg) fun _ _ _ _ _ _ us hl=>match us,hl with | [_,_,_],_=>rfl
 have m20:=W.mg_of X G a20
 have b21:=F21.binds (ps:=yb3) fun _ _ _ _ _ _ us hl=>match us,hl with | [_],_=>rfl
 have m21:=W.mg_of X G a21
 have b22:=F22.binds (ps:=yc6) fun _ _ _ _ _ _ us hl=>match us,hl with | [_,_],_=>rfl
 have m22:=W.mg_of X G a22
 have b23:=F23.binds (ps:=yet) fun _ _ _ _ _ _ us hl=>match us,hl with | [_,_,_],_=>rfl
 have m23:=W.mg_of X G a23
 have b24:=F24.binds (ps:=yeu) fun _ _ _ _ _ _ us hl=>match us,hl with | [_,_,_,_],_=>rfl
 have m24:=W.mg_of X G a24
 have b25:=F25.binds (ps:=yiu) fun _ _ _ _ _ _ us hl=>match us,hl with | [_,_,_,_],_=>rfl
 have m25:=W.mg_of X G a25
 have b26:=F26.binds (ps:=yew) fun _ _ _ _ _ _ us hl=>match us,hl with | [_,_,_,_],_=>rfl
 have m26:=W.mg_of X G a26
 have b27:=F27.binds (ps:=yfu) fun _ _ _ _ _ _ us hl=>match us,hl with | [_,_],_=>rfl
 have m27:=W.mg_of X G a27
 have b28:=F28.binds (ps:=ydt) fun _ _ _ _ _ _ us hl=>match us,hl with | [_,_],_=>rfl
 have m28:=W.mg_of X G a28
 have b29:=F29.binds (ps:=ydv) fun _ _ _ _ _ _ us hl=>match us,hl with | [_,_,_,_],_=>rfl
 have m29:=W.mg_of X G a29
 have b30:=F30.binds (ps:=yed) fun _ _ _ _ _ _ us hl=>match us,hl with | [_,_],_=>rfl
 have m30:=W.mg_of X G a30
 have b31:=F31.binds (ps:=yfi) fun _ _ _ _ _ _ us hl=>match us,hl with | [_,_,_],_=>rfl
 have m31:=W.mg_of X G a31
 have b32:=F32.binds (ps:=ymn) fun _ _ _ _ _ _ us hl=>match us,hl with | [_,_,_],_=>rfl
 have m32:=W.mg_of X G a32
 have b33:=F33.binds (ps:=yfn) fun _ _ _ _ _ _ us hl=>match us,hl with | [_],_=>rfl
 have m33:=W.mg_of X G a33
 have b34:=F34.binds (ps:=yhz) fun _ _ _ _ _ _ us hl=>match us,hl with | [_],_=>rfl
 have m34:=W.mg_of X G a34
 have b35:=F35.binds (ps:=yju) fun _ _ _ _ _ _ us hl=>match us,hl with | [_,_],_=>rfl
 have m35:=W.mg_of X G a35
 have b36:=F36.binds (ps:=ylx) fun _ _ _ _ _ _ us hl=>match us,hl with | [_],_=>rfl
 have m36:=W.mg_of X G a36
 have b37:=F37.binds (ps:=yd9) fun _ _ _ _ _ _ us hl=>match us,hl with | [_],_=>rfl
 have m37:=W.mg_of X G a37
 have b38:=F38.binds (ps:=yea) fun _ _ _ _ _ _ us hl=>match us,hl with | [_,_,_,_],_=>rfl
 have m38:=W.mg_of X G a38
 have b39:=F39.binds (ps:=yeb) fun _ _ _ _ _ _ us hl=>match us,hl with | [_,_,_,_],_=>rfl
 have m39:=W.mg_of X G a39
 have b40:=F40.binds (ps:=ylz) fun _ _ _ _ _ _ us hl=>match us,hl with | [_,_],_=>rfl
 have m40:=W.mg_of X G a40
 have b41:=F41.binds (ps:=yt3) fun _ _ _ _ _ _ us hl=>match us,hl with | [_,_],_=>rfl
 have m41:=W.mg_of X G a41
 have b42:=F42.binds (ps:=ygn) fun _ _ _ _ _ _ us hl=>match us,hl with | [_,_,_,_],_=>rfl
 have m42:=W.mg_of X G a42
 have B:Bn mg:=⟨W.mg_none_of X G z_len,W.mg_none_of X G z_list,W.mg_none_of X G z_isi,W.mg_none_of X G z_bool,W.mg_none_of X G z_int,W.mg_none_of X G z_str,W.mg_none_of X G z_tuple,W.mg_none_of X G z_all,W.mg_none_of X G z_any,W.mg_none_of X G z_zip,W.mg_none_of X G z_range,W.mg_none_of X G z_max,W.mg_none_of X G z_min,W.mg_none_of X G z_enumerate,W.mg_none_of X G z_sum,W.mg_none_of X G z_sorted,W.mg_none_of X G z_verr⟩
 have N_set:mg "set" = none:=W.mg_none_of X G z_set
 have TY:∃cl:Nat→Addr,Txt K mg cl:=by
  refine⟨(clF c_0 c_1 c_2 c_3 c_4 c_5 c_7 c_8 c_9),⟨⟨_,W.mg_of X G g_FIRST_DAY⟩,⟨_,W.mg_of X G g_LAST_DAY⟩,⟨_,W.mg_of X G g_MOST_TERM⟩,⟨_,W.mg_of X G g_MOST_ROWS⟩,⟨_,W.mg_of X G g_MOST_COUNT⟩,⟨_,W.mg_of X G g_MOST_DUTY⟩,W.mg_of X G g_0,W.mg_of X G g_1,W.mg_of X G g_2,W.mg_of X G g_3,W.mg_of X G g_4,W.mg_of X G g_5,W.mg_of X G g_6,W.mg_of X G g_7,W.mg_of X G g_8,x_1,x_2,x_3,x_4,x_5,x_6,x_7,x_8⟩⟩
 obtain ⟨cl,T⟩:=TY
 refine⟨W.fnOf "law" "law" (yaq yjk) (yap yjk) (yaa yjk) .none j43 n43 p43 e43 r43 s43,[(PP33,yfx,yfy)],⟨by simp,(zfm0 ⟨⟨mt33,nk33,_,hd33⟩,(fun _ h=>nomatch h)⟩)⟩,fun s v=>.of_eq rfl,fun base _ _ BM=>?_⟩
 have G0:Cal l.prog w K mg base CX0 1 "is_day" ygg ynv:=⟨⟨_,_,ysr T B F0,b0,k0,m0⟩⟩
 have G1:Cal l.prog w K mg base (CXE l.prog w) 2 "check_day" yct (yq4 (cl 1) 999):=⟨⟨_,_,yl9 T B G0 F1,b1,k1,m1⟩⟩
 have G2:Cal l.prog w K mg base (CXE l.prog w) 2 "check_term" ycy (yo5 (cl 2)):=⟨⟨_,_,ykq T B F2,b2,k2,m2⟩⟩
 have G3:Cal l.prog w K mg base (CXE l.prog w) 3 "reach" yit (yoe cl):=⟨⟨_,_,yvl T B G1 G2 F3,b3,k3,m3⟩⟩
 have G4:Cal l.prog w K mg base (CXE l.prog w) 2 "check_many" yc0 (yo2 (cl 5)):=⟨⟨_,_,ykr T B F4,b4,k4,m4⟩⟩
 have G5:Cal l.prog w K mg base (CXE l.prog w) 2 "check_count" ycg (yq4 (cl 3) 10000000000):=⟨⟨_,_,yje T B F5,b5,k5,m5⟩⟩
 have G6:Cal l.prog w K mg base (CXE l.prog w) 2 "check_duty" ydp (yq4 (cl 4) 1000000):=⟨⟨_,_,yks T B F6,b6,k6,m6⟩⟩
 have G7:Cal l.prog w K mg base (CXE l.prog w) 3 "checked_lots" yb5 (ynw (cl 5) (yh5 cl) 3):=⟨⟨_,_,yh8 T B G4 G1 G5 G6 F7,b7,k7,m7⟩⟩
 have G8:Cal l.prog w K mg base (CXE l.prog w) 3 "checked_outs" ycl (ynw (cl 5) (yh5 cl) 2):=⟨⟨_,_,yh9 T B G4 G1 G5 F8,b8,k8,m8⟩⟩
 have G9:Cal l.prog w K mg base (CXE l.prog w) 4 "checked_both" ybt (ymb cl):=⟨⟨_,_,yid T B G7 G8 G2 F9,b9,k9,m9⟩⟩
 have G10:Cal l.prog w K mg base (CXE l.prog w) 2 "checked_taken" ycc (ygx (cl 7)):=⟨⟨_,_,yhm T B F10,b10,k10,m10⟩⟩
 have G11:Cal l.prog w K mg base CX0 1 "eldest" ygl (yp5 keyE okE):=⟨⟨_,_,ys6 T B F11,b11,k11,m11⟩⟩
 have G12:Cal l.prog w K mg base CX0 1 "dearest" yfh (yp5 yxo okD):=⟨⟨_,_,yqj T B F12,b12,k12,m12⟩⟩
 have G13:Cal l.prog w K mg base CX0 1 "going" yh6 ykk:=⟨⟨_,_,yu2 T B F13,b13,k13,m13⟩⟩
 have G14:Cal l.prog w K mg base CX0 1 "days_of" yff ykw:=⟨⟨_,_,yqh T B F14,b14,k14,m14⟩⟩
 have G15:Cal l.prog w K mg base CX0 2 "stretches_of" ycm ye3:=⟨⟨_,_,yil T B G14 F15,b15,k15,m15⟩⟩
 have G16:Cal l.prog w K mg base CX0 3 "against_each" yb8 yd0:=⟨⟨_,_,yim T B G15 G13 F16,b16,k16,m16⟩⟩
 have G17:Cal l.prog w K mg base CX0 1 "lessened" yd4 yfw:=⟨⟨_,_,yob T B F17,b17,k17,m17⟩⟩
 have G18:Cal l.prog w K mg base CX0 4 "slacks_of" yeg yg3:=⟨⟨_,_,ymo T B G16 G17 F18,b18,k18,m18⟩⟩
 have G19:Cal l.prog w K mg base CX0 1 "none_lacks" ydq yf6:=⟨⟨_,_,yk0 T B F19,b19,k19,m19⟩⟩
 have G20:Cal l.prog w K mg base CX0 1 "free_at" yfg ykx:=⟨⟨_,_,yqi T B F20,b20,k20,m20⟩⟩
 have G21:Cal l.prog w K mg base (CXE l.prog w) 2 "check_dealable" yb3 (yir (cl 8)):=⟨⟨_,_,yg5 T B G19 F21,b21,k21,m21⟩⟩
 have G22:Cal l.prog w K mg base (CXE l.prog w) 2 "check_place" yc6 (yn2 (cl 9)):=⟨⟨_,_,yjf T B F22,b22,k22,m22⟩⟩
 have G23:Cal l.prog w K mg base CX0 4 "reaches" yet yfl:=⟨⟨_,_,yql T B G3 F23,b23,k23,m23⟩⟩
 have G24:Cal l.prog w K mg base CX0 5 "dealt_of" yeu yis:=⟨⟨_,_,yog T B G11 G23 F24,b24,k24,m24⟩⟩
 have G25:Cal l.prog w K mg base (CXE l.prog w) 6 "dealt" yiu (yof cl):=⟨⟨_,_,yvm T B G9 G10 G18 G21 G24 F25,b25,k25,m25⟩⟩
 have G26:Cal l.prog w K mg base CX0 5 "is_given" yew yk8:=⟨⟨_,_,yoi T B G23 F26,b26,k26,m26⟩⟩
 have G27:Cal l.prog w K mg base CX0 1 "summed" yfu yhq:=⟨⟨_,_,yss T B F27,b27,k27,m27⟩⟩
 have G28:Cal l.prog w K mg base CX0 1 "none_above" ydt yk9:=⟨⟨_,_,ylg T B F28,b28,k28,m28⟩⟩
 have G29:Cal l.prog w K mg base (CXE l.prog w) 6 "is_dealing" ydv (yla cl):=⟨⟨_,_,ylh T B G9 G26 G27 G28 F29,b29,k29,m29⟩⟩
 have G30:Cal l.prog w K mg base (CXE l.prog w) 4 "counts_of" yed (ygz cl):=⟨⟨_,_,yma T B G7 G22 G27 F30,b30,k30,m30⟩⟩
 have G31:Cal l.prog w K mg base CX0 4 "best_of" yfi yk2:=⟨⟨_,_,yqk T B G16 G12 G20 G17 F31,b31,k31,m31⟩⟩
 have G32:Cal l.prog w K mg base (CXE l.prog w) 5 "best" ymn (ys4 cl):=⟨⟨_,_,yx2 T B G9 G31 F32,b32,k32,m32⟩⟩
 have G33:Cal l.prog w K mg base CX0 1 "_law_eldest" yfn (ymx [(PP33,yfx,yfy)] keyE okE):=⟨⟨_,_,yqy B BM rfl hd33 (.head _) F33,b33,k33,m33⟩⟩
 have G34:Cal l.prog w K mg base CX0 1 "_law_begin" yhz (ynr K):=⟨⟨_,_,yuu F34 B,b34,k34,m34⟩⟩
 have G35:Cal l.prog w K mg base CX0 1 "_law_pick" yju ylw:=⟨⟨_,_,yxj F35 B,b35,k35,m35⟩⟩
 have G36:Cal l.prog w K mg base CX0 2 "_law_span" ylx ysb:=⟨⟨_,_,yxk B G35 F36,b36,k36,m36⟩⟩
 have G37:Cal l.prog w K mg base CX0 2 "_law_some_term" yd9 ysa:=⟨⟨_,_,yl0 B G35 F37,b37,k37,m37⟩⟩
 have G38:Cal l.prog w K mg base CX0 2 "_law_some_lots" yea ysc:=⟨⟨_,_,yl1 B G35 F38,b38,k38,m38⟩⟩
 have G39:Cal l.prog w K mg base CX0 2 "_law_some_outs" yeb ysd:=⟨⟨_,_,yl2 B G35 F39,b39,k39,m39⟩⟩
 have G40:Cal l.prog w K mg base CX0 3 "_law_case" ylz yse:=⟨⟨_,_,yxl B G35 G36 G37 G38 G39 F40,b40,k40,m40⟩⟩
 have G41:Cal l.prog w K mg base CX0 3 "_law_same" yt3 (yi3 3):=⟨⟨_,_,yt4 F41 B b41 k41 m41 3,b41,k41,m41⟩⟩
 have G42:Cal l.prog w K mg base CX0 2 "_law_walked" ygn (yli [(PP33,yfx,yfy)]):=⟨⟨_,_,yud B N_set G33 F42,b42,k42,m42⟩⟩
 exact yz8 B N_set G34 G35 G40 G41 G42 G32 G25 G29 G30 F43
theorem walk {l:W.OpenLaw}{q:Program}{loose:List Str}{XP:(Str→Option Value)→Heap→Prop}{YP:World→Heap→Prop}{d:DefRec}{K:Params→W.Frag}{ts:List Addr}(hn:l.most=some 63)(hdf:d.params.defaults=[])
 (hY:∀(w:World) (h:Heap),YP w h→(K w.params).In h∧∀P∈ts,h.get? P=some (W.tabObj #[]))
 (F:∀(w:World) (mg:Str→Option Value) (fa:Addr) (h:Heap),(K w.params).In h→h.Ns mainGlobals mg→mg d.name=some (.ref fa)→
  ∃(fd:FuncData) (tb:Tbs),((tb.map (·.1)).Nodup∧∀t∈tb,t.1∈ts∧(K w.params).lookup t.1=none∧∃c,W.codeHdIn (K w.params) c t.1=true)∧(∀(s:Shared) (u:Value),BindsTo s fd ⟨[u],[]⟩ [("_law_script",u)])∧∀base:Heap,(K w.params).In base→base.Ns mainGlobals mg→ylb mg base→FnOk l.prog w (K w.params) mg base CX0 7 fa fd ["_law_script"] (ywb (K w.params) tb)) :
 W.WalkO q loose XP YP l.row.toRowW d [] (fun f vs=>PySem.call f vs):=
 L2.walk_tab (n:=63) (k:=7) (x := "_law_script") (sp:=ywb) hn (by decide) hdf ⟨rfl,by decide,by decide⟩ hY F fun _ _ _ a ns hl hT hS=>⟨a,ns,rfl,hT,hS,hl,fun _ T'=>⟨rfl,T'⟩⟩
end K13
namespace PySem.W.Fast
def tw9017152050161753004:Nat:=0
def tw6673210262329614111:Nat:=0
def tw3929453124705784083:Nat:=0
def tw18359988731265661740:Nat:=0
def tw13090997521996207713:Nat:=0
def tw16530350479525636081:Nat:=0
def tw7074411233621356:Nat:=0
def tw5321327799231643777:Nat:=0
def tw18142563315739886177:Nat:=0
def tw13720848593759170010:Nat:=0
def tw5614059017080556380:Nat:=0
def tw10925981843588651681:Nat:=0
def tw16171975041632667310:Nat:=0
def tw13165327696288754994:Nat:=0
def tw8649826878645398073:Nat:=0
def tw13940579843336107161:Nat:=0
def tw4084344704935266857:Nat:=0
def tw1987880722776826030:Nat:=0
def tw7273837061100044639:Nat:=0
def tw18228991489066401498:Nat:=0
def tw9590052168306739432:Nat:=0
def tw18190508155807830472:Nat:=0
def tw4836575862615667331:Nat:=0
def tw6469285107036884646:Nat:=0
def tw12687530876847840366:Nat:=0
def tw9895738191973129603:Nat:=0
def tw18109603172965674476:Nat:=0
def tw11192424019152274632:Nat:=0
def tw15983324363904630856:Nat:=0
def tw7173005591729691095:Nat:=0
def tw8423077972103816812:Nat:=0
def tw18443394971039445404:Nat:=0
def tw704114233589706666:Nat:=0
def tw10945411203303084343:Nat:=0
def tw4042330167843554481:Nat:=0
def tw14154075719554592553:Nat:=0
def tw18252033654545711373:Nat:=0
def tw3765693009839919408:Nat:=0
def tw16579533213682642802:Nat:=0
def tw11526745931654731026:Nat:=0
def tw8914517801389884573:Nat:=0
def tw2211316588235476439:Nat:=0
def tw6722370656755536845:Nat:=0
def tw3332502411743984789:Nat:=0
def tw13984816731013804178:Nat:=0
def tw2638120122618428528:Nat:=0
def tw4971041690894371756:Nat:=0
def tw13656514773679969752:Nat:=0
def tw12682902711126477148:Nat:=0
def tw13948361983913017017:Nat:=0
def tw6062581380738595303:Nat:=0
def tw1478842090706718606:Nat:=0
def tw2848527661617338685:Nat:=0
def tw8721693460477934192:Nat:=0
def tw11529018333010382333:Nat:=0
def tw14648168173316411086:Nat:=0
def tw6622940868006055615:Nat:=0
def tw9133225892882338213:Nat:=0
def tw12330898521576194931:Nat:=0
def tw15977286110974999601:Nat:=0
def tw10393768867269539686:Nat:=0
def tw8061421211464491584:Nat:=0
def tw9628552529426676146:Nat:=0
def tw1227658764732451160:Nat:=0
def tw12023439066510734046:Nat:=0
def tw286409122397291836:Nat:=0
def tw4085266648192913428:Nat:=0
def tw8001492632565603349:Nat:=0
def tw3105137388408660262:Nat:=0
def tw12659776072418730975:Nat:=0
def tw15729316410788757652:Nat:=0
def tw7260419823012144486:Nat:=0
def tw4807205364496450059:Nat:=0
def tw13166664989251928615:Nat:=0
def tw8505405591749436631:Nat:=0
def tw46149108576198587:Nat:=0
def tw12227723808200235404:Nat:=0
def tw3075413201079757678:Nat:=0
def tw16702586405303911030:Nat:=0
def tw14347735147894449439:Nat:=0
def tw1159235451156902163:Nat:=0
def tw16462094913810924922:Nat:=0
def tw4994307995085554293:Nat:=0
def tw1114597023921971590:Nat:=0
def tw8240440399210491749:Nat:=0
def tw5782578509363600906:Nat:=0
def tw7190492447210813274:Nat:=0
def tw2403180046561308167:Nat:=0
def tw15897027731098305416:Nat:=0
def tw17601903295363050295:Nat:=0
def tw5571934804062758596:Nat:=0
def tw5186039418289410430:Nat:=0
def tw8098234392170649231:Nat:=0
def tw15937809776028709685:Nat:=0
def tw14735811802669466310:Nat:=0
def tw13965346636060562077:Nat:=0
def tw17526312875644467736:Nat:=0
def tw1347280555078479528:Nat:=0
def tw12226274411691335942:Nat:=0
def tw8715638178991643742:Nat:=0
def tw18266778656442574507:Nat:=0
def tw15962185857886301737:Nat:=0
def tw6870949363990225366:Nat:=0
def tw5692838046986637519:Nat:=0
def tw17847353213699314134:Nat:=0
def tw3148615056570822795:Nat:=0
def tw11851609567373905193:Nat:=0
def tw16359920965167429601:Nat:=0
def tw15557192533996697674:Nat:=0
def tw5753884689840337496:Nat:=0
def tw7934974517731402996:Nat:=0
def tw619304190874420779:Nat:=0
def tw7797319575595930608:Nat:=0
def tw10155210565193147035:Nat:=0
def tw15619059839151752646:Nat:=0
def tw17125162812325869008:Nat:=0
def tw18133678143282788041:Nat:=0
def tw15157594985170148089:Nat:=0
def tw3623608260075534832:Nat:=0
def tw9231480963446807350:Nat:=0
def tw4096930142767393305:Nat:=0
def tw2743872714503310805:Nat:=0
def tw8208711565307317026:Nat:=0
def tw4909737348117726910:Nat:=0
def tw702153429617309708:Nat:=0
def tw7066170020351295307:Nat:=0
def tw13001545665200959729:Nat:=0
def tw13654633706962845433:Nat:=0
def tw17064472509781494168:Nat:=0
def tw8078761542504988666:Nat:=0
def tw14861974497329817266:Nat:=0
def tw10321994140828661903:Nat:=0
def tw15286922607957355901:Nat:=0
def tw4083643164242907814:Nat:=0
def tw14706752137052169666:Nat:=0
def tw17302790412988028133:Nat:=0
def tw837857533208433878:Nat:=0
def tw729789910822110163:Nat:=0
def tw11649030413215252888:Nat:=0
def tw16081112521897504861:Nat:=0
def tw11079283450216953533:Nat:=0
def tw15855440666587901713:Nat:=0
def tw6333780792386036353:Nat:=0
def tw15502463705234063029:Nat:=0
def tw4122794650738252829:Nat:=0
def tw16827939805396793252:Nat:=0
def tw47426894798560319:Nat:=0
def tw5362326895770956186:Nat:=0
def tw13788858770404231659:Nat:=0
def tw17980703368710060260:Nat:=0
def tw1487030317664658615:Nat:=0
def tw8596185674985407085:Nat:=0
def tw15042848019552497792:Nat:=0
def tw6127603554153276468:Nat:=0
def tw5297835784188191556:Nat:=0
def tw6271597138893075915:Nat:=0
def tw6105332179762102213:Nat:=0
def tw12685527677249263386:Nat:=0
def tw17466456454479139548:Nat:=0
def tw14269227342657765157:Nat:=0
def tw14508660953335248039:Nat:=0
def tw10632788305780989558:Nat:=0
def tw6761138053174296600:Nat:=0
def tw4797557744938089279:Nat:=0
def tw17059522118018302432:Nat:=0
def tw15872641806033885304:Nat:=0
def tw17155455107268024398:Nat:=0
def tw9713765747578126710:Nat:=0
def tw10321920159372892279:Nat:=0
def tw3164188714021262563:Nat:=0
def tw5309833806418062852:Nat:=0
def tw15197312344880578084:Nat:=0
def tw12066597540846646578:Nat:=0
def tw16822053751830895697:Nat:=0
def tw2565526688436372440:Nat:=0
def tw17025069151830356867:Nat:=0
def tw12830463226923920271:Nat:=0
def tw13311183931797857737:Nat:=0
def tw11486014983736854930:Nat:=0
def tw16060093700353441159:Nat:=0
def tw3866503359289425921:Nat:=0
def tw14803833982902342761:Nat:=0
def tw6481235678374453550:Nat:=0
def tw11197591749891028379:Nat:=0
def tw7690396446140667494:Nat:=0
def tw2201227996669894322:Nat:=0
def tw7113785161757590566:Nat:=0
def tw17500591274921217156:Nat:=0
def tw7244157416700053810:Nat:=0
def tw2489327831565976528:Nat:=0
def tw15889843660262249972:Nat:=0
def tw7259838001856292340:Nat:=0
def tw5471975493555274456:Nat:=0
def tw7286820429584613062:Nat:=0
def tw1438042680070689316:Nat:=0
def tw102961744149820118:Nat:=0
def tw10566525145691161849:Nat:=0
def tw14883074366010136971:Nat:=0
def tw11192139858846592206:Nat:=0
def tw1456185027179357119:Nat:=0
def tw12557530294481499573:Nat:=0
def tw11395408531121483926:Nat:=0
def tw2116872109357157613:Nat:=0
def tw1902683625981265485:Nat:=0
def tw13062317697853150835:Nat:=0
def tw14249521972590386675:Nat:=0
def tw4352334964630774822:Nat:=0
def tw12626785884349075270:Nat:=0
def tw18080396225820673563:Nat:=0
def tw15639055385597932097:Nat:=0
def tw14762250121344924216:Nat:=0
def tw15313504830362356902:Nat:=0
def tw10976881015206708803:Nat:=0
def tw4599605750278699714:Nat:=0
def tw9147947682268231227:Nat:=0
def tw15023856026178589598:Nat:=0
def tw7965643028940173925:Nat:=0
def tw8543636751498353367:Nat:=0
def tw2433852028347977512:Nat:=0
def tw12425762230710142639:Nat:=0
def tw15304117716631772971:Nat:=0
def tw17134271993576898720:Nat:=0
def tw1216525350245169902:Nat:=0
def tw12419708076421509767:Nat:=0
def tw6673883675560547697:Nat:=0
def tw16984735481825290115:Nat:=0
def tw1388228469192687564:Nat:=0
def tw11513632512402545146:Nat:=0
def tw1972860623489382098:Nat:=0
def tw8153415924897579152:Nat:=0
def tw8996310148009986548:Nat:=0
def tw5862623152938146959:Nat:=0
def tw9825692116745331812:Nat:=0
def tw14411710053729419654:Nat:=0
def tw7401033281765478679:Nat:=0
def tw6696790256436874358:Nat:=0
def tw3974760043854584539:Nat:=0
def tw15802468923058315056:Nat:=0
def tw16934131132169019275:Nat:=0
def tw17357677116934130109:Nat:=0
def tw6759021166642659011:Nat:=0
def tw10056690882577229408:Nat:=0
def tw942194339811406148:Nat:=0
def tw6434438482712557217:Nat:=0
def tw15531544055470700285:Nat:=0
def tw6260404953524459903:Nat:=0
def tw9514637646526813979:Nat:=0
def tw12563747766416697202:Nat:=0
def tw7041167831652182313:Nat:=0
def tw15305159684603238798:Nat:=0
def tw3951225747758755940:Nat:=0
def tw17625867538777408222:Nat:=0
def tw7692387607201312096:Nat:=0
def tw15998125346002258517:Nat:=0
def tw9449446000309139768:Nat:=0
def tw828742355531577545:Nat:=0
def tw17726911645749214884:Nat:=0
def tw16219928149362896834:Nat:=0
def tw17675149864935095012:Nat:=0
def tw13105830434744079894:Nat:=0
def tw10655121297484926171:Nat:=0
def tw2167604807166483510:Nat:=0
def tw7193714937575738025:Nat:=0
def tw8560501311016034584:Nat:=0
def tw9012700657499313755:Nat:=0
def tw18442638328987218098:Nat:=0
def tw14813261482400979755:Nat:=0
def tw1305226441916354535:Nat:=0
def tw2183509570804428354:Nat:=0
def tw583015389982428550:Nat:=0
def tw11268231470243392807:Nat:=0
def tw10250560442990055387:Nat:=0
def tw4802120603989340789:Nat:=0
def tw11532630670269391263:Nat:=0
def tw9260462992426850527:Nat:=0
def tw4698484671938655323:Nat:=0
def tw1751313276257728940:Nat:=0
def tw11971667914799488423:Nat:=0
def tw1839004959620981884:Nat:=0
def tw8796721633252442701:Nat:=0
def tw6008916045642891181:Nat:=0
def tw17178343714221122866:Nat:=0
def tw9579437945609786280:Nat:=0
def tw6907259343457283456:Nat:=0
end PySem.W.Fast
open PySem PySem.W PyProof.Rows
set_option maxRecDepth 100000 in
set_option maxHeartbeats 0 in
theorem PySem.Challenge.cw_drawback_k13_whole_all_that_is_taken_goe_holds : PySem.Challenge.rw_drawback_k13_whole_all_that_is_taken_goe.Holds := by
 w_on;o_law;k_head;(case hw=>w_witness2)
 k_fill
 refine K13.walk (l:=PySem.Challenge.rw_drawback_k13_whole_all_that_is_taken_goe) rfl rfl (fun w h Y=>⟨PySem.W.km_in_of Y,PySem.W.km_tabs_of Y⟩) ?F
 case F=>
  intro w mg fa h KX G hmg
  refine' K13.all_mk KX G hmg ?a0 ?l0 ?c0 ?k0 ?a1 ?l1 ?c1 ?k1 ?a2 ?l2 ?c2 ?k2 ?a3 ?l3 ?c3 ?k3 ?a4 ?l4 ?c4 ?k4 ?a5 ?l5 ?c5 ?k5 ?a6 ?l6 ?c6 ?k6 ?a7 ?l7 ?c7 ?k7 ?a8 ?l8 ?c8 ?k8 ?a9 ?l9 ?c9 ?k9 ?a10 ?l10 ?c10 ?k10 ?a11 ?l11 ?c11 ?k11 ?a12 ?l12 ?c12 ?k12 ?a13 ?l13 ?c13 ?k13 ?a14 ?l14 ?c14 ?k14 ?a15 ?l15 ?c15 ?k15 ?a16 ?l16 ?c16 ?k16 ?a17 ?l17 ?c17 ?k17 ?a18 ?l18 ?c18 ?k18 ?a19 ?l19 ?c19 ?k19 ?a20 ?l20 ?c20 ?k20 ?a21 ?l21 ?c21 ?k21 ?a22 ?l22 ?c22 ?k22 ?a23 ?l23 ?c23 ?k23 ?a24 ?l24 ?c24 ?k24 ?a25 ?l25 ?c25 ?k25 ?a26 ?l26 ?c26 ?k26 ?a27 ?l27 ?c27 ?k27 ?a28 ?l28 ?c28 ?k28 ?a29 ?l29 ?c29 ?k29 ?a30 ?l30 ?c30 ?k30 ?a31 ?l31 ?c31 ?k31 ?a32 ?l32 ?c32 ?k32 ?a33 ?l33 ?tl33 ?tp33 ?hd33 ?nk33 ?mt33 ?c33 ?k33 ?a34 ?l34 ?c34 ?k34 ?a35 ?l35 ?c35 ?k35 ?a36 ?l36 ?c36 ?k36 ?a37 ?l37 ?c37 ?k37 ?a38 ?l38 ?c38 ?k38 ?a39 ?l39 ?c39 ?k39 ?a40 ?l40 ?c40 ?k40 ?a41 ?l41 ?c41 ?k41 ?a42 ?l42 ?c42 ?k42 ?a43 ?l43 ?c43 ?k43 ?z_len ?z_list ?z_isi ?z_bool ?z_int ?z_str ?z_tuple ?z_all ?z_any ?z_zip ?z_range ?z_max ?z_min ?z_enumerate ?z_sum ?z_sorted ?z_verr ?z_set ?g_FIRST_DAY ?g_LAST_DAY ?g_MOST_TERM ?g_MOST_ROWS ?g_MOST_COUNT ?g_MOST_DUTY ?g_0 ?g_1 ?g_2 ?g_3 ?g_4 ?g_5 ?g_6 ?g_7 ?g_8 ?x_1 ?x_2 ?x_3 ?x_4 ?x_5 ?x_6 ?x_7 ?x_8
  (case a0=>k_is)
  (case l0=>k_is)
  (case c0=>k_is)
  (case k0=>k_is)
  (case a1=>k_is)
  (case l1=>k_is)
  (case c1=>k_is)
  (case k1=>k_is)
  (case a2=>k_is)
  (case l2=>k_is)
  (case c2=>k_is)
  (case k2=>k_is)
  (case a3=>k_is)
  (case l3=>k_is)
  (case c3=>k_is)
  (case k3=>k_is)
  (case a4=>k_is)
  (case l4=>k_is)
  (case c4=>k_is)
  (case k4=>k_is)
  (case a5=>k_is)
  (case l5=>k_is)
  (case c5=>k_is)
  (case k5=>k_is)
  (case a6=>k_is)
  (case l6=>k_is)
  (case c6=>k_is)
  (case k6=>k_is)
  (case a7=>k_is)
  (case l7=>k_is)
  (case c7=>k_is)
  (case k7=>k_is)
  (case a8=>k_is)
  (case l8=>k_is)
  (case c8=>k_is)
  (case k8=>k_is)
  (case a9=>k_is)
  (case l9=>k_is)
  (case c9=>k_is)
  (case k9=>k_is)
  (case a10=>k_is)
  (case l10=>k_is)
  (case c10=>k_is)
  (case k10=>k_is)
  (case a11=>k_is)
  (case l11=>k_is)
  (case c11=>k_is)
  (case k11=>k_is)
  (case a12=>k_is)
  (case l12=>k_is)
  (case c12=>k_is)
  (case k12=>k_is)
  (case a13=>k_is)
  (case l13=>k_is)
  (case c13=>k_is)
  (case k13=>k_is)
  (case a14=>k_is)
  (case l14=>k_is)
  (case c14=>k_is)
  (case k14=>k_is)
  (case a15=>k_is)
  (case l15=>k_is)
  (case c15=>k_is)
  (case k15=>k_is)
  (case a16=>k_is)
  (case l16=>k_is)
  (case c16=>k_is)
  (case k16=>k_is)
  (case a17=>k_is)
  (case l17=>k_is)
  (case c17=>k_is)
  (case k17=>k_is)
  (case a18=>k_is)
  (case l18=>k_is)
  (case c18=>k_is)
  (case k18=>k_is)
  (case a19=>k_is)
  (case l19=>k_is)
  (case c19=>k_is)
  (case k19=>k_is)
  (case a20=>k_is)
  (case l20=>k_is)
  (case c20=>k_is)
  (case k20=>k_is)
  (case a21=>k_is)
  (case l21=>k_is)
  (case c21=>k_is)
  (case k21=>k_is)
  (case a22=>k_is)
  (case l22=>k_is)
  (case c22=>k_is)
  (case k22=>k_is)
  (case a23=>k_is)
  (case l23=>k_is)
  (case c23=>k_is)
  (case k23=>k_is)
  (case a24=>k_is)
  (case l24=>k_is)
  (case c24=>k_is)
  (case k24=>k_is)
  (case a25=>k_is)
  (case l25=>k_is)
  (case c25=>k_is)
  (case k25=>k_is)
  (case a26=>k_is)
  (case l26=>k_is)
  (case c26=>k_is)
  (case k26=>k_is)
  (case a27=>k_is)
  (case l27=>k_is)
  (case c27=>k_is)
  (case k27=>k_is)
  (case a28=>k_is)
  (case l28=>k_is)
  (case c28=>k_is)
  (case k28=>k_is)
  (case a29=>k_is)
  (case l29=>k_is)
  (case c29=>k_is)
  (case k29=>k_is)
  (case a30=>k_is)
  (case l30=>k_is)
  (case c30=>k_is)
  (case k30=>k_is)
  (case a31=>k_is)
  (case l31=>k_is)
  (case c31=>k_is)
  (case k31=>k_is)
  (case a32=>k_is)
  (case l32=>k_is)
  (case c32=>k_is)
  (case k32=>k_is)
  (case a33=>k_is)
  (case l33=>k_is)
  (case tl33=>k_is)
  (case tp33=>exact rfl)
  (case hd33=>kernel_rfl)
  (case nk33=>kernel_rfl)
  (case mt33=>first|k_mem|decide)
  (case c33=>k_is)
  (case k33=>k_is)
  (case a34=>k_is)
  (case l34=>k_is)
  (case c34=>k_is)
  (case k34=>k_is)
  (case a35=>k_is)
  (case l35=>k_is)
  (case c35=>k_is)
  (case k35=>k_is)
  (case a36=>k_is)
  (case l36=>k_is)
  (case c36=>k_is)
  (case k36=>k_is)
  (case a37=>k_is)
  (case l37=>k_is)
  (case c37=>k_is)
  (case k37=>k_is)
  (case a38=>k_is)
  (case l38=>k_is)
  (case c38=>k_is)
  (case k38=>k_is)
  (case a39=>k_is)
  (case l39=>k_is)
  (case c39=>k_is)
  (case k39=>k_is)
  (case a40=>k_is)
  (case l40=>k_is)
  (case c40=>k_is)
  (case k40=>k_is)
  (case a41=>k_is)
  (case l41=>k_is)
  (case c41=>k_is)
  (case k41=>k_is)
  (case a42=>k_is)
  (case l42=>k_is)
  (case c42=>k_is)
  (case k42=>k_is)
  (case a43=>k_is)
  (case l43=>k_is)
  (case c43=>k_is)
  (case k43=>k_is)
  (case z_len=>k_is)
  (case z_list=>k_is)
  (case z_isi=>k_is)
  (case z_bool=>k_is)
  (case z_int=>k_is)
  (case z_str=>k_is)
  (case z_tuple=>k_is)
  (case z_all=>k_is)
  (case z_any=>k_is)
  (case z_zip=>k_is)
  (case z_range=>k_is)
  (case z_max=>k_is)
  (case z_min=>k_is)
  (case z_enumerate=>k_is)
  (case z_sum=>k_is)
  (case z_sorted=>k_is)
  (case z_verr=>k_is)
  (case z_set=>k_is)
  (case g_FIRST_DAY=>k_is)
  (case g_LAST_DAY=>k_is)
  (case g_MOST_TERM=>k_is)
  (case g_MOST_ROWS=>k_is)
  (case g_MOST_COUNT=>k_is)
  (case g_MOST_DUTY=>k_is)
  (case g_0=>k_is)
  (case g_1=>k_is)
  (case g_2=>k_is)
  (case g_3=>k_is)
  (case g_4=>k_is)
  (case g_5=>k_is)
  (case g_6=>k_is)
  (case g_7=>k_is)
  (case g_8=>k_is)
  (case x_1=>first|k_is|k_exc)
  (case x_2=>first|k_is|k_exc)
  (case x_3=>first|k_is|k_exc)
  (case x_4=>first|k_is|k_exc)
  (case x_5=>first|k_is|k_exc)
  (case x_6=>first|k_is|k_exc)
  (case x_7=>first|k_is|k_exc)
  (case x_8=>first|k_is|k_exc)
