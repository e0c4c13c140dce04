import PyProof.Rows.All
import Wide.All
import OpenK.AllK
import Wide.FinOn
import Lean
import PyProof.EqAt
import PyProof.EqKinds
import PyProof.TupleCall
import PySem.Challenge.RW_drawback_k17_papers_judged
set_option Elab.async false
set_option linter.all false
set_option maxRecDepth 100000
/-! THE HAND LAYER, for ints, bools, texts, own classes, LISTS and tuples (index, slices, in, append, pop ..), calls, loops. Paste it whole ahead of your own text; what your proof does not reach may be deleted. -/
namespace L2
open PySem PySem.Spec PyProof.Rows
/-- a key: an int or a str -/
abbrev Key := Sum Int Str
def keyIs : Key → Value → Bool
  | .inl k, v => Value.isInt k v
  | .inr x, v => Value.isStrOf x v
def keyH (w : World) : Key → Int
  | .inl k => hashInt k
  | .inr x => hashStr w x
theorem keyIs_shape : ∀ {k : Key} {v : Value}, keyIs k v = true → (∃ i t, k = Sum.inl i ∧ v = Value.int i t) ∨ (∃ x t, k = Sum.inr x ∧ v = Value.str x t)
  | .inl i, v, h => by
    obtain ⟨t, e⟩ := Value.isInt_shape (k := i) (v := v) h
    exact .inl ⟨i, t, rfl, e⟩
  | .inr x, v, h => by
    obtain ⟨t, e⟩ := Value.isStrOf_shape (x := x) (v := v) h
    exact .inr ⟨x, t, rfl, e⟩
theorem keyIs_int (i : Int) (t : Tok) : keyIs (.inl i) (.int i t) = true := by simp [keyIs, Value.isInt]
theorem keyIs_str (x : Str) (t : Tok) : keyIs (.inr x) (.str x t) = true := by simp [keyIs, Value.isStrOf]
theorem key_ll (a b : Int) : decide ((Sum.inl a : Key) = Sum.inl b) = (a == b) := by
  by_cases e : a = b
  · subst e; simp
  · have h : ¬ (Sum.inl a : Key) = Sum.inl b := fun q => e (Sum.inl.inj q)
    rw [decide_eq_false h]
    exact (beq_eq_false_iff_ne.mpr e).symm
theorem key_rr (a b : Str) : decide ((Sum.inr a : Key) = Sum.inr b) = decide (a = b) := by
  by_cases e : a = b
  · subst e; simp
  · have h : ¬ (Sum.inr a : Key) = Sum.inr b := fun q => e (Sum.inr.inj q)
    rw [decide_eq_false h, decide_eq_false e]
theorem key_lr (a : Int) (b : Str) : decide ((Sum.inl a : Key) = Sum.inr b) = false := decide_eq_false (fun q => nomatch q)
theorem key_rl (a : Str) (b : Int) : decide ((Sum.inr a : Key) = Sum.inl b) = false := decide_eq_false (fun q => nomatch q)
def mixKind (prog : Program) (w : World) : PySem.KeyKind prog w Key where
  is := keyIs
  hash := keyH w
  inj := fun v a b ha hb => by
    rcases keyIs_shape ha with ⟨i, t, rfl, rfl⟩ | ⟨x, t, rfl, rfl⟩
    · rcases keyIs_shape hb with ⟨j, u, rfl, e⟩ | ⟨y, u, rfl, e⟩
      · injection e with e1 _; rw [e1]
      · exact nomatch e
    · rcases keyIs_shape hb with ⟨j, u, rfl, e⟩ | ⟨y, u, rfl, e⟩
      · exact nomatch e
      · injection e with e1 _; rw [e1]
  byValue := fun k v h => by
    rcases keyIs_shape h with ⟨i, t, rfl, rfl⟩ | ⟨x, t, rfl, rfl⟩ <;> rfl
  pyHash := fun hv h => by
    rcases keyIs_shape hv with ⟨i, t, rfl, rfl⟩ | ⟨x, t, rfl, rfl⟩
    · exact wpAny_pyHash_int h
    · exact wpAny_pyHash_str h
  eqBool := fun hu hv h => by
    rcases keyIs_shape hu with ⟨i, t, rfl, rfl⟩ | ⟨x, t, rfl, rfl⟩
    · rcases keyIs_shape hv with ⟨j, u, rfl, rfl⟩ | ⟨y, u, rfl, rfl⟩
      · rw [key_ll] at h; exact wpAny_eqBool_int h
      · rw [key_lr] at h; exact SeqAt.EqAt.int_str i t y u _ _ _ _ h
    · rcases keyIs_shape hv with ⟨j, u, rfl, rfl⟩ | ⟨y, u, rfl, rfl⟩
      · rw [key_rl] at h; exact SeqAt.EqAt.str_int x t j u _ _ _ _ h
      · rw [key_rr] at h; exact wpAny_eqBool_str h
  «strs» := fun k x t v h => by
    rcases keyIs_shape h with ⟨i, u, rfl, e⟩ | ⟨y, u, rfl, e⟩
    · exact nomatch e
    · injection e with e1 _
      subst e1
      cases v <;> rfl
theorem mixKind_is (prog : Program) (w : World) (k : Key) (v : Value) : (mixKind prog w).is k v = keyIs k v := rfl
theorem mixKind_int (prog : Program) (w : World) (i : Int) (t : Tok) : (mixKind prog w).is (.inl i) (.int i t) = true := keyIs_int i t
theorem mixKind_str (prog : Program) (w : World) (x : Str) (t : Tok) : (mixKind prog w).is (.inr x) (.str x t) = true := keyIs_str x t
end L2
namespace L2
open PySem PySem.Spec PyProof.Rows
/-- a value, without the heap -/
inductive V where
  | non | bl (b : Bool) | int (i : Int) | str (x : Str) | byt (b : Array UInt8) | flt (b : UInt64) | ref (a : Addr) | ty (n : String)
  deriving DecidableEq
def RelV : V → Value → Prop
  | .non, u => u = Value.none
  | .bl b, u => u = Value.bool b
  | .int i, u => ∃ t, u = Value.int i t
  | .str x, u => ∃ t, u = Value.str x t
  | .byt b, u => ∃ t, u = Value.bytes b t
  | .flt b, u => ∃ t, u = Value.float b t
  | .ref a, u => u = Value.ref a
  | .ty n, u => u = Value.type n
abbrev Vals : List V → List Value → Prop := Paired RelV
theorem Vals.length {xs : List V} {us : List Value} (r : Vals xs us) : xs.length = us.length := Paired.length r
theorem Vals.get : ∀ {xs : List V} {us : List Value} {i : Nat} {x : V}, Vals xs us → xs[i]? = some x → ∃ u, us[i]? = some u ∧ RelV x u
  | _, _, _, _, .nil, e => by simp at e
  | _, _, 0, _, .cons r _, e => by simp at e; subst e; exact ⟨_, rfl, r⟩
  | _, _, i + 1, x, .cons _ t, e => by
    obtain ⟨u, h1, h2⟩ := Vals.get (i := i) (x := x) t (by simpa using e)
    exact ⟨u, by simpa using h1, h2⟩
theorem Vals.set {x : V} {u : Value} (r : RelV x u) : ∀ {xs : List V} {us : List Value} (i : Nat), Vals xs us → Vals (xs.set i x) (us.set i u)
  | _, _, _, .nil => .nil
  | _, _, 0, .cons _ t => .cons r t
  | _, _, i + 1, .cons q t => .cons q (Vals.set r i t)
theorem Vals.append : ∀ {xs ys : List V} {us ws : List Value}, Vals xs us → Vals ys ws → Vals (xs ++ ys) (us ++ ws)
  | _, _, _, _, .nil, s => s
  | _, _, _, _, .cons r t, s => .cons r (Vals.append t s)
theorem Vals.take : ∀ {xs : List V} {us : List Value} (n : Nat), Vals xs us → Vals (xs.take n) (us.take n)
  | _, _, 0, _ => .nil
  | _, _, _ + 1, .nil => .nil
  | _, _, n + 1, .cons r t => .cons r (Vals.take n t)
theorem Vals.drop : ∀ {xs : List V} {us : List Value} (n : Nat), Vals xs us → Vals (xs.drop n) (us.drop n)
  | _, _, 0, r => r
  | _, _, _ + 1, .nil => .nil
  | _, _, n + 1, .cons _ t => Vals.drop n t
theorem Vals.none_of : ∀ {xs : List V} {us : List Value} {i : Nat}, Vals xs us → xs[i]? = none → us[i]? = none := fun {xs us i} r e => by
  have h1 := r.length
  have h2 : xs.length ≤ i := List.getElem?_eq_none_iff.mp e
  exact List.getElem?_eq_none_iff.mpr (by omega)
def RelO : Option V → Option Value → Prop
  | some v, some u => RelV v u
  | none, none => True
  | _, _ => False
def KV {κ : Type} : List (κ × V) → List (κ × Value) → Prop := Paired fun (p : κ × V) (q : κ × Value) => p.1 = q.1 ∧ RelV p.2 q.2
/-- a key of a dict (00_mix): an int or a text -/
def kV : Key → V
  | .inl i => .int i
  | .inr x => .str x
/-- what stands at a tracked address -/
inductive HO where
  /-- a list -/
  | lst (xs : List V)
  /-- a tuple (never changes) -/
  | tup (xs : List V)
  /-- a dict whose keys are ints and texts; one whose keys are tuples of ints and texts (the empty one is both) -/
  | dK (kvs : List (Key × V)) | dT (kvs : List (List Key × V))
  /-- a set of ints: its members, its size -/
  | set (S : Int → Bool) (n : Nat)
  /-- an instance of the class at C, its dict at dx, its attributes -/
  | ins (C dx : Addr) (fs : List (Str × V))
  /-- the dict of the instance at x -/
  | own (x : Addr)
  /-- the dict of an exception -/
  | xd (fs : List (Str × V))
  /-- a bound method, f of x -/
  | met (f x : Addr)
  /-- a range object lo, lo + 1, .. below hi -/
  | rng (lo hi : Int)
  /-- a thing that is known to the object (the script; a dict while a loop walks it): read, never written while it is so -/
  | frz (o : Obj) (u : HO)
  /-- a code object's table -/
  | tbl (ps : Array Value)
  /-- any other thing, by what is true of its one object (a def of one's own: SetO a S n := HO.ext fun h => ..) -/
  | ext (φ : Heap → Prop)
abbrev Hp := Addr → Option HO
def upd (H : Hp) (a : Addr) (o : HO) : Hp := fun b => if b = a then some o else H b
theorem upd_same {H : Hp} {a : Addr} {o : HO} : upd H a o a = some o := by unfold upd; rw [if_pos rfl]
theorem upd_ne {H : Hp} {a b : Addr} {o : HO} (h : b ≠ a) : upd H a o b = H b := by unfold upd; rw [if_neg h]
theorem upd_upd {H : Hp} {a : Addr} {o u : HO} : upd (upd H a o) a u = upd H a u := by
  funext b; unfold upd; split <;> rfl
/-- two objects of different content stand apart -/
theorem ne_of {H : Hp} {a b : Addr} {o u : HO} (h : H a = some o) (h' : H b = some u) (d : o ≠ u) : a ≠ b := by
  intro e; subst e; rw [h] at h'; exact d (Option.some.inj h')
theorem ne_of_none {H : Hp} {a b : Addr} {o : HO} (h : H a = some o) (h' : H b = none) : a ≠ b := by
  intro e; subst e; rw [h] at h'; cases h'
section
variable (P : Program) (w : World)
def ObjOk (H : Hp) (h : Heap) (a : Addr) : HO → Prop
  | .lst xs => xs.length ≤ sizeLine ∧ ∃ (its : List Value) (n : Nat), Vals xs its ∧ h.get? a = some { cls := .type "list", data := .seq its.toArray n }
  | .tup xs => xs.length ≤ sizeLine ∧ ∃ its : List Value, Vals xs its ∧ IsTup h a its.toArray
  | .dK kvs => kvs.length ≤ sizeLine ∧ (a == sysModules) = false ∧ ∃ vs, KV kvs vs ∧ h.DictOf (mixKind P w) a vs
  | .dT kvs => kvs.length ≤ sizeLine ∧ (a == sysModules) = false ∧ ∃ xs : List (List Key × Addr × Value),
      Paired (fun (p : List Key × V) (q : List Key × Addr × Value) => p.1 = q.1 ∧ H q.2.1 = some (.tup (p.1.map kV)) ∧ RelV p.2 q.2.2) kvs xs ∧
      ∃ o es ep, h.get? a = some o ∧ o.ExactDict ∧ o.data = .dict es ep ∧ es.toList = xs.map (entryOfKey (tupleKind (mixKind P w))) ∧ (xs.map (·.1)).Nodup
  | .set S n => h.SetOf (intKind P w) a S n
  | .ins C dx fs => H dx = some (.own a) ∧ fs.length ≤ 1000 ∧ dx ≠ a ∧ h.get? a = some (PySem.W.instObj C dx) ∧
      ∃ mA, h.Ns1 dx mA ∧ (∀ f, RelO (fs.lookup f) (mA f)) ∧ PySem.Within mA (fs.map (·.1))
  | .own _ => ∃ o, h.get? a = some o
  | .xd fs => ∃ mA, h.Ns1 a mA ∧ ∀ f, RelO (fs.lookup f) (mA f)
  | .rng lo hi => ∃ t u v, h.get? a = some { cls := .type "range", data := .fields #[.int lo t, .int hi u, .int 1 v] }
  | .frz o u => h.get? a = some o ∧ ObjOk H h a u
  | .tbl ps => h.get? a = some { cls := .none, data := .fields ps }
  | .met f x => h.get? a = some (PySem.W.methodObj (.ref f) (.ref x))
  | .ext φ => φ h ∧ (∃ o, h.get? a = some o) ∧ ∀ h1 h2 : Heap, φ h1 → (∀ o, h1.get? a = some o → h2.get? a = some o) → φ h2
/-- the abstract heap is held -/
def HOk (H : Hp) (h : Heap) : Prop := ∀ a o, H a = some o → ObjOk P w H h a o
end
section
variable {P : Program} {w : World} {H H' : Hp} {h h' : Heap} {a : Addr} {o : HO}
theorem ObjOk.lt (x : ObjOk P w H h a o) : a < h.objs.size := by
  cases o with
  | lst xs => obtain ⟨_, _, _, _, e⟩ := x; exact Heap.lt_size e
  | tup xs => obtain ⟨_, _, _, p⟩ := x; exact p.lt
  | dK kvs => obtain ⟨_, _, _, _, o, _, _, e, _⟩ := x; exact Heap.lt_size e
  | dT kvs => obtain ⟨_, _, _, _, o, _, _, e, _⟩ := x; exact Heap.lt_size e
  | set S n => obtain ⟨o, _, _, _, e, _⟩ := x; exact Heap.lt_size e
  | ins C dx fs => obtain ⟨_, _, _, e, _⟩ := x; exact Heap.lt_size e
  | own y => obtain ⟨_, e⟩ := x; exact Heap.lt_size e
  | xd fs => obtain ⟨_, ⟨_, _, _, e, _⟩, _⟩ := x; exact Heap.lt_size e
  | rng lo hi => obtain ⟨_, _, _, e⟩ := x; exact Heap.lt_size e
  | frz ob u => obtain ⟨e, _⟩ := x; exact Heap.lt_size e
  | tbl ps => exact Heap.lt_size (show h.get? a = some _ from x)
  | met f y => exact Heap.lt_size (show h.get? a = some _ from x)
  | ext φ => obtain ⟨_, ⟨_, e⟩, _⟩ := x; exact Heap.lt_size e
theorem Paired.mapP {α β : Type} {F G : α → β → Prop} : ∀ {l₁ : List α} {l₂ : List β}, Paired F l₁ l₂ → (∀ a b, F a b → G a b) → Paired G l₁ l₂
  | _, _, .nil, _ => .nil
  | _, _, .cons r t, f => .cons (f _ _ r) (Paired.mapP t f)
theorem Paired.imp' {α β : Type} {F G : α → β → Prop} (f : ∀ a b, F a b → G a b) {l₁ : List α} {l₂ : List β} (r : Paired F l₁ l₂) : Paired G l₁ l₂ := Paired.mapP r f
/-- what an object's description leans on: its own object, its own dict, the tuples -/
theorem ObjOk.stay (x : ObjOk P w H h a o) (k : ∀ b u, (b = a ∨ H b = some (.own a)) → h.get? b = some u → h'.get? b = some u)
    (ho : ∀ b, H b = some (.own a) → H' b = some (.own a)) (ht : ∀ b xs, H b = some (.tup xs) → H' b = some (.tup xs)) : ObjOk P w H' h' a o := by
  induction o with
  | lst xs => obtain ⟨z, its, n, r, e⟩ := x; exact ⟨z, its, n, r, k _ _ (.inl rfl) e⟩
  | tup xs => obtain ⟨z, its, r, ob, e, c⟩ := x; exact ⟨z, its, r, ob, k _ _ (.inl rfl) e, c⟩
  | dK kvs => obtain ⟨z, y, vs, r, ob, es, ep, e, c⟩ := x; exact ⟨z, y, vs, r, ob, es, ep, k _ _ (.inl rfl) e, c⟩
  | dT kvs =>
    obtain ⟨z, y, xs, r, ob, es, ep, e, c⟩ := x
    exact ⟨z, y, xs, Paired.mapP r fun p q z => ⟨z.1, ht _ _ z.2.1, z.2.2⟩, ob, es, ep, k _ _ (.inl rfl) e, c⟩
  | set S n => obtain ⟨ob, es, ep, t, e, c⟩ := x; exact ⟨ob, es, ep, t, k _ _ (.inl rfl) e, c⟩
  | ins C dx fs =>
    obtain ⟨d, z, ne, e, mA, ⟨od, es, ep, e2, c⟩, r⟩ := x
    exact ⟨ho _ d, z, ne, k _ _ (.inl rfl) e, mA, ⟨od, es, ep, k _ _ (.inr d) e2, c⟩, r⟩
  | own y => obtain ⟨ob, e⟩ := x; exact ⟨ob, k _ _ (.inl rfl) e⟩
  | xd fs => obtain ⟨mA, ⟨od, es, ep, e, c⟩, r⟩ := x; exact ⟨mA, ⟨od, es, ep, k _ _ (.inl rfl) e, c⟩, r⟩
  | rng lo hi => obtain ⟨t, u, v, e⟩ := x; exact ⟨t, u, v, k _ _ (.inl rfl) e⟩
  | frz ob u ih => obtain ⟨e, q⟩ := x; exact ⟨k _ _ (.inl rfl) e, ih q⟩
  | tbl ps =>
    have e : h.get? a = some { cls := .none, data := .fields ps } := x
    show h'.get? a = some { cls := .none, data := .fields ps }
    exact k a _ (.inl rfl) e
  | met f y =>
    have e : h.get? a = some (PySem.W.methodObj (.ref f) (.ref y)) := x
    show h'.get? a = some (PySem.W.methodObj (.ref f) (.ref y))
    exact k a _ (.inl rfl) e
  | ext φ => obtain ⟨p, ⟨o, e⟩, st⟩ := x; exact ⟨st _ _ p fun o q => k _ _ (.inl rfl) q, ⟨o, k _ _ (.inl rfl) e⟩, st⟩
theorem HOk.lt (x : HOk P w H h) (e : H a = some o) : a < h.objs.size := (x a o e).lt
theorem HOk.fresh (x : HOk P w H h) (e : h.objs.size ≤ a) : H a = none := by
  cases q : H a with
  | none => rfl
  | some u => exact absurd (Nat.lt_of_lt_of_le (x.lt q) e) (Nat.lt_irrefl _)
/-- every object of the heap is kept -/
theorem HOk.kept (x : HOk P w H h) (k : ∀ b u, h.get? b = some u → h'.get? b = some u) : HOk P w H h' := fun a o e =>
  (x a o e).stay (fun b u _ q => k b u q) (fun _ q => q) fun _ _ q => q
/-- a new object is laid and tracked -/
theorem HOk.laid (x : HOk P w H h) (k : ∀ b u, h.get? b = some u → h'.get? b = some u) (hp : h.objs.size ≤ a) (new : ObjOk P w (upd H a o) h' a o) : HOk P w (upd H a o) h' := fun b u e => by
  have hn := x.fresh hp
  by_cases hb : b = a
  · subst hb; rw [upd_same] at e; cases e; exact new
  · rw [upd_ne hb] at e
    exact (x b u e).stay (fun c v _ q => k c v q) (fun c q => by rw [upd_ne (ne_of_none q hn)]; exact q) fun c xs q => by rw [upd_ne (ne_of_none q hn)]; exact q
end
/-- what may be read as u: it is u, or a known u -/
def Rd (H : Hp) (a : Addr) (u : HO) : Prop := H a = some u ∨ ∃ o, H a = some (.frz o u)
theorem Rd.of {H : Hp} {a : Addr} {u : HO} (h : H a = some u) : Rd H a u := .inl h
theorem Rd.ok {P : Program} {w : World} {H : Hp} {h : Heap} {a : Addr} {u : HO} (r : Rd H a u) (x : HOk P w H h) : ObjOk P w H h a u := by
  rcases r with r | ⟨o, r⟩
  · exact x a u r
  · obtain ⟨_, q⟩ := x a _ r
    exact q
/-- what may be written -/
def Mut : Option HO → Prop
  | some (.lst _) => True
  | some (.dK _) => True
  | some (.dT _) => True
  | some (.set _ _) => True
  | some (.ins _ _ _) => True
  | some (.ext _) => True
  | _ => False
section
variable {P : Program} {w : World} {H : Hp} {h h' : Heap} {x e : Addr} {o' : HO}
/-- the object at e is changed: x itself, or the dict of the instance x -/
theorem HOk.write (ok : HOk P w H h) (mu : Mut (H x)) (he : e = x ∨ H e = some (.own x)) (k : ∀ b u, b ≠ e → h.get? b = some u → h'.get? b = some u) (heo : ∃ u, h'.get? e = some u)
    (new : ObjOk P w (upd H x o') h' x o') : HOk P w (upd H x o') h' := fun b u q => by
  have nown : ∀ c y, H c = some (.own y) → c ≠ x := fun c y r z => by subst z; rw [r] at mu; exact mu
  have ntup : ∀ c xs, H c = some (.tup xs) → c ≠ x := fun c xs r z => by subst z; rw [r] at mu; exact mu
  by_cases hb : b = x
  · subst hb; rw [upd_same] at q; cases q; exact new
  · rw [upd_ne hb] at q
    by_cases hbe : b = e
    · have q' : H b = some (.own x) := by
        rcases he with z | z
        · exact absurd (hbe.trans z) hb
        · rw [hbe]; exact z
      rw [q] at q'; cases q'
      obtain ⟨v, hv⟩ := heo
      exact ⟨v, by rw [hbe]; exact hv⟩
    · refine (ok b u q).stay (fun c v hc r => k c v ?_ r) (fun c r => by rw [upd_ne (nown c b r)]; exact r) fun c xs r => by rw [upd_ne (ntup c xs r)]; exact r
      rcases hc with rfl | hc
      · exact hbe
      · rintro rfl
        rcases he with z | z
        · exact nown c b hc z
        · rw [hc] at z; cases z; exact hb rfl
end
/-! ### kept unless tracked; of the frames at fs (the callers') the slots may change (an exception that passes writes there); of the records at ex (iterators) nothing is said -/
structure Un (fs ex : List Addr) (H H' : Hp) (h h' : Heap) : Prop where
  keep : ∀ b o, h.get? b = some o → H b = none → b ∉ fs → b ∉ ex → h'.get? b = some o
  slot : ∀ b o, h.get? b = some o → H b = none → b ∈ fs → b ∉ ex → ∃ sl, h'.get? b = some { o with slots := sl }
  free : ∀ b o, h.get? b = some o → H b = none → b ∉ ex → H' b = none
  there : ∀ b o, h.get? b = some o → b ∉ ex → ∃ o', h'.get? b = some o'
  tups : ∀ b xs, H b = some (.tup xs) → H' b = some (.tup xs)
  frzs : ∀ b o u, H b = some (.frz o u) → H' b = some (.frz o u)
  tbls : ∀ b ps, H b = some (.tbl ps) → ∃ more, H' b = some (.tbl (ps ++ more))
section
variable {fs fs' ex ex' : List Addr} {H H1 H2 : Hp} {h h1 h2 h' : Heap} {a x e : Addr} {o : HO}
theorem Un.any (u : Un fs ex H H1 h h1) {b : Addr} {ob : Obj} (q : h.get? b = some ob) (n : H b = none) (hx : b ∉ ex) : ∃ sl, h1.get? b = some { ob with slots := sl } := by
  by_cases hb : b ∈ fs
  · exact u.slot b ob q n hb hx
  · exact ⟨ob.slots, u.keep b ob q n hb hx⟩
theorem Un.trans (a : Un fs ex H H1 h h1) (b : Un fs ex H1 H2 h1 h2) : Un fs ex H H2 h h2 where
  keep := fun c ob q n hc hx => b.keep c ob (a.keep c ob q n hc hx) (a.free c ob q n hx) hc hx
  slot := fun c ob q n hc hx => by
    obtain ⟨sl, e1⟩ := a.slot c ob q n hc hx
    obtain ⟨sl', e2⟩ := b.slot c _ e1 (a.free c ob q n hx) hc hx
    exact ⟨sl', e2⟩
  free := fun c ob q n hx => by
    obtain ⟨o', e1⟩ := a.there c ob q hx
    exact b.free c o' e1 (a.free c ob q n hx) hx
  there := fun c ob q hx => by
    obtain ⟨o', e1⟩ := a.there c ob q hx
    exact b.there c o' e1 hx
  tups := fun c xs q => b.tups c xs (a.tups c xs q)
  frzs := fun c ob xs q => b.frzs c ob xs (a.frzs c ob xs q)
  tbls := fun c ps q => by
    obtain ⟨m1, e1⟩ := a.tbls c ps q
    obtain ⟨m2, e2⟩ := b.tbls c _ e1
    exact ⟨m1 ++ m2, by rw [e2, Array.append_assoc]⟩
theorem Un.kept (k : ∀ b u, h.get? b = some u → h'.get? b = some u) : Un fs ex H H h h' :=
  ⟨fun b ob q _ _ _ => k b ob q, fun b ob q _ _ _ => ⟨ob.slots, k b ob q⟩, fun _ _ _ n _ => n, fun b ob q _ => ⟨ob, k b ob q⟩, fun _ _ q => q, fun _ _ _ q => q, fun _ ps q => ⟨#[], by rw [q]; simp⟩⟩
theorem Un.refl : Un fs ex H H h h := Un.kept fun _ _ q => q
theorem Un.laid (k : ∀ b u, h.get? b = some u → h'.get? b = some u) (hp : h.objs.size ≤ a) (hn : H a = none) : Un fs ex H (upd H a o) h h' where
  keep := fun b u q _ _ _ => k b u q
  slot := fun b u q _ _ _ => ⟨u.slots, k b u q⟩
  free := fun b u q n _ => by rw [upd_ne (Nat.ne_of_lt (Nat.lt_of_lt_of_le (Heap.lt_size q) hp))]; exact n
  there := fun b u q _ => ⟨u, k b u q⟩
  tups := fun b xs q => by rw [upd_ne (ne_of_none q hn)]; exact q
  frzs := fun b u xs q => by rw [upd_ne (ne_of_none q hn)]; exact q
  tbls := fun b ps q => ⟨#[], by rw [upd_ne (ne_of_none q hn), q]; simp⟩
theorem Un.write (mu : Mut (H x)) (he : e = x ∨ H e = some (.own x)) (k : ∀ b u, b ≠ e → h.get? b = some u → h'.get? b = some u) (heo : ∃ u, h'.get? e = some u) : Un fs ex H (upd H x o) h h' := by
  have hx : ∀ b, H b = none → b ≠ x := fun b n z => by subst z; rw [n] at mu; exact mu
  have hb : ∀ b, H b = none → b ≠ e := fun b n z => by
    subst z
    rcases he with r | r
    · exact hx b n r
    · rw [n] at r; cases r
  have hm : ∀ b u, H b = some u → ¬ Mut (some u) → b ≠ x := fun b u q nm z => by subst z; rw [q] at mu; exact nm mu
  refine ⟨fun b u q n _ _ => k b u (hb b n) q, fun b u q n _ _ => ⟨u.slots, k b u (hb b n) q⟩, fun b u q n _ => by rw [upd_ne (hx b n)]; exact n, fun b u q _ => ?_,
    fun b xs q => by rw [upd_ne (hm b _ q fun z => z)]; exact q, fun b u xs q => by rw [upd_ne (hm b _ q fun z => z)]; exact q, fun b ps q => ⟨#[], by rw [upd_ne (hm b _ q fun z => z), q]; simp⟩⟩
  by_cases hbe : b = e
  · subst hbe; exact heo
  · exact ⟨u, k b u hbe q⟩
theorem Un.mono (u : Un fs ex H H1 h h1) (hs : ∀ b ∈ fs, b ∈ fs') (hx : ∀ b ∈ ex, b ∈ ex') : Un fs' ex' H H1 h h1 :=
  ⟨fun b ob q n hb he => u.keep b ob q n (fun z => hb (hs b z)) fun z => he (hx b z), fun _ _ q n _ he => u.any q n fun z => he (hx _ z), fun b ob q n he => u.free b ob q n fun z => he (hx b z), fun b ob q he => u.there b ob q fun z => he (hx b z), u.tups, u.frzs, u.tbls⟩
end
/-! ### the heap without what is tracked -/
def trk (h : Heap) (H : Hp) : List Addr := (List.range h.objs.size).filter fun a => (H a).isSome
def hidT (h : Heap) (H : Hp) : Heap := PySem.W.hideAll h (trk h H)
theorem hidT_size (h : Heap) (H : Hp) : (hidT h H).objs.size = h.objs.size := PySem.W.hideAll_size _ _
theorem hidT_get {h : Heap} {H : Hp} {b : Addr} {o : Obj} (e : h.get? b = some o) (n : H b = none) : (hidT h H).get? b = some o :=
  PySem.W.hideAll_get _ e fun hm => by
    have q : (H b).isSome = true := (List.mem_filter.mp hm).2
    rw [n] at q; simp at q
theorem of_hidT {h : Heap} {H : Hp} {b : Addr} {o : Obj} (e : (hidT h H).get? b = some o) : h.get? b = some o ∧ H b = none := by
  have e' : h.get? b = some o := PySem.W.of_hideAll (trk h H) e
  refine ⟨e', ?_⟩
  cases q : H b with
  | none => rfl
  | some x =>
    have hm : b ∈ trk h H := List.mem_filter.mpr ⟨List.mem_range.mpr (Heap.lt_size e'), by simp [q]⟩
    have z : (hidT h H).get? b = none := PySem.W.hideAll_none (trk h H) hm
    rw [z] at e; cases e
/-! ### OpenK's ledger, filled with every new object but one -/
def allNews (g h : Heap) (L : Addr) : List (Addr × Obj) := (List.range h.objs.size).filterMap fun a => if a = L ∨ (g.get? a).isSome = true then none else (h.get? a).map fun o => (a, o)
theorem mem_allNews {g h : Heap} {L a : Addr} {o : Obj} (h1 : a ≠ L) (h2 : g.get? a = none) (h3 : h.get? a = some o) : (a, o) ∈ allNews g h L :=
  List.mem_filterMap.mpr ⟨a, List.mem_range.mpr (Heap.lt_size h3), by simp [h1, h2, h3]⟩
theorem of_mem_allNews {g h : Heap} {L : Addr} {p : Addr × Obj} (hp : p ∈ allNews g h L) : p.1 ≠ L ∧ g.get? p.1 = none ∧ h.get? p.1 = some p.2 := by
  obtain ⟨b, _, e⟩ := List.mem_filterMap.mp hp
  split at e
  · cases e
  · rename_i hn
    cases q : h.get? b with
    | none => rw [q] at e; simp at e
    | some u =>
      rw [q] at e
      simp only [Option.map_some, Option.some.injEq] at e
      subst e
      refine ⟨fun z => hn (.inl z), ?_, q⟩
      show g.get? b = none
      cases r : g.get? b with
      | none => rfl
      | some v => exact (hn (.inr (by simp [r]))).elim
def rest (g h : Heap) (L d : Addr) : List (Addr × Obj) := (allNews g h L).filter fun p => decide (p.1 ≠ d)
theorem rest_ne {g h : Heap} {L d : Addr} : ∀ p ∈ rest g h L d, p.1 ≠ d := fun p hp => of_decide_eq_true (List.mem_filter.mp hp).2
theorem mem_rest {g h : Heap} {L d a : Addr} {o : Obj} (h1 : a ≠ L) (h2 : g.get? a = none) (h3 : h.get? a = some o) (h4 : a ≠ d) : (a, o) ∈ rest g h L d :=
  List.mem_filter.mpr ⟨mem_allNews h1 h2 h3, decide_eq_true h4⟩
theorem news_all {g h : Heap} {L : Addr} : News g L h (allNews g h L) := fun p hp => let ⟨a, b, c⟩ := of_mem_allNews hp; ⟨c, a, b⟩
theorem news_at {g h : Heap} {L d : Addr} {o : Obj} (h1 : d ≠ L) (h2 : g.get? d = none) (h3 : h.get? d = some o) : News g L h ((d, o) :: rest g h L d) := fun p hp => by
  rcases List.mem_cons.mp hp with rfl | hp
  · exact ⟨h3, h1, h2⟩
  · exact news_all p (List.mem_filter.mp hp).1
/-- behind a rule that changed d alone: all else but the frame is kept -/
theorem kept_of_news {g h h' : Heap} {L d : Addr} {m : Str → Option Value} (k : ∀ b o, g.get? b = some o → h.get? b = some o) (F : Fr g L h' m) (N : News g L h' (rest g h L d)) :
    ∀ b o, b ≠ L → b ≠ d → h.get? b = some o → h'.get? b = some o := fun b o h1 h2 e => by
  cases q : g.get? b with
  | some u =>
    have := k b u q
    rw [e] at this; cases this
    exact F.keep b _ q
  | none => exact (N (b, o) (mem_rest h1 q e h2)).1
end L2
namespace L2
open PySem PySem.Spec PyProof.Rows
/-- the module's facts, over the base: the heap at the law's entry without what is tracked there -/
structure Mod (K : PySem.W.Frag) (mg : Str → Option Value) (base : Heap) : Prop where
  kin : K.In base
  glob : base.Ns mainGlobals mg
  blt : ∃ mb, base.Ns builtinsNs mb ∧ ∀ x : Str, x ≠ "__name__" → mb x = bootBuiltins x
  nolimit : base.NoLimit
/-- the context: a def's body (or a comprehension's block) running. base: fixed through the whole law; s₀, H₀: the entry; outer: the frames whose slots others may change (a def's callers); stack: all frames that run;
   ex: iterators that were made ahead of the entry and are walked here (a comprehension's); fn: the names whose cells were made at the entry (a def: all; a comprehension's block: its own); calm: not within an except suite; pn: pins that every state bears; xe: what is wanted of an exception that leaves the code -/
structure Cx where
  prog : Program
  w : World
  K : PySem.W.Frag
  mg : Str → Option Value
  base : Heap
  A : Around
  N : List Str
  s₀ : Shared
  H₀ : Hp
  env : Env
  outer : List Env
  stack : List Env
  ex : List Addr
  fn : Str → Bool
  calm : Bool
  pn : List (Addr × Obj)
  xe : Value → Shared → Prop
/-- the callers' frames -/
def frs (l : List Env) : List Addr := l.filterMap (·.frame)
abbrev Cx.fs (X : Cx) : List Addr := frs X.outer
def Vis (sc : Scope) (x : Str) : Prop := sc.names.lookup x = some .local ∨ sc.names.lookup x = some .cell ∨ sc.names.lookup x = some .free
def Loc (sc : Scope) (x : Str) : Prop := sc.names.lookup x = some .local ∨ sc.names.lookup x = some .cell
def Look (env : Env) (h : Heap) (m : Str → Option Value) (x : Str) (u : Value) : Prop :=
  (env.kindOf x = some .local ∧ m x = some u) ∨ ((env.kindOf x = some .cell ∨ env.kindOf x = some .free) ∧ ∃ c, env.cells.lookup x = some c ∧ h.IsCell c (some u))
structure Cx.Ok (X : Cx) : Prop where
  mod : Mod X.K X.mg X.base
  kind : X.env.scope.kind = .function
  glob : X.env.globals = mainGlobals
  blt : X.env.builtins = builtinsNs
  above : X.s₀.heap.objs.size ≤ X.env.locals
  inj : ∀ x y c, X.env.cells.lookup x = some c → X.env.cells.lookup y = some c → x = y
  has : ∀ x, (X.env.kindOf x = some .cell ∨ X.env.kindOf x = some .free) → ∃ c, X.env.cells.lookup x = some c
  cab : ∀ x c, X.fn x = true → X.env.cells.lookup x = some c → X.s₀.heap.objs.size ≤ c
  hd : X.calm = true → X.A.handled = none
  frames : X.A.frames = some X.stack
  stk : X.stack = X.outer ∨ (X.stack = X.env :: X.outer ∧ X.env.frame = some X.env.locals)
  exf : ∀ b ∈ X.ex, b ≠ X.env.locals ∧ ∀ x c, X.env.cells.lookup x = some c → c ≠ b
  bs : ∀ b o, X.base.get? b = some o → X.s₀.heap.get? b = some o ∧ X.H₀ b = none
  bsz : X.base.objs.size ≤ X.s₀.heap.objs.size
  noex : ∀ b o, X.base.get? b = some o → b ∉ X.ex
  exfs : ∀ b ∈ X.ex, b ∉ X.fs
  funs : X.s₀.heap.FunFrames X.base X.outer
  frf : ∀ b ∈ X.fs, X.H₀ b = none
structure Inv (X : Cx) (pins : List (Addr × Obj)) (σ : List (Option V)) (H : Hp) (s : Shared) : Prop where
  ok : X.Ok
  os : s.os = X.s₀.os
  bare : AllBare s.gens
  base : Un X.fs X.ex X.H₀ H X.s₀.heap s.heap
  loc : ∃ m, s.heap.Ns X.env.locals m ∧ ∀ (i : Nat) (x : Str) (v : V), X.N[i]? = some x → σ[i]? = some (some v) → Vis X.env.scope x → ∃ u, RelV v u ∧ Look X.env s.heap m x u
  cell : ∀ x c, X.env.cells.lookup x = some c → ∃ v, s.heap.IsCell c v
  free : H X.env.locals = none
  freeC : ∀ x c, X.env.cells.lookup x = some c → H c = none
  pin : ∀ p ∈ X.pn ++ pins, s.heap.get? p.1 = some p.2 ∧ H p.1 = none ∧ p.1 ≠ X.env.locals ∧ p.1 ∉ X.fs ∧ ∀ v, p.2.data ≠ .cell v
  hok : HOk X.prog X.w H s.heap
  len : σ.length = X.N.length
section
variable {X : Cx} {pins : List (Addr × Obj)} {σ : List (Option V)} {H H' : Hp} {s : Shared} {h' : Heap}
theorem Cx.Ok.nofr (ok : X.Ok) {b : Addr} {o : Obj} (e : X.base.get? b = some o) : b ∉ X.fs := fun hb => by
  have := (ok.funs.mem hb).1
  rw [e] at this; cases this
theorem Inv.bs (I : Inv X pins σ H s) : ∀ b o, X.base.get? b = some o → s.heap.get? b = some o ∧ H b = none := fun b o e =>
  ⟨I.base.keep b o (I.ok.bs b o e).1 (I.ok.bs b o e).2 (I.ok.nofr e) (I.ok.noex b o e), I.base.free b o (I.ok.bs b o e).1 (I.ok.bs b o e).2 (I.ok.noex b o e)⟩
theorem Inv.bk (I : Inv X pins σ H s) : ∀ b o, X.base.get? b = some o → s.heap.get? b = some o := fun b o e => (I.bs b o e).1
theorem Inv.mod (I : Inv X pins σ H s) : Mod X.K X.mg X.base := I.ok.mod
theorem Inv.kIn (I : Inv X pins σ H s) : X.K.In s.heap := I.ok.mod.kin.keeps I.bk
theorem Inv.nolimit (I : Inv X pins σ H s) : s.heap.NoLimit := I.ok.mod.nolimit.keeps I.bk
/-- the frame over the base: for OpenK's rules (K.In X.base is I.mod.kin) -/
theorem Inv.fr (I : Inv X pins σ H s) : ∃ m, Fr X.base X.env.locals s.heap m :=
  let ⟨m, hn, _⟩ := I.loc
  ⟨m, hn, I.bk, Nat.le_trans I.ok.bsz I.ok.above⟩
theorem Inv.lt (I : Inv X pins σ H s) : X.env.locals < s.heap.objs.size := let ⟨_, hn, _⟩ := I.loc; hn.lt
theorem Inv.sz (I : Inv X pins σ H s) : X.s₀.heap.objs.size ≤ s.heap.objs.size := Nat.le_trans I.ok.above (Nat.le_of_lt I.lt)
theorem Inv.nofs (I : Inv X pins σ H s) {a : Addr} (h : s.heap.objs.size ≤ a) : a ∉ X.fs := fun hb => by
  obtain ⟨_, o, ho, _⟩ := I.ok.funs.mem hb
  exact absurd (Nat.lt_of_lt_of_le (Heap.lt_size ho) (Nat.le_trans I.sz h)) (Nat.lt_irrefl _)
theorem Inv.cne (I : Inv X pins σ H s) : ∀ x c, X.env.cells.lookup x = some c → c ≠ X.env.locals := fun x c e z => by
  obtain ⟨v, o, ho, hd⟩ := I.cell x c e
  obtain ⟨m, ⟨o', es, ep, ho', hd', _⟩, _⟩ := I.loc
  rw [z, ho'] at ho; cases ho; rw [hd'] at hd; cases hd
theorem Inv.funs (I : Inv X pins σ H s) : s.heap.FunFrames X.base X.outer := by
  have all : ∀ (l : List Env), (∀ b ∈ frs l, b ∈ X.fs) → X.s₀.heap.FunFrames X.base l → s.heap.FunFrames X.base l := by
    intro l
    induction l with
    | nil => intro _ _; trivial
    | cons env r ih =>
      intro hs hl
      obtain ⟨hk, ⟨L, o, hf, hn, ho, hd⟩, hr⟩ := hl
      have hL : L ∈ X.fs := hs L (by unfold frs; rw [List.filterMap_cons, hf]; exact List.mem_cons_self)
      obtain ⟨sl, e⟩ := I.base.slot L o ho (I.ok.frf L hL) hL fun z => I.ok.exfs L z hL
      exact ⟨hk, ⟨L, _, hf, hn, e, hd⟩, ih (fun b hb => hs b (by unfold frs; rw [List.filterMap_cons, hf]; exact List.mem_cons_of_mem _ hb)) hr⟩
  exact all X.outer (fun _ hb => hb) I.ok.funs
/-- the frames that run, for a call -/
theorem Inv.stack (I : Inv X pins σ H s) : s.heap.FunFrames X.base X.stack := by
  rcases I.ok.stk with e | ⟨e, hf⟩
  · rw [e]; exact I.funs
  · rw [e]
    obtain ⟨m, hn, _⟩ := I.loc
    refine .cons (by rw [I.ok.kind]; decide) hf hn ?_ I.funs
    exact Heap.get?_none_of_le (Nat.le_trans I.ok.bsz I.ok.above)
theorem Inv.stkSub (I : Inv X pins σ H s) : ∀ b ∈ frs X.stack, b ∈ X.env.locals :: X.fs := fun b hb => by
  rcases I.ok.stk with e | ⟨e, hf⟩
  · rw [e] at hb; exact List.mem_cons_of_mem _ hb
  · rw [e] at hb
    unfold frs at hb
    rw [List.filterMap_cons, hf] at hb
    exact hb
theorem Inv.stkFree (I : Inv X pins σ H s) : ∀ b ∈ frs X.stack, H b = none := fun b hb => by
  rcases List.mem_cons.mp (I.stkSub b hb) with e | hb
  · rw [e]; exact I.free
  · obtain ⟨_, o, ho, _⟩ := I.ok.funs.mem hb
    exact I.base.free b o ho (I.ok.frf b hb) fun z => I.ok.exfs b z hb
/-- THE STEP: the untracked objects but the frame and the records at ch are kept (the callers' frames up to slots), the frame's map is kept, the new abstract heap is held -/
theorem Inv.step {g' : Array GenState} {t' : Nat} {d' : Drawn} {ch : List Addr} (I : Inv X pins σ H s)
    (hch : ∀ b ∈ ch, (b ∈ X.ex ∨ X.s₀.heap.objs.size ≤ b) ∧ b ≠ X.env.locals ∧ (∀ x c, X.env.cells.lookup x = some c → c ≠ b) ∧ ∀ p ∈ X.pn ++ pins, p.1 ≠ b)
    (keep : ∀ b o, b ≠ X.env.locals → b ∉ X.fs → b ∉ ch → s.heap.get? b = some o → H b = none → h'.get? b = some o)
    (slot : ∀ b o, b ≠ X.env.locals → b ∈ X.fs → b ∉ ch → s.heap.get? b = some o → H b = none → ∃ sl, h'.get? b = some { o with slots := sl }) (free : ∀ b o, b ∉ ch → s.heap.get? b = some o → H b = none → H' b = none)
    (there : ∀ b o, b ∉ ch → s.heap.get? b = some o → ∃ o', h'.get? b = some o')
    (tups : ∀ b xs, H b = some (.tup xs) → H' b = some (.tup xs)) (frzs : ∀ b o u, H b = some (.frz o u) → H' b = some (.frz o u)) (tbls : ∀ b ps, H b = some (.tbl ps) → ∃ more, H' b = some (.tbl (ps ++ more)))
    (ns : ∀ m, s.heap.Ns X.env.locals m → h'.Ns X.env.locals m) (hok : HOk X.prog X.w H' h') (hg : AllBare g') :
    Inv X pins σ H' { s with heap := h', gens := g', drawn := d', toks := t' } := by
  have neL : ∀ b o, X.s₀.heap.get? b = some o → b ≠ X.env.locals := fun b o e => Nat.ne_of_lt (Nat.lt_of_lt_of_le (Heap.lt_size e) I.ok.above)
  have neC : ∀ b o, X.s₀.heap.get? b = some o → b ∉ X.ex → b ∉ ch := fun b o e hx hb => by
    rcases (hch b hb).1 with z | z
    · exact hx z
    · exact absurd (Nat.lt_of_lt_of_le (Heap.lt_size e) z) (Nat.lt_irrefl _)
  have cellK : ∀ x c, X.env.cells.lookup x = some c → ∀ v, s.heap.IsCell c v → h'.IsCell c v := fun x c e v ⟨o, ho, hd⟩ => by
    have nch : c ∉ ch := fun z => (hch c z).2.2.1 x c e rfl
    by_cases hc : c ∈ X.fs
    · obtain ⟨sl, q⟩ := slot c o (I.cne x c e) hc nch ho (I.freeC x c e)
      exact ⟨_, q, hd⟩
    · exact ⟨o, keep c o (I.cne x c e) hc nch ho (I.freeC x c e), hd⟩
  refine ⟨I.ok, I.os, hg, ⟨fun b o e n hb hx => ?_, fun b o e n hb hx => ?_, fun b o e n hx => ?_, fun b o e hx => ?_, fun b xs e => tups b xs (I.base.tups b xs e), fun b o xs e => frzs b o xs (I.base.frzs b o xs e), fun b ps e => ?_⟩, ?_, fun x c e => ?_, ?_, fun x c e => ?_, fun p hp => ?_, hok, I.len⟩
  · exact keep b o (neL b o e) hb (neC b o e hx) (I.base.keep b o e n hb hx) (I.base.free b o e n hx)
  · obtain ⟨sl, e1⟩ := I.base.slot b o e n hb hx
    obtain ⟨sl', e2⟩ := slot b _ (neL b o e) hb (neC b o e hx) e1 (I.base.free b o e n hx)
    exact ⟨sl', e2⟩
  · obtain ⟨o', e1⟩ := I.base.there b o e hx
    exact free b o' (neC b o e hx) e1 (I.base.free b o e n hx)
  · obtain ⟨o', e1⟩ := I.base.there b o e hx
    exact there b o' (neC b o e hx) e1
  · obtain ⟨m1, e1⟩ := I.base.tbls b ps e
    obtain ⟨m2, e2⟩ := tbls b _ e1
    exact ⟨m1 ++ m2, by rw [e2, Array.append_assoc]⟩
  · obtain ⟨m, hn, hl⟩ := I.loc
    refine ⟨m, ns m hn, fun i x v e1 e2 e3 => ?_⟩
    obtain ⟨u, r, l⟩ := hl i x v e1 e2 e3
    refine ⟨u, r, ?_⟩
    rcases l with l | ⟨k, c, e, z⟩
    · exact .inl l
    · exact .inr ⟨k, c, e, cellK x c e _ z⟩
  · obtain ⟨v, z⟩ := I.cell x c e
    exact ⟨v, cellK x c e v z⟩
  · obtain ⟨m, ⟨o, _, _, ho, _⟩, _⟩ := I.loc
    exact free _ o (fun z => (hch _ z).2.1 rfl) ho I.free
  · obtain ⟨v, o, ho, hd⟩ := I.cell x c e
    exact free c o (fun z => (hch c z).2.2.1 x c e rfl) ho (I.freeC x c e)
  · obtain ⟨e, n, ne, nf, d⟩ := I.pin p hp
    have nch : p.1 ∉ ch := fun z => (hch p.1 z).2.2.2 p hp rfl
    exact ⟨keep p.1 p.2 ne nf nch e n, free p.1 p.2 nch e n, ne, nf, d⟩
/-- .. where the frame's own object is kept too -/
theorem Inv.un {t' : Nat} (I : Inv X pins σ H s) (u : Un X.fs [] H H' s.heap h') (hok : HOk X.prog X.w H' h') : Inv X pins σ H' { s with heap := h', toks := t' } := by
  obtain ⟨m, ⟨o, es, ep, ho, r⟩, _⟩ := id I.loc
  obtain ⟨sl, hL⟩ := u.any ho I.free (by simp)
  exact I.step (g' := s.gens) (d' := s.drawn) (ch := []) (fun _ z => nomatch z) (fun b o _ hb _ e n => u.keep b o e n hb (by simp)) (fun b o _ hb _ e n => u.slot b o e n hb (by simp)) (fun b o _ e n => u.free b o e n (by simp)) (fun b o _ e => u.there b o e (by simp)) u.tups u.frzs u.tbls (fun m' hm => by
    obtain ⟨o', es', ep', ho', r'⟩ := hm
    rw [ho] at ho'; cases ho'
    exact ⟨_, es', ep', hL, r'⟩) hok I.bare
/-- behind a call (or a comprehension's block): the slots of this frame may have changed too, the records at ch may have turned -/
theorem Inv.call {g' : Array GenState} {t' : Nat} {d' : Drawn} {ch : List Addr} (I : Inv X pins σ H s) (u : Un (frs X.stack) ch H H' s.heap h') (hok : HOk X.prog X.w H' h') (hg : AllBare g')
    (hch : ∀ b ∈ ch, (b ∈ X.ex ∨ X.s₀.heap.objs.size ≤ b) ∧ b ≠ X.env.locals ∧ (∀ x c, X.env.cells.lookup x = some c → c ≠ b) ∧ ∀ p ∈ X.pn ++ pins, p.1 ≠ b) :
    Inv X pins σ H' { s with heap := h', gens := g', drawn := d', toks := t' } := by
  obtain ⟨m, ⟨o, es, ep, ho, r⟩, _⟩ := id I.loc
  obtain ⟨sl, hL⟩ := u.any ho I.free fun z => (hch _ z).2.1 rfl
  exact I.step (ch := ch) hch (fun b o hL hb hc e n => u.keep b o e n (fun z => (List.mem_cons.mp (I.stkSub b z)).elim hL hb) hc) (fun b o _ _ hc e n => u.any e n hc) (fun b o hc e n => u.free b o e n hc) (fun b o hc e => u.there b o e hc) u.tups u.frzs u.tbls (fun m' hm => by
    obtain ⟨o', es', ep', ho', r'⟩ := hm
    rw [ho] at ho'; cases ho'
    exact ⟨_, es', ep', hL, r'⟩) hok hg
/-- an untracked record of ours (an iterator) has turned -/
theorem Inv.turned {t' : Nat} {it : Addr} (I : Inv X pins σ H s) (k : ∀ b o, b ≠ it → s.heap.get? b = some o → h'.get? b = some o) (hn : H it = none) (hL : it ≠ X.env.locals)
    (h1 : it ∈ X.ex ∨ X.s₀.heap.objs.size ≤ it) (h2 : ∀ x c, X.env.cells.lookup x = some c → c ≠ it) (h3 : ∀ p ∈ X.pn ++ pins, p.1 ≠ it) : Inv X pins σ H { s with heap := h', toks := t' } := by
  have nit : ∀ b u, H b = some u → b ≠ it := fun b u e z => by rw [z, hn] at e; cases e
  refine I.step (g' := s.gens) (d' := s.drawn) (ch := [it]) (fun b hb => ?_) (fun b o _ _ hc e _ => k b o (fun z => hc (by simp [z])) e) (fun b o _ _ hc e _ => ⟨o.slots, k b o (fun z => hc (by simp [z])) e⟩) (fun _ _ _ _ n => n)
    (fun b o hc e => ⟨o, k b o (fun z => hc (by simp [z])) e⟩) (fun _ _ e => e) (fun _ _ _ e => e) (fun b ps e => ⟨#[], by rw [e]; simp⟩) (fun m hm => ?_) (fun b u e => ?_) I.bare
  · have e : b = it := by simpa using hb
    subst e
    exact ⟨h1, hL, h2, h3⟩
  · obtain ⟨o, es, ep, ho, r⟩ := hm
    exact ⟨o, es, ep, k _ o (Ne.symm hL) ho, r⟩
  · refine (I.hok b u e).stay (fun c v hc q => k c v ?_ q) (fun _ q => q) fun _ _ q => q
    rcases hc with z | z
    · rw [z]; exact nit b u e
    · exact nit c _ z
theorem Inv.tok (I : Inv X pins σ H s) (t : Nat) : Inv X pins σ H { s with toks := t } := I.un (h' := s.heap) (t' := t) Un.refl I.hok
/-- all objects kept -/
theorem Inv.kept {t' : Nat} (I : Inv X pins σ H s) (k : ∀ b u, s.heap.get? b = some u → h'.get? b = some u) : Inv X pins σ H { s with heap := h', toks := t' } := I.un (Un.kept k) (I.hok.kept k)
/-- a new object laid and tracked -/
theorem Inv.laid {a : Addr} {o : HO} {t' : Nat} (I : Inv X pins σ H s) (k : ∀ b u, s.heap.get? b = some u → h'.get? b = some u) (hp : s.heap.objs.size ≤ a) (new : ObjOk X.prog X.w (upd H a o) h' a o) :
    Inv X pins σ (upd H a o) { s with heap := h', toks := t' } := I.un (Un.laid k hp (I.hok.fresh hp)) (I.hok.laid k hp new)
/-- an object written -/
theorem Inv.write {x e : Addr} {o : HO} {t' : Nat} (I : Inv X pins σ H s) (mu : Mut (H x)) (he : e = x ∨ H e = some (.own x)) (k : ∀ b u, b ≠ e → s.heap.get? b = some u → h'.get? b = some u) (heo : ∃ u, h'.get? e = some u)
    (new : ObjOk X.prog X.w (upd H x o) h' x o) : Inv X pins σ (upd H x o) { s with heap := h', toks := t' } := I.un (Un.write mu he k heo) (I.hok.write mu he k heo new)
/-- forgetting slots, pins -/
theorem Inv.weak {σ' : List (Option V)} (I : Inv X pins σ H s) (hl : σ'.length = σ.length) (w : ∀ (i : Nat) v, σ'[i]? = some (some v) → σ[i]? = some (some v)) : Inv X pins σ' H s :=
  ⟨I.ok, I.os, I.bare, I.base, let ⟨m, hn, hl'⟩ := I.loc; ⟨m, hn, fun i x v e1 e2 e3 => hl' i x v e1 (w i v e2) e3⟩, I.cell, I.free, I.freeC, I.pin, I.hok, hl.trans I.len⟩
theorem Inv.pins_of {pins' : List (Addr × Obj)} (I : Inv X pins σ H s) (h : ∀ p ∈ pins', s.heap.get? p.1 = some p.2 ∧ H p.1 = none ∧ p.1 ≠ X.env.locals ∧ p.1 ∉ X.fs ∧ ∀ v, p.2.data ≠ .cell v) : Inv X pins' σ H s :=
  ⟨I.ok, I.os, I.bare, I.base, I.loc, I.cell, I.free, I.freeC, fun p hp => (List.mem_append.mp hp).elim (fun z => I.pin p (List.mem_append_left _ z)) (h p), I.hok, I.len⟩
theorem nodup_ix {N : List Str} (hN : N.Nodup) {i j : Nat} {x : Str} (a : N[i]? = some x) (b : N[j]? = some x) : i = j := by
  obtain ⟨h1, e1⟩ := List.getElem?_eq_some_iff.mp a
  obtain ⟨h2, e2⟩ := List.getElem?_eq_some_iff.mp b
  exact (List.getElem_inj hN).mp (e1.trans e2.symm)
/-- a name is stored; what changed -/
theorem store_ok2 {M : Model} {A : Around} {E : Value → Shared → Prop} {i : Nat} {x : Str} {v : V} {u : Value} {Q : Unit → Shared → Prop} (I : Inv X pins σ H s) (hN : X.N.Nodup) (hi : X.N[i]? = some x) (hx : Loc X.env.scope x) (r : RelV v u)
    (h : ∀ s', Inv X pins (σ.set i (some v)) H s' → (∃ a, Heap.SameBut a s.heap s'.heap ∧ (a = X.env.locals ∨ X.env.cells.lookup x = some a)) → Q () s') (hf : X.fn x = true ∨ X.env.scope.names.lookup x = some .local := by first | exact .inl rfl | exact .inr rfl | assumption) : wpAny M A (storeName X.env x u) Q E s := by
  obtain ⟨m, hn, hl⟩ := id I.loc
  have hcls : (X.env.scope.kind == .class || (X.env.scope.kind == .module && X.env.locals != X.env.globals)) = false := by rw [I.ok.kind]; rfl
  have hiσ : i < σ.length := by rw [I.len]; exact (List.getElem?_eq_some_iff.mp hi).1
  have cne := I.cne
  have tracked : ∀ {a : Addr} {h' : Heap}, (∃ o, s.heap.get? a = some o ∧ H a = none) → Heap.SameBut a s.heap h' → HOk X.prog X.w H h' := fun {a h'} ha hs b ob e => by
    obtain ⟨_, _, hfree⟩ := ha
    refine (I.hok b ob e).stay (fun c w' hc q => (hs.2 c ?_).trans q) (fun _ q => q) fun _ _ q => q
    rintro rfl
    rcases hc with rfl | hc
    · rw [hfree] at e; cases e
    · rw [hfree] at hc; cases hc
  rcases hx with hk | hk
  · refine wpAny_storeName_local hk hn (fun h' hn' hs => ?_) hcls
    obtain ⟨oL, _, _, hoL, _⟩ := id hn
    refine h _ ⟨I.ok, I.os, I.bare, ⟨fun b o e n hb hx => ?_, fun b o e n hb hx => ?_, I.base.free, fun b o e hx => ?_, I.base.tups, I.base.frzs, I.base.tbls⟩, ⟨_, hn', fun j y v' e1 e2 e3 => ?_⟩, fun y c e => ?_, I.free, I.freeC, fun p hp => ?_, tracked ⟨oL, hoL, I.free⟩ hs, by simpa using I.len⟩ ⟨_, hs, .inl rfl⟩
    · exact (hs.2 b (Nat.ne_of_lt (Nat.lt_of_lt_of_le (Heap.lt_size e) I.ok.above))).trans (I.base.keep b o e n hb hx)
    · obtain ⟨sl, e1⟩ := I.base.slot b o e n hb hx
      exact ⟨sl, (hs.2 b (Nat.ne_of_lt (Nat.lt_of_lt_of_le (Heap.lt_size e) I.ok.above))).trans e1⟩
    · obtain ⟨o', e1⟩ := I.base.there b o e hx
      exact ⟨o', (hs.2 b (Nat.ne_of_lt (Nat.lt_of_lt_of_le (Heap.lt_size e) I.ok.above))).trans e1⟩
    · by_cases hj : j = i
      · subst hj
        rw [hi] at e1; cases e1
        rw [List.getElem?_set_self hiσ] at e2
        cases e2
        exact ⟨u, r, .inl ⟨hk, by simp⟩⟩
      · rw [List.getElem?_set_ne (Ne.symm hj)] at e2
        obtain ⟨u', r', q⟩ := hl j y v' e1 e2 e3
        refine ⟨u', r', ?_⟩
        rcases q with ⟨k, e⟩ | ⟨k, c, e, z⟩
        · refine .inl ⟨k, ?_⟩
          have : y ≠ x := fun e => hj (nodup_ix hN e1 (e ▸ hi))
          simp [this, e]
        · exact .inr ⟨k, c, e, z.sameBut hs (cne y c e)⟩
    · obtain ⟨w', z⟩ := I.cell y c e
      exact ⟨w', z.sameBut hs (cne y c e)⟩
    · obtain ⟨e, n, ne, nf, d⟩ := I.pin p hp
      exact ⟨(hs.2 p.1 ne).trans e, n, ne, nf, d⟩
  · have hfn : X.fn x = true := by
      rcases hf with z | z
      · exact z
      · rw [z] at hk; cases hk
    obtain ⟨c, hc⟩ := I.ok.has x (.inl hk)
    obtain ⟨w', z⟩ := I.cell x c hc
    refine wpAny_storeName_cell I.ok.kind hk hc z (fun h' hc' hs => ?_)
    obtain ⟨oc, hoc, hocd⟩ := id z
    refine h { s with heap := h' } ⟨I.ok, I.os, I.bare, ⟨fun b o e n hb hx => ?_, fun b o e n hb hx => ?_, I.base.free, fun b o e hx => ?_, I.base.tups, I.base.frzs, I.base.tbls⟩, ⟨m, hn.sameBut hs (Ne.symm (cne x c hc)), fun j y v' e1 e2 e3 => ?_⟩, fun y c' e => ?_, I.free, I.freeC, fun p hp => ?_, tracked ⟨oc, hoc, I.freeC x c hc⟩ hs, by simpa using I.len⟩ ⟨c, hs, .inr hc⟩
    · exact (hs.2 b (Nat.ne_of_lt (Nat.lt_of_lt_of_le (Heap.lt_size e) (I.ok.cab x c hfn hc)))).trans (I.base.keep b o e n hb hx)
    · obtain ⟨sl, e1⟩ := I.base.slot b o e n hb hx
      exact ⟨sl, (hs.2 b (Nat.ne_of_lt (Nat.lt_of_lt_of_le (Heap.lt_size e) (I.ok.cab x c hfn hc)))).trans e1⟩
    · obtain ⟨o', e1⟩ := I.base.there b o e hx
      exact ⟨o', (hs.2 b (Nat.ne_of_lt (Nat.lt_of_lt_of_le (Heap.lt_size e) (I.ok.cab x c hfn hc)))).trans e1⟩
    · by_cases hj : j = i
      · subst hj
        rw [hi] at e1; cases e1
        rw [List.getElem?_set_self hiσ] at e2
        cases e2
        exact ⟨u, r, .inr ⟨.inl hk, c, hc, hc'⟩⟩
      · rw [List.getElem?_set_ne (Ne.symm hj)] at e2
        obtain ⟨u', r', q⟩ := hl j y v' e1 e2 e3
        refine ⟨u', r', ?_⟩
        rcases q with q | ⟨k, c', e, z'⟩
        · exact .inl q
        · refine .inr ⟨k, c', e, z'.sameBut hs ?_⟩
          rintro rfl
          exact hj (nodup_ix hN e1 (I.ok.inj _ _ _ e hc ▸ hi))
    · by_cases hcc : c' = c
      · subst hcc; exact ⟨_, hc'⟩
      · obtain ⟨w2, z2⟩ := I.cell y c' e
        exact ⟨w2, z2.sameBut hs hcc⟩
    · obtain ⟨e, n, ne, nf, d⟩ := I.pin p hp
      refine ⟨(hs.2 p.1 ?_).trans e, n, ne, nf, d⟩
      intro q
      rw [q, hoc] at e
      have q' : oc = p.2 := Option.some.inj e
      exact d w' (by rw [← q']; exact hocd)
theorem store_ok {M : Model} {A : Around} {E : Value → Shared → Prop} {i : Nat} {x : Str} {v : V} {u : Value} {Q : Unit → Shared → Prop} (I : Inv X pins σ H s) (hN : X.N.Nodup) (hi : X.N[i]? = some x) (hx : Loc X.env.scope x) (r : RelV v u)
    (h : ∀ s', Inv X pins (σ.set i (some v)) H s' → Q () s') (hf : X.fn x = true ∨ X.env.scope.names.lookup x = some .local := by first | exact .inl rfl | exact .inr rfl | assumption) : wpAny M A (storeName X.env x u) Q E s :=
  store_ok2 I hN hi hx r (fun s' I' _ => h s' I') hf
/-- behind a call or a block, the state as it is -/
theorem Inv.call' {s' : Shared} {ch : List Addr} (I : Inv X pins σ H s) (ho : s'.os = s.os) (u : Un (frs X.stack) ch H H' s.heap s'.heap) (hok : HOk X.prog X.w H' s'.heap) (hg : AllBare s'.gens)
    (hch : ∀ b ∈ ch, (b ∈ X.ex ∨ X.s₀.heap.objs.size ≤ b) ∧ b ≠ X.env.locals ∧ (∀ x c, X.env.cells.lookup x = some c → c ≠ b) ∧ ∀ p ∈ X.pn ++ pins, p.1 ≠ b) : Inv X pins σ H' s' := by
  obtain ⟨h', g', d', t', o'⟩ := s'
  have e : o' = s.os := ho
  subst e
  exact I.call (g' := g') (t' := t') (d' := d') u hok hg hch
end
/-! ### the judgements -/
/-- an exception: its class, its own dict's address (where it has one), the abstract heap behind it -/
abbrev XK := Value → Option Addr → Hp → Prop
abbrev St := List (Option V)
abbrev VK := V → Hp → Prop
/-- an expression's reading; a test's; an argument list's -/
abbrev TE := St → Hp → VK → Prop
abbrev TT := St → Hp → (Bool → Hp → Prop) → Prop
abbrev TA := St → Hp → (List V → Hp → Prop) → Prop
/-- what is wanted behind a statement -/
structure Ends where
  nx : St → Hp → Prop
  rt : VK
  bk : St → Hp → Prop := fun _ _ => False
  ct : St → Hp → Prop := fun _ _ => False
abbrev TS := Ends → St → Hp → Prop
def EP (X : Cx) (pins : List (Addr × Obj)) (σ : St) (Q : VK) (u : Value) (s' : Shared) : Prop := ∃ v H', Inv X pins σ H' s' ∧ RelV v u ∧ Q v H'
def TP (X : Cx) (pins : List (Addr × Obj)) (σ : St) (Q : Bool → Hp → Prop) (b : Bool) (s' : Shared) : Prop := ∃ H', Inv X pins σ H' s' ∧ Q b H'
def AP (X : Cx) (pins : List (Addr × Obj)) (σ : St) (Q : List V → Hp → Prop) (us : List Value) (s' : Shared) : Prop := ∃ vs H', Inv X pins σ H' s' ∧ Vals vs us ∧ Q vs H'
def SP (X : Cx) (pins : List (Addr × Obj)) (D : Ends) (f : Flow) (s' : Shared) : Prop :=
  match f with
  | .next => ∃ σ' H', Inv X pins σ' H' s' ∧ D.nx σ' H'
  | .brk => ∃ σ' H', Inv X pins σ' H' s' ∧ D.bk σ' H'
  | .cont => ∃ σ' H', Inv X pins σ' H' s' ∧ D.ct σ' H'
  | .ret u => ∃ v σ' H', Inv X pins σ' H' s' ∧ RelV v u ∧ D.rt v H'
def PE (X : Cx) (e : Expr) (t : TE) : Prop :=
  ∀ (pins : List (Addr × Obj)) (s : Shared) (σ : St) (H : Hp) (Q : VK), Inv X pins σ H s → t σ H Q → wpAny (model X.prog X.w) X.A (eval e X.env) (EP X pins σ Q) X.xe s
def PT (X : Cx) (e : Expr) (t : TT) : Prop :=
  ∀ (pins : List (Addr × Obj)) (s : Shared) (σ : St) (H : Hp) (Q : Bool → Hp → Prop), Inv X pins σ H s → t σ H Q → wpAny (model X.prog X.w) X.A (isTrue e X.env (eval e X.env)) (TP X pins σ Q) X.xe s
/-- a test whatever its 'whole' is (and, or) -/
def PW (X : Cx) (e : Expr) (t : TT) : Prop :=
  ∀ (whole : Sem Value) (pins : List (Addr × Obj)) (s : Shared) (σ : St) (H : Hp) (Q : Bool → Hp → Prop), Inv X pins σ H s → t σ H Q → wpAny (model X.prog X.w) X.A (isTrue e X.env whole) (TP X pins σ Q) X.xe s
theorem PW.pt {X : Cx} {e : Expr} {t : TT} (h : PW X e t) : PT X e t := h _
/-- an argument list (no star), from the left -/
def PA (X : Cx) (es : List Expr) (t : TA) : Prop :=
  ∀ (pos : Pos) (pins : List (Addr × Obj)) (s : Shared) (σ : St) (H : Hp) (Q : List V → Hp → Prop), Inv X pins σ H s → t σ H Q → wpAny (model X.prog X.w) X.A (spliced (backTo pos (starEach es X.env))) (AP X pins σ Q) X.xe s
def PS (X : Cx) (st : Stmt) (t : TS) : Prop :=
  ∀ (pins : List (Addr × Obj)) (s : Shared) (σ : St) (H : Hp) (D : Ends), Inv X pins σ H s → t D σ H → wpAny (model X.prog X.w) X.A (exec st X.env) (SP X pins D) X.xe s
def PSs (X : Cx) (st : List Stmt) (t : TS) : Prop :=
  ∀ (pins : List (Addr × Obj)) (s : Shared) (σ : St) (H : Hp) (D : Ends), Inv X pins σ H s → t D σ H → wpAny (model X.prog X.w) X.A (execs st X.env) (SP X pins D) X.xe s
/-- weaken the end -/
theorem thn {α : Type} {t : Sem α} {Q Q' : α → Shared → Prop} {M : Model} {A : Around} {E : Value → Shared → Prop} {s : Shared} (h : wpAny M A t Q E s) (hQ : ∀ a s, Q a s → Q' a s) : wpAny M A t Q' E s := wpAny_mono h hQ fun _ _ x => x
end L2
namespace L2
open PySem PySem.Spec PyProof.Rows
section
variable {X : Cx}
/-- two expressions in a row -/
theorem bin {a b : Expr} {ta tb : TE} (ha : PE X a ta) (hb : PE X b tb) {pins : List (Addr × Obj)} {s : Shared} {σ : St} {H : Hp} {R : V → V → Hp → Prop} (I : Inv X pins σ H s) (h : ta σ H fun x H1 => tb σ H1 fun y H2 => R x y H2)
    {α : Type} {Q : α → Shared → Prop} {f : Value → Value → Sem α}
    (hf : ∀ v u s2 x y H2, Inv X pins σ H2 s2 → RelV x v → RelV y u → R x y H2 → wpAny (model X.prog X.w) X.A (f v u) Q X.xe s2) :
    wpAny (model X.prog X.w) X.A (eval a X.env) (fun v s₁ => wpAny (model X.prog X.w) X.A (eval b X.env) (fun u s₂ => wpAny (model X.prog X.w) X.A (f v u) Q X.xe s₂) X.xe s₁) X.xe s := by
  refine thn (ha pins s σ H _ I h) fun v s1 ⟨x, H1, I1, r1, q1⟩ => ?_
  refine thn (hb pins s1 σ H1 _ I1 q1) fun u s2 ⟨y, H2, I2, r2, q2⟩ => ?_
  exact hf v u s2 x y H2 I2 r1 r2 q2
/-! ### names and constants -/
def tVar (i : Nat) : TE := fun σ H Q => ∃ v, σ[i]? = some (some v) ∧ Q v H
def tC (v : V) : TE := fun _ H Q => Q v H
theorem pe_var {i : Nat} {x : Str} {pos : Pos} (hN : X.N[i]? = some x) (hv : Vis X.env.scope x) (hd : (x == ("__debug__" : Str)) = false := by decide) (hcd : (x == ("__classdict__" : Str)) = false := by decide) : PE X (.Name x pos) (tVar i) := by
  intro pins s σ H Q I h
  obtain ⟨v, e, h⟩ := h
  obtain ⟨m, hn, hl⟩ := I.loc
  obtain ⟨u, r, l⟩ := hl i x v hN e hv
  have fin : EP X pins σ Q u s := ⟨v, H, I, r, h⟩
  rcases l with ⟨hk, hm⟩ | ⟨hk, c, hc, hcell⟩
  · exact wpAny_Name (wpAny_loadName_local I.ok.kind hk hn hm fin) hd
  · rcases hk with hk | hk
    · exact wpAny_Name (wpAny_loadName_cell I.ok.kind hk hc hcell fin) hd
    · exact wpAny_Name (wpAny_loadName_free I.ok.kind hk hc hcell fin hcd) hd
theorem pe_int {i j pos} : PE X (.Constant (.int i) j pos) (tC (.int i)) := fun _ _ _ H _ I h => wpAny_Constant_int ⟨.int i, H, I.tok _, ⟨_, rfl⟩, h⟩
theorem pe_bl {b j pos} : PE X (.Constant (.bool b) j pos) (tC (.bl b)) := fun _ _ _ H _ I h => Constant_bool ⟨.bl b, H, I, rfl, h⟩
theorem pe_non {j pos} : PE X (.Constant .none j pos) (tC .non) := fun _ _ _ H _ I h => Constant_none ⟨.non, H, I, rfl, h⟩
theorem pe_str {x j pos} : PE X (.Constant (.str x) j pos) (tC (.str x)) := fun _ _ _ H _ I h => Calls.Constant_str ⟨.str x, H, I.tok _, ⟨_, rfl⟩, h⟩
/-- a global name of the def -/
def Gl (X : Cx) (x : Str) : Prop := X.env.kindOf x = some .globalImplicit
theorem ld_glob {E : Value → Shared → Prop} {pins : List (Addr × Obj)} {s : Shared} {σ : St} {H : Hp} {x : Str} {u : Value} {pos : Pos} {Q : Value → Shared → Prop} (I : Inv X pins σ H s) (hg : Gl X x) (hm : X.mg x = some u) (h : Q u s)
    (hd : (x == ("__debug__" : Str)) = false := by decide) : wpAny (model X.prog X.w) X.A (eval (.Name x pos) X.env) Q E s :=
  Calls.Name_function_global I.ok.kind hg (Calls.loadGlobal_global (by rw [I.ok.glob]; exact I.mod.glob.keeps I.bk) hm h) hd
theorem ld_blt {E : Value → Shared → Prop} {pins : List (Addr × Obj)} {s : Shared} {σ : St} {H : Hp} {x : Str} {u : Value} {pos : Pos} {Q : Value → Shared → Prop} (I : Inv X pins σ H s) (hg : Gl X x) (hm : X.mg x = none) (hv : bootBuiltins x = some u) (h : Q u s)
    (hn : x ≠ "__name__" := by decide) (hd : (x == ("__debug__" : Str)) = false := by decide) : wpAny (model X.prog X.w) X.A (eval (.Name x pos) X.env) Q E s := by
  obtain ⟨mb, h1, h2⟩ := I.mod.blt
  exact Calls.Name_function_global I.ok.kind hg (Calls.loadGlobal_builtin (by rw [I.ok.glob]; exact I.mod.glob.keeps I.bk) hm (by rw [I.ok.blt]; exact h1.keeps I.bk) ((h2 x hn).trans hv) h) hd
/-- a module's constant, a class, a function, as a value -/
theorem pe_glob {x : Str} {v : V} {u : Value} {pos : Pos} (hg : Gl X x) (hm : X.mg x = some u) (r : RelV v u) (hd : (x == ("__debug__" : Str)) = false := by decide) : PE X (.Name x pos) (tC v) :=
  fun _ _ _ H _ I h => ld_glob I hg hm ⟨v, H, I, r, h⟩ hd
theorem pe_bltn {x : Str} {v : V} {u : Value} {pos : Pos} (hg : Gl X x) (hm : X.mg x = none) (hv : bootBuiltins x = some u) (r : RelV v u) (hn : x ≠ "__name__" := by decide) (hd : (x == ("__debug__" : Str)) = false := by decide) : PE X (.Name x pos) (tC v) :=
  fun _ _ _ H _ I h => ld_blt I hg hm hv ⟨v, H, I, r, h⟩ hn hd
/-! ### arithmetic -/
/-- two ints -/
def t2I (ta tb : TE) (k : Int → Int → Hp → Prop) : St → Hp → Prop := fun σ H => ta σ H fun x H1 => tb σ H1 fun y H2 => ∃ i j, x = .int i ∧ y = .int j ∧ k i j H2
def tAdd (ta tb : TE) : TE := fun σ H Q => t2I ta tb (fun i j H2 => Q (.int (i + j)) H2) σ H
def tSub (ta tb : TE) : TE := fun σ H Q => t2I ta tb (fun i j H2 => Q (.int (i - j)) H2) σ H
/-- the left factor below 2^64 -/
def tMul (ta tb : TE) : TE := fun σ H Q => t2I ta tb (fun i j H2 => (-(2 ^ 64) < i ∧ i < 2 ^ 64) ∧ Q (.int (i * j)) H2) σ H
variable {a b : Expr} {ta tb : TE} {pos : Pos}
theorem pe_add (ha : PE X a ta) (hb : PE X b tb) : PE X (.BinOp a .Add b pos) (tAdd ta tb) := by
  intro pins s σ H Q I h
  refine wpAny_BinOp (bin ha hb I h fun v u s2 x y H2 I2 rx ry q => ?_)
  obtain ⟨i, j, rfl, rfl, q⟩ := q
  obtain ⟨t, rfl⟩ := rx
  obtain ⟨t', rfl⟩ := ry
  exact add_int ⟨.int _, H2, I2.tok _, ⟨_, rfl⟩, q⟩
theorem pe_sub (ha : PE X a ta) (hb : PE X b tb) : PE X (.BinOp a .Sub b pos) (tSub ta tb) := by
  intro pins s σ H Q I h
  refine wpAny_BinOp (bin ha hb I h fun v u s2 x y H2 I2 rx ry q => ?_)
  obtain ⟨i, j, rfl, rfl, q⟩ := q
  obtain ⟨t, rfl⟩ := rx
  obtain ⟨t', rfl⟩ := ry
  exact sub_int ⟨.int _, H2, I2.tok _, ⟨_, rfl⟩, q⟩
theorem pe_mul (ha : PE X a ta) (hb : PE X b tb) : PE X (.BinOp a .Mult b pos) (tMul ta tb) := by
  intro pins s σ H Q I h
  refine wpAny_BinOp (bin ha hb I h fun v u s2 x y H2 I2 rx ry q => ?_)
  obtain ⟨i, j, rfl, rfl, ⟨q1, q2⟩, q⟩ := q
  obtain ⟨t, rfl⟩ := rx
  obtain ⟨t', rfl⟩ := ry
  exact mul_int ⟨.int _, H2, I2.tok _, ⟨_, rfl⟩, q⟩ (.of_left (intBits_le_64 q1 q2))
/-! ### comparisons -/
def PC (X : Cx) (op : CmpOp) (a b : Expr) (t : TE) : Prop :=
  ∀ (pins : List (Addr × Obj)) (s : Shared) (σ : St) (H : Hp) (Q : VK), Inv X pins σ H s → t σ H Q →
    wpAny (model X.prog X.w) X.A (eval a X.env) (fun v s₁ => wpAny (model X.prog X.w) X.A (eval b X.env) (fun u s₂ => wpAny (model X.prog X.w) X.A (compareOp op v u) (EP X pins σ Q) X.xe s₂) X.xe s₁) X.xe s
theorem nobehind (b : Expr) {op : CmpOp} (h : op ≠ .In) (h2 : op ≠ .NotIn) : behindInMarks op b = false := by
  have e1 : (op == CmpOp.In) = false := by cases op <;> first | rfl | exact absurd rfl h
  have e2 : (op == CmpOp.NotIn) = false := by cases op <;> first | rfl | exact absurd rfl h2
  cases b <;> simp [behindInMarks, e1, e2]
def tCmp (p : Int → Int → Bool) (ta tb : TE) : TE := fun σ H Q => t2I ta tb (fun i j H2 => Q (.bl (p i j)) H2) σ H
abbrev tLt : TE → TE → TE := tCmp fun i j => decide (i < j)
abbrev tLe : TE → TE → TE := tCmp fun i j => decide (i ≤ j)
abbrev tGt : TE → TE → TE := tCmp fun i j => decide (j < i)
abbrev tGe : TE → TE → TE := tCmp fun i j => decide (j ≤ i)
abbrev tEqI : TE → TE → TE := tCmp fun i j => decide (i = j)
abbrev tNeI : TE → TE → TE := tCmp fun i j => !decide (i = j)
/-- a comparison of two ints, by its rule -/
theorem pc_int {op : CmpOp} {p : Int → Int → Bool} (ha : PE X a ta) (hb : PE X b tb)
    (rule : ∀ (i j : Int) (t u : Tok) (Q : Value → Shared → Prop) (s : Shared), Q (.bool (p i j)) s → wpAny (model X.prog X.w) X.A (compareOp op (.int i t) (.int j u)) Q X.xe s) : PC X op a b (tCmp p ta tb) := by
  intro pins s σ H Q I h
  refine bin ha hb I h fun v u s2 x y H2 I2 rx ry q => ?_
  obtain ⟨i, j, rfl, rfl, q⟩ := q
  obtain ⟨t, rfl⟩ := rx
  obtain ⟨t', rfl⟩ := ry
  exact rule i j t t' _ s2 ⟨.bl _, H2, I2, rfl, q⟩
theorem pc_lt (ha : PE X a ta) (hb : PE X b tb) : PC X .Lt a b (tLt ta tb) := pc_int ha hb fun _ _ _ _ _ _ h => lt_int h
theorem pc_le (ha : PE X a ta) (hb : PE X b tb) : PC X .LtE a b (tLe ta tb) := pc_int ha hb fun _ _ _ _ _ _ h => le_int h
theorem pc_gt (ha : PE X a ta) (hb : PE X b tb) : PC X .Gt a b (tGt ta tb) := pc_int ha hb fun _ _ _ _ _ _ h => gt_int h
theorem pc_ge (ha : PE X a ta) (hb : PE X b tb) : PC X .GtE a b (tGe ta tb) := pc_int ha hb fun _ _ _ _ _ _ h => ge_int h
theorem pc_eqI (ha : PE X a ta) (hb : PE X b tb) : PC X .Eq a b (tEqI ta tb) := pc_int ha hb fun _ _ _ _ _ _ h => eq_int (by rw [Bool.beq_eq_decide_eq]; exact h)
theorem pc_neI (ha : PE X a ta) (hb : PE X b tb) : PC X .NotEq a b (tNeI ta tb) := pc_int ha hb fun _ _ _ _ _ _ h => ne_int (by rw [bne, Bool.beq_eq_decide_eq]; exact h)
/-- is None -/
def tIsN (ta : TE) : TE := fun σ H Q => ta σ H fun x H1 => Q (.bl (decide (x = .non))) H1
def tNotN (ta : TE) : TE := fun σ H Q => ta σ H fun x H1 => Q (.bl (!decide (x = .non))) H1
theorem RelV.none_iff {x : V} {v : Value} (r : RelV x v) : (v == Value.none) = decide (x = .non) := by
  cases x with
  | non => cases r; rfl
  | bl _ => cases r; rfl
  | int _ => obtain ⟨t, rfl⟩ := r; rfl
  | str _ => obtain ⟨t, rfl⟩ := r; rfl
  | byt _ => obtain ⟨t, rfl⟩ := r; rfl
  | flt _ => obtain ⟨t, rfl⟩ := r; rfl
  | ref _ => cases r; rfl
  | ty _ => cases r; rfl
theorem pc_isN {j pos'} (ha : PE X a ta) : PC X .Is a (.Constant .none j pos') (tIsN ta) := by
  intro pins s σ H Q I h
  refine thn (ha pins s σ H _ I h) fun v s1 ⟨x, H1, I1, r1, q1⟩ => ?_
  exact Constant_none (is_none_gen ⟨.bl _, H1, I1, by rw [r1.none_iff]; rfl, q1⟩)
theorem pc_notN {j pos'} (ha : PE X a ta) : PC X .IsNot a (.Constant .none j pos') (tNotN ta) := by
  intro pins s σ H Q I h
  refine thn (ha pins s σ H _ I h) fun v s1 ⟨x, H1, I1, r1, q1⟩ => ?_
  exact Constant_none (isnot_none_gen ⟨.bl _, H1, I1, by rw [r1.none_iff]; rfl, q1⟩)
/-- a comparison as a value, as a test -/
def tB (t : TE) : TT := fun σ H Q => t σ H fun x H1 => ∃ c, x = .bl c ∧ Q c H1
theorem pe_cmp {op : CmpOp} {t : TE} (h : PC X op a b t) (h1 : behindInMarks op b = false := by first | exact nobehind _ (by decide) (by decide) | rfl) : PE X (.Compare a [op] [b] pos) t := fun pins s σ H Q I hw => wpAny_Compare1 (h pins s σ H Q I hw) h1
theorem pt_cmp {op : CmpOp} {t : TE} (h : PC X op a b t) (h1 : behindInMarks op b = false := by first | exact nobehind _ (by decide) (by decide) | rfl) : PT X (.Compare a [op] [b] pos) (tB t) := by
  intro pins s σ H Q I hw
  refine wpAny_isTrue_Compare1 (thn (h pins s σ H _ I hw) fun v s1 h1 => thn h1 fun u s2 h2 => thn h2 fun c s3 ⟨x, H1, I1, r1, q1⟩ => ?_) h1
  obtain ⟨d, rfl, q⟩ := q1
  cases r1
  exact wpAny_truthy_bool ⟨H1, I1, q⟩
/-- an expression whose value is a bool, as a test -/
theorem pt_val {e : Expr} {t : TE} (h : PE X e t) (he : ∀ whole, isTrue e X.env whole = (do let v ← whole; standAt e.pos; holding [v] (truthy v)) := by intro _; rfl) : PT X e (tB t) := by
  intro pins s σ H Q I hw
  refine isTrue_plain (thn (h pins s σ H _ I hw) fun v s1 ⟨x, H1, I1, r1, q1⟩ => ?_) (he _)
  obtain ⟨d, rfl, q⟩ := q1
  cases r1
  exact wpAny_truthy_bool ⟨H1, I1, q⟩
/-! ### and, or, not -/
variable {tA tB' : TT} {rest : List Expr}
def tAnd (t u : TT) : TT := fun σ H Q => t σ H fun c H1 => if c = true then u σ H1 Q else Q false H1
def tOr (t u : TT) : TT := fun σ H Q => t σ H fun c H1 => if c = true then Q true H1 else u σ H1 Q
def tNot (t : TT) : TT := fun σ H Q => t σ H fun c H1 => Q (!c) H1
theorem pw_and1 (ha : PT X a tA) : PW X (.BoolOp .And [a] pos) tA := by
  intro wh pins s σ H Q I h
  refine isTrue_and (thn (ha pins s σ H Q I h) fun c s1 e => ?_)
  cases c with
  | true => exact isTrue_and_nil e
  | false => exact e
theorem pw_or1 (ha : PT X a tA) : PW X (.BoolOp .Or [a] pos) tA := by
  intro wh pins s σ H Q I h
  refine isTrue_or (thn (ha pins s σ H Q I h) fun c s1 e => ?_)
  cases c with
  | false => exact isTrue_or_nil e
  | true => exact e
theorem pw_and (ha : PT X a tA) (hb : PW X (.BoolOp .And (b :: rest) pos) tB') : PW X (.BoolOp .And (a :: b :: rest) pos) (tAnd tA tB') := by
  intro wh pins s σ H Q I h
  refine isTrue_and (thn (ha pins s σ H _ I h) fun c s1 ⟨H1, I1, q1⟩ => ?_)
  cases c with
  | true => exact hb wh pins s1 σ H1 Q I1 q1
  | false => exact ⟨H1, I1, q1⟩
theorem pw_or (ha : PT X a tA) (hb : PW X (.BoolOp .Or (b :: rest) pos) tB') : PW X (.BoolOp .Or (a :: b :: rest) pos) (tOr tA tB') := by
  intro wh pins s σ H Q I h
  refine isTrue_or (thn (ha pins s σ H _ I h) fun c s1 ⟨H1, I1, q1⟩ => ?_)
  cases c with
  | true => exact ⟨H1, I1, q1⟩
  | false => exact hb wh pins s1 σ H1 Q I1 q1
theorem pt_not (ha : PT X a tA) : PT X (.UnaryOp .Not a pos) (tNot tA) := by
  intro pins s σ H Q I h
  exact isTrue_not (ha pins s σ H (fun c H1 => Q (!c) H1) I h)
/-- .. as values (bools) -/
def tAndV (ta tb : TE) : TE := fun σ H Q => ta σ H fun x H1 => ∃ c, x = .bl c ∧ if c = true then tb σ H1 Q else Q (.bl false) H1
def tOrV (ta tb : TE) : TE := fun σ H Q => ta σ H fun x H1 => ∃ c, x = .bl c ∧ if c = true then Q (.bl true) H1 else tb σ H1 Q
def tNotV (ta : TE) : TE := fun σ H Q => ta σ H fun x H1 => ∃ c, x = .bl c ∧ Q (.bl (!c)) H1
theorem pe_one {op} {t : TE} (h : PE X a t) : PE X (.BoolOp op [a] pos) t := fun pins s σ H Q I hw => BoolOp_one (h pins s σ H Q I hw)
theorem pe_and (ha : PE X a ta) (hb : PE X (.BoolOp .And (b :: rest) pos) tb) : PE X (.BoolOp .And (a :: b :: rest) pos) (tAndV ta tb) := by
  intro pins s σ H Q I h
  refine BoolOp_and (thn (ha pins s σ H _ I h) fun v s1 ⟨x, H1, I1, r1, q1⟩ => ?_)
  obtain ⟨c, rfl, q1⟩ := q1
  cases r1
  refine wpAny_truthy_bool ?_
  cases c with
  | true => exact hb pins s1 σ H1 Q I1 q1
  | false => exact ⟨.bl false, H1, I1, rfl, q1⟩
theorem pe_or (ha : PE X a ta) (hb : PE X (.BoolOp .Or (b :: rest) pos) tb) : PE X (.BoolOp .Or (a :: b :: rest) pos) (tOrV ta tb) := by
  intro pins s σ H Q I h
  refine BoolOp_or (thn (ha pins s σ H _ I h) fun v s1 ⟨x, H1, I1, r1, q1⟩ => ?_)
  obtain ⟨c, rfl, q1⟩ := q1
  cases r1
  refine wpAny_truthy_bool ?_
  cases c with
  | false => exact hb pins s1 σ H1 Q I1 q1
  | true => exact ⟨.bl true, H1, I1, rfl, q1⟩
theorem pe_not (ha : PE X a ta) : PE X (.UnaryOp .Not a pos) (tNotV ta) := by
  intro pins s σ H Q I h
  refine UnaryOp_ (thn (ha pins s σ H _ I h) fun v s1 ⟨x, H1, I1, r1, q1⟩ => ?_)
  obtain ⟨c, rfl, q1⟩ := q1
  cases r1
  exact not_of (wpAny_truthy_bool ⟨.bl (!c), H1, I1, rfl, q1⟩)
/-- a if t else b -/
def tIf (t : TT) (ta tb : TE) : TE := fun σ H Q => t σ H fun c H1 => if c = true then ta σ H1 Q else tb σ H1 Q
theorem pe_ifExp {c : Expr} (hc : PT X c tA) (ha : PE X a ta) (hb : PE X b tb) : PE X (.IfExp c a b pos) (tIf tA ta tb) := by
  intro pins s σ H Q I h
  refine wpAny_IfExp (thn (hc pins s σ H _ I h) fun d s1 ⟨H1, I1, q1⟩ => ?_)
  cases d with
  | true => exact ha pins s1 σ H1 Q I1 q1
  | false => exact hb pins s1 σ H1 Q I1 q1
end
end L2
namespace L2
open PySem PySem.Spec PyProof.Rows
/-! ### a list, a tuple that is read: tracked, frozen, or an object of the module -/
def SqL (K : PySem.W.Frag) (H : Hp) (a : Addr) (xs : List V) : Prop :=
  Rd H a (.lst xs) ∨
    ∃ (o : Obj) (its : Array Value) (n : Nat), K.lookup a = some o ∧ o.cls = .type "list" ∧ o.dict = none ∧ o.data = .seq its n ∧ its.size ≤ sizeLine ∧ Vals xs its.toList
def SqT (K : PySem.W.Frag) (H : Hp) (a : Addr) (xs : List V) : Prop :=
  Rd H a (.tup xs) ∨
    ∃ (o : Obj) (its : Array Value) (n : Nat), K.lookup a = some o ∧ o.cls = .type "tuple" ∧ o.data = .seq its n ∧ its.size ≤ sizeLine ∧ Vals xs its.toList
def absV : Value → Option V
  | .none => some .non
  | .bool b => some (.bl b)
  | .int i _ => some (.int i)
  | .str x _ => some (.str x)
  | .bytes b _ => some (.byt b)
  | .float b _ => some (.flt b)
  | .ref a => some (.ref a)
  | .type n => some (.ty n)
  | _ => none
theorem RelV.abs {x : V} {u : Value} (r : RelV x u) : absV u = some x := by
  cases x with
  | non => cases r; rfl
  | bl _ => cases r; rfl
  | int _ => obtain ⟨t, rfl⟩ := r; rfl
  | str _ => obtain ⟨t, rfl⟩ := r; rfl
  | byt _ => obtain ⟨t, rfl⟩ := r; rfl
  | flt _ => obtain ⟨t, rfl⟩ := r; rfl
  | ref _ => cases r; rfl
  | ty _ => cases r; rfl
theorem RelV.inj {x y : V} {u : Value} (r : RelV x u) (q : RelV y u) : x = y := Option.some.inj (r.abs.symm.trans q.abs)
theorem Vals.inj : ∀ {xs ys : List V} {us : List Value}, Vals xs us → Vals ys us → xs = ys
  | _, _, _, .nil, .nil => rfl
  | _, _, _, .cons r t, .cons r' t' => by rw [r.inj r', Vals.inj t t']
section
variable {X : Cx} {pins : List (Addr × Obj)} {σ : St} {H : Hp} {s : Shared} {a : Addr} {xs ys : List V}
theorem SqL.of {K : PySem.W.Frag} (h : H a = some (.lst xs)) : SqL K H a xs := .inl (.inl h)
theorem SqT.of {K : PySem.W.Frag} (h : H a = some (.tup xs)) : SqT K H a xs := .inl (.inl h)
theorem Inv.list (I : Inv X pins σ H s) (h : SqL X.K H a xs) : ∃ its : List Value, Vals xs its ∧ PlainL s.heap a its.toArray ∧ xs.length ≤ sizeLine := by
  rcases h with h | ⟨o, its, n, hk, hc, hd, hs, hz, r⟩
  · obtain ⟨z, its, n, r, e⟩ := h.ok I.hok
    exact ⟨its, r, ⟨_, n, e, rfl, rfl, rfl⟩, z⟩
  · refine ⟨its.toList, r, ⟨o, n, I.kIn a o hk, hc, hd, by simpa using hs⟩, ?_⟩
    have e := r.length
    simp only [Array.length_toList] at e
    omega
theorem Inv.tuple (I : Inv X pins σ H s) (h : SqT X.K H a xs) : ∃ its : List Value, Vals xs its ∧ IsTup s.heap a its.toArray ∧ xs.length ≤ sizeLine := by
  rcases h with h | ⟨o, its, n, hk, hc, hs, hz, r⟩
  · obtain ⟨z, its, r, p⟩ := h.ok I.hok
    exact ⟨its, r, p, z⟩
  · refine ⟨its.toList, r, ⟨o, I.kIn a o hk, hc, n, by simpa using hs⟩, ?_⟩
    have e := r.length
    simp only [Array.length_toList] at e
    omega
theorem Inv.list_inj (I : Inv X pins σ H s) (h : SqL X.K H a xs) (h' : SqL X.K H a ys) : xs = ys := by
  obtain ⟨its, r, ⟨o, n, e, _, _, d⟩, _⟩ := I.list h
  obtain ⟨its', r', ⟨o', n', e', _, _, d'⟩, _⟩ := I.list h'
  rw [e] at e'; cases e'
  rw [d] at d'
  injection d' with d1 _
  have : its = its' := by simpa using congrArg Array.toList d1
  subst this
  exact r.inj r'
theorem Inv.tuple_inj (I : Inv X pins σ H s) (h : SqT X.K H a xs) (h' : SqT X.K H a ys) : xs = ys := by
  obtain ⟨its, r, ⟨o, e, _, n, d⟩, _⟩ := I.tuple h
  obtain ⟨its', r', ⟨o', e', _, n', d'⟩, _⟩ := I.tuple h'
  rw [e] at e'; cases e'
  rw [d] at d'
  injection d' with d1 _
  have : its = its' := by simpa using congrArg Array.toList d1
  subst this
  exact r.inj r'
end
/-! ### another wish about exceptions -/
abbrev Cx.wish (X : Cx) (E : Value → Shared → Prop) : Cx := { X with xe := E }
/-- no exception leaves -/
abbrev Cx.nox (X : Cx) : Cx := X.wish fun _ _ => False
theorem Cx.Ok.wish {X : Cx} (ok : X.Ok) (E : Value → Shared → Prop) : (X.wish E).Ok :=
  ⟨ok.mod, ok.kind, ok.glob, ok.blt, ok.above, ok.inj, ok.has, ok.cab, ok.hd, ok.frames, ok.stk, ok.exf, ok.bs, ok.bsz, ok.noex, ok.exfs, ok.funs, ok.frf⟩
theorem Cx.Ok.unwish {X : Cx} {E : Value → Shared → Prop} (ok : (X.wish E).Ok) : X.Ok :=
  ⟨ok.mod, ok.kind, ok.glob, ok.blt, ok.above, ok.inj, ok.has, ok.cab, ok.hd, ok.frames, ok.stk, ok.exf, ok.bs, ok.bsz, ok.noex, ok.exfs, ok.funs, ok.frf⟩
section
variable {X : Cx} {pins : List (Addr × Obj)} {σ : St} {H : Hp} {s : Shared} {E : Value → Shared → Prop}
theorem Inv.wish (I : Inv X pins σ H s) (E : Value → Shared → Prop) : Inv (X.wish E) pins σ H s := ⟨I.ok.wish E, I.os, I.bare, I.base, I.loc, I.cell, I.free, I.freeC, I.pin, I.hok, I.len⟩
theorem Inv.unwish (I : Inv (X.wish E) pins σ H s) : Inv X pins σ H s := ⟨I.ok.unwish, I.os, I.bare, I.base, I.loc, I.cell, I.free, I.freeC, I.pin, I.hok, I.len⟩
theorem SP.unwish {D : Ends} {f : Flow} {s' : Shared} (h : SP (X.wish E) pins D f s') : SP X pins D f s' := by
  cases f with
  | next => obtain ⟨σ', H', I, q⟩ := h; exact ⟨σ', H', I.unwish, q⟩
  | brk => obtain ⟨σ', H', I, q⟩ := h; exact ⟨σ', H', I.unwish, q⟩
  | cont => obtain ⟨σ', H', I, q⟩ := h; exact ⟨σ', H', I.unwish, q⟩
  | ret u => obtain ⟨v, σ', H', I, r, q⟩ := h; exact ⟨v, σ', H', I.unwish, r, q⟩
theorem PE.nox {e : Expr} {t : TE} (h : PE X.nox e t) : PE X e t := fun pins s σ H Q I hw =>
  wpAny_mono (h pins s σ H Q (I.wish _) hw) (fun _ _ ⟨v, H', I', r, q⟩ => ⟨v, H', I'.unwish, r, q⟩) fun _ _ z => False.elim z
theorem PT.nox {e : Expr} {t : TT} (h : PT X.nox e t) : PT X e t := fun pins s σ H Q I hw =>
  wpAny_mono (h pins s σ H Q (I.wish _) hw) (fun _ _ ⟨H', I', q⟩ => ⟨H', I'.unwish, q⟩) fun _ _ z => False.elim z
theorem PSs.nox {st : List Stmt} {t : TS} (h : PSs X.nox st t) : PSs X st t := fun pins s σ H D I hw =>
  wpAny_mono (h pins s σ H D (I.wish _) hw) (fun _ _ q => q.unwish) fun _ _ z => False.elim z
end
/-! ### blocks and small statements -/
section
variable {X : Cx} {st : Stmt} {rest : List Stmt} {t u : TS} {e : Expr} {te : TE} {pos : Pos}
def tNext : TS := fun D σ H => D.nx σ H
def tSeq (t u : TS) : TS := fun D σ H => t { D with nx := u D } σ H
theorem pss_nil : PSs X [] tNext := fun _ _ σ H _ I h => wpAny_execs_nil ⟨σ, H, I, h⟩
theorem pss_cons (h1 : PS X st t) (h2 : PSs X rest u) : PSs X (st :: rest) (tSeq t u) := by
  intro pins s σ H D I h
  refine wpAny_execs_cons (thn (h1 pins s σ H { D with nx := u D } I h) fun f s1 q => ?_)
  cases f with
  | next =>
    obtain ⟨σ', H', I', q⟩ := q
    exact h2 pins s1 σ' H' D I' q
  | ret v => exact q
  | brk => exact q
  | cont => exact q
theorem pss_one (h1 : PS X st t) : PSs X [st] t := by
  intro pins s σ H D I h
  refine wpAny_execs_cons (thn (h1 pins s σ H D I h) fun f s1 q => ?_)
  cases f with
  | next => exact wpAny_execs_nil q
  | ret v => exact q
  | brk => exact q
  | cont => exact q
def tBreak : TS := fun D σ H => D.bk σ H
def tCont : TS := fun D σ H => D.ct σ H
theorem ps_pass : PS X (.Pass pos) tNext := fun _ _ σ H _ I h => wpAny_Pass ⟨σ, H, I, h⟩
theorem ps_break : PS X (.Break pos) tBreak := fun _ _ σ H _ I h => wpAny_Break ⟨σ, H, I, h⟩
theorem ps_continue : PS X (.Continue pos) tCont := fun _ _ σ H _ I h => wpAny_Continue ⟨σ, H, I, h⟩
/-- in a def's body nothing is shown -/
theorem Inv.quiet {pins : List (Addr × Obj)} {σ : St} {H : Hp} {s : Shared} (I : Inv X pins σ H s) : interactive X.env = false := by simp [interactive, I.ok.kind]
/-- a docstring -/
theorem ps_doc {x j pos pos'} : PS X (.Expr (.Constant (.str x) j pos) pos') tNext := fun _ s σ H _ I h => wpAny_Expr (Calls.Constant_str (show SP X _ _ .next { s with toks := s.toks + 1 } from ⟨σ, H, I.tok _, h⟩)) I.quiet
/-- an expression whose value is dropped -/
def tDrop (te : TE) : TS := fun D σ H => te σ H fun _ H1 => D.nx σ H1
theorem ps_expr (he : PE X e te) (hs : swapsWith e none pos.line X.env = pure false := by rfl) : PS X (.Expr e pos) (tDrop te) := by
  intro pins s σ H D I h
  exact wpAny_Expr_any (thn (he pins s σ H _ I h) fun v s1 ⟨x, H1, I1, r1, q1⟩ => ⟨σ, H1, I1, q1⟩) I.quiet hs
def tRet (te : TE) : TS := fun D σ H => te σ H D.rt
theorem ps_ret (he : PE X e te) : PS X (.Return (some e) pos) (tRet te) := by
  intro pins s σ H D I h
  exact wpAny_Return_some (thn (he pins s σ H _ I h) fun v s1 ⟨x, H1, I1, r1, q1⟩ => ⟨x, σ, H1, I1, r1, q1⟩)
def tRetN : TS := fun D _ H => D.rt .non H
theorem ps_retN : PS X (.Return none pos) tRetN := fun _ _ σ H _ I h => wpAny_Return_none ⟨.non, σ, H, I, rfl, h⟩
def tIfS (c : TT) (t u : TS) : TS := fun D σ H => c σ H fun b H1 => if b = true then t D σ H1 else u D σ H1
theorem ps_if {c : Expr} {a b : List Stmt} {tc : TT} (hc : PT X c tc) (ha : PSs X a t) (hb : PSs X b u) : PS X (.If c a b pos) (tIfS tc t u) := by
  intro pins s σ H D I h
  refine wpAny_If (thn (hc pins s σ H _ I h) fun d s1 ⟨H1, I1, q1⟩ => ?_)
  cases d with
  | true => exact ha pins s1 σ H1 D I1 q1
  | false => exact hb pins s1 σ H1 D I1 q1
/-- code that the proof never comes to -/
def tNever : TS := fun _ _ _ => False
theorem ps_never : PS X st tNever := fun _ _ _ _ _ _ h => h.elim
theorem pss_never {sts : List Stmt} : PSs X sts tNever := fun _ _ _ _ _ _ h => h.elim
end
/-! ### targets -/
abbrev TG := V → St → Hp → (St → Hp → Prop) → Prop
abbrev TGs := List V → St → Hp → (St → Hp → Prop) → Prop
def PG (X : Cx) (target : Expr) (t : TG) : Prop :=
  ∀ (pins : List (Addr × Obj)) (s : Shared) (σ : St) (H : Hp) (v : V) (u : Value) (Q : St → Hp → Prop), Inv X pins σ H s → RelV v u → t v σ H Q →
    wpAny (model X.prog X.w) X.A (assign target X.env u) (fun _ s' => ∃ σ' H', Inv X pins σ' H' s' ∧ Q σ' H') X.xe s
/-- several targets, one after another -/
def PGs (X : Cx) (ts : List Expr) (t : TGs) : Prop :=
  ∀ (pins : List (Addr × Obj)) (s : Shared) (σ : St) (H : Hp) (vs : List V) (us : List Value) (Q : St → Hp → Prop), Inv X pins σ H s → Vals vs us → t vs σ H Q →
    wpAny (model X.prog X.w) X.A (assignInOrder ((assignEach ts X.env).map (·.2)) us) (fun _ s' => ∃ σ' H', Inv X pins σ' H' s' ∧ Q σ' H') X.xe s
/-- o[i] = v, by values -/
abbrev TSet := V → V → V → Hp → (Hp → Prop) → Prop
def PSet (X : Cx) (t : TSet) : Prop :=
  ∀ (pins : List (Addr × Obj)) (s : Shared) (σ : St) (H : Hp) (o i v : V) (ov iv u : Value) (Q : Hp → Prop), Inv X pins σ H s → RelV o ov → RelV i iv → RelV v u → t o i v H Q →
    wpAny (model X.prog X.w) X.A (setItem ov iv u) (fun _ s' => ∃ H', Inv X pins σ H' s' ∧ Q H') X.xe s
/-- a op= b, by values -/
abbrev TIp := V → V → Hp → VK → Prop
def PIp (X : Cx) (op : Operator) (t : TIp) : Prop :=
  ∀ (pins : List (Addr × Obj)) (s : Shared) (σ : St) (H : Hp) (x y : V) (v u : Value) (Q : VK), Inv X pins σ H s → RelV x v → RelV y u → t x y H Q →
    wpAny (model X.prog X.w) X.A (inplaceOp op v u) (EP X pins σ Q) X.xe s
section
variable {X : Cx} {pos : Pos}
def gName (i : Nat) : TG := fun v σ H Q => Q (σ.set i (some v)) H
theorem pg_name {i : Nat} {x : Str} (hN : X.N.Nodup) (hi : X.N[i]? = some x) (hx : Loc X.env.scope x) (hf : X.fn x = true ∨ X.env.scope.names.lookup x = some .local := by first | exact .inl rfl | exact .inr rfl | assumption) : PG X (.Name x pos) (gName i) := by
  intro pins s σ H v u Q I r h
  exact wpAny_assign_Name (store_ok I hN hi hx r (fun s' I' => ⟨_, H, I', h⟩) hf)
def gNil : TGs := fun vs σ H Q => vs = [] ∧ Q σ H
def gCons (t : TG) (u : TGs) : TGs := fun vs σ H Q => ∃ v r, vs = v :: r ∧ t v σ H fun σ' H' => u r σ' H' Q
theorem pgs_nil : PGs X [] gNil := by
  intro pins s σ H vs us Q I r h
  obtain ⟨e, h⟩ := h
  subst e
  cases r
  exact assignInOrder_nil ⟨σ, H, I, h⟩
theorem pgs_cons {e : Expr} {es : List Expr} {t : TG} {u : TGs} (h1 : PG X e t) (h2 : PGs X es u)
    (hs : (assignEach (e :: es) X.env).map (·.2) = assign e X.env :: (assignEach es X.env).map (·.2) := by rfl) : PGs X (e :: es) (gCons t u) := by
  intro pins s σ H vs us Q I r h
  obtain ⟨v, vr, e1, h⟩ := h
  subst e1
  cases r with
  | cons r rr =>
    rw [hs]
    refine assignInOrder_cons (thn (h1 pins s σ H _ _ _ I r h) fun _ s1 ⟨σ1, H1, I1, q1⟩ => ?_)
    exact h2 pins s1 σ1 H1 _ _ Q I1 rr q1
/-- (a, b, ..) = a tuple of that length -/
def gTup (K : PySem.W.Frag) (n : Nat) (t : TGs) : TG := fun v σ H Q => ∃ a xs, v = .ref a ∧ SqT K H a xs ∧ xs.length = n ∧ t xs σ H Q
theorem pg_tup {es : List Expr} {k : Nat} {t : TGs} {n : Nat} (hc : X.calm = true) (h : PGs X es t)
    (hn : (assignEach es X.env).length = n := by rfl) (hst : (assignEach es X.env).findIdx? (·.1) = none := by rfl) : PG X (.Tuple es k pos) (gTup X.K n t) := by
  intro pins s σ H v u Q I r hw
  obtain ⟨a, xs, e1, hq, hl, hw⟩ := hw
  subst e1
  cases r
  obtain ⟨its, rv, ht, hz⟩ := I.tuple hq
  refine assign_Tuple_tuple (I.ok.hd hc) ht (by simp [hn, ← hl, rv.length]) hst fun h' hx => ?_
  have I1 : Inv X pins σ H { s with heap := h' } := I.kept (t' := s.toks) fun b o e => hx b o (Nat.ne_of_lt (Heap.lt_size e)) e
  exact h pins _ σ H xs _ Q I1 (by simpa using rv) hw
/-- o[i] = .. -/
def gSub (to ti : TE) (t : TSet) : TG := fun v σ H Q => to σ H fun o H1 => ti σ H1 fun i H2 => t o i v H2 fun H3 => Q σ H3
theorem pg_sub {o i : Expr} {to ti : TE} {t : TSet} (ho : PE X o to) (hi : PE X i ti) (hs : PSet X t)
    (ha : ∀ v, assign (.Subscript o i pos) X.env v = (do
      let ov ← holding [v] (eval o X.env)
      let iv ← holding [v, ov] (eval i X.env)
      standAt pos
      holding [v, ov, iv] (setItem ov iv v)
      release [v, ov, iv] []) := by intro _; rfl) : PG X (.Subscript o i pos) (gSub to ti t) := by
  intro pins s σ H v u Q I r h
  rw [ha]
  refine wpAny_bind (wpAny_holding (thn (ho pins s σ H _ I h) fun ov s1 ⟨x, H1, I1, r1, q1⟩ => ?_))
  refine wpAny_bind (wpAny_holding (thn (hi pins s1 σ H1 _ I1 q1) fun iv s2 ⟨y, H2, I2, r2, q2⟩ => ?_))
  refine wpAny_bind (wpAny_standAt (wpAny_bind (wpAny_holding (thn (hs pins s2 σ H2 x y v ov iv u _ I2 r1 r2 r q2) fun _ s3 ⟨H3, I3, q3⟩ => ?_))))
  exact wpAny_release ⟨σ, H3, I3, q3⟩
/-- target = value -/
def tAsg (te : TE) (g : TG) : TS := fun D σ H => te σ H fun x H1 => g x σ H1 D.nx
theorem ps_asg {tg e : Expr} {te : TE} {g : TG} (he : PE X e te) (hg : PG X tg g) (hs : swapsWithSole [tg] e pos.line X.env = pure false := by rfl) (hw : swappedStores [tg] e X.env = pure none := by rfl)
    (h1 : (assignEach [tg] X.env).map (·.2) = [assign tg X.env] := by rfl) : PS X (.Assign [tg] e pos) (tAsg te g) := by
  intro pins s σ H D I h
  refine wpAny_Assign_stores (thn (he pins s σ H _ I h) fun v s1 ⟨x, H1, I1, r1, q1⟩ => ?_) hs hw
  rw [h1]
  exact thn (hg pins s1 σ H1 x v _ I1 r1 q1) fun _ s2 q => q
/-- name = value -/
theorem ps_set {i : Nat} {x : Str} {e : Expr} {te : TE} {pos' : Pos} (hN : X.N.Nodup) (hi : X.N[i]? = some x) (hx : Loc X.env.scope x) (he : PE X e te) (hs : swapsWith e (some (.Name x pos')) pos.line X.env = pure false := by rfl) (hf : X.fn x = true ∨ X.env.scope.names.lookup x = some .local := by first | exact .inl rfl | exact .inr rfl | assumption) :
    PS X (.Assign [.Name x pos'] e pos) (tAsg te (gName i)) := by
  intro pins s σ H D I h
  refine wpAny_Assign_Name (thn (he pins s σ H _ I h) fun v s1 ⟨y, H1, I1, r1, q1⟩ => ?_) hs
  exact store_ok I1 hN hi hx r1 (fun s2 I2 => ⟨_, H1, I2, q1⟩) hf
/-- a, b = x, y with plain local names: stored from the right; the pair itself is not tracked (the opening rows as in PyProof/Rows/TupAssign.lean:23) -/
def tPar (i j : Nat) (ta : TA) : TS := fun D σ H => ta σ H fun vs H1 => ∃ v w, vs = [v, w] ∧ D.nx ((σ.set i (some v)).set j (some w)) H1
theorem ps_par {i j : Nat} {x y : Str} {a b : Expr} {ta : TA} {px py pt : Pos} {kt k2 pt2} (hc : X.calm = true) (hN : X.N.Nodup) (hi : X.N[i]? = some x) (hj : X.N[j]? = some y) (hij : i ≠ j)
    (hx : X.env.scope.names.lookup x = some .local) (hy : X.env.scope.names.lookup y = some .local) (ha : PA X [a, b] ta)
    (hw : swappedStores [.Tuple [.Name x px, .Name y py] kt pt] (.Tuple [a, b] k2 pt2) X.env = pure (some [x, y]))
    (hs : swapsWithSole [.Tuple [.Name x px, .Name y py] kt pt] (.Tuple [a, b] k2 pt2) pos.line X.env = pure false := by rfl) :
    PS X (.Assign [.Tuple [.Name x px, .Name y py] kt pt] (.Tuple [a, b] k2 pt2) pos) (tPar i j ta) := by
  intro pins s σ H D I h
  rw [exec_Assign_arm]
  refine wpAny_bind (wpAny_standAt ?_)
  rw [hs]
  refine wpAny_bind (wpAny_pure ?_)
  rw [if_neg (by decide)]
  refine wpAny_bind (Tuple_ (thn (ha _ pins s σ H _ I h) fun us s1 ⟨vs, H1, I1, r1, q1⟩ => ?_))
  obtain ⟨v, w, e1, q1⟩ := q1
  subst e1
  obtain ⟨u1, u2, rfl, rv, rw'⟩ : ∃ u1 u2, us = [u1, u2] ∧ RelV v u1 ∧ RelV w u2 := by
    cases r1 with
    | cons p q =>
      cases q with
      | cons p' q' =>
        cases q'
        exact ⟨_, _, rfl, p, p'⟩
  refine wpAny_newObj_type ?_ (by show 2 ≤ sizeLine; decide)
  have I2 : Inv X pins σ H1 { s1 with heap := s1.heap.push { cls := .type "tuple", data := .seq [u1, u2].toArray } } := I1.kept (t' := s1.toks) fun b o e => Heap.get?_push_of_some _ e
  rw [hw]
  refine wpAny_bind (wpAny_pure ?_)
  show wpAny (model X.prog X.w) X.A (do rule "assign.swapped-stores"; let items ← unpackItems (.ref s1.heap.objs.size) 2 none; assignInOrder [fun v => bindName X.env y v, fun v => bindName X.env x v] items.reverse; pure Flow.next) _ _ _
  refine wpAny_bind (wpAny_rule (wpAny_bind (unpackItems_tuple (items := #[u1, u2]) (I.ok.hd hc) (IsTup.new s1.heap _) fun h' hx' => ?_)))
  have I3 := I2.kept (h' := h') (t' := s1.toks) fun b o e => hx' b o (Nat.ne_of_lt (Heap.lt_size e)) e
  show wpAny _ _ (assignInOrder [fun v => bindName X.env y v, fun v => bindName X.env x v] [u2, u1] >>= fun _ => pure Flow.next) _ _ _
  refine wpAny_bind (assignInOrder_cons (wpAny_bindName (store_ok I3 hN hj (.inl hy) rw' (fun s2 I4 => ?_) (.inr hy))))
  refine assignInOrder_cons (wpAny_bindName (store_ok I4 hN hi (.inl hx) rv (fun s3 I5 => assignInOrder_nil (wpAny_pure ?_)) (.inr hx)))
  rw [List.set_comm _ _ (Ne.symm hij)] at I5
  exact ⟨_, H1, I5, q1⟩
/-- name op= e -/
def tAug (i : Nat) (te : TE) (ti : TIp) : TS := fun D σ H => ∃ x, σ[i]? = some (some x) ∧ te σ H fun y H1 => ti x y H1 fun z H2 => D.nx (σ.set i (some z)) H2
theorem ps_aug {i : Nat} {x : Str} {e : Expr} {te : TE} {op : Operator} {ti : TIp} {pos' : Pos} (hN : X.N.Nodup) (hi : X.N[i]? = some x) (hx : Loc X.env.scope x) (he : PE X e te) (ho : PIp X op ti) (hf : X.fn x = true ∨ X.env.scope.names.lookup x = some .local := by first | exact .inl rfl | exact .inr rfl | assumption) :
    PS X (.AugAssign (.Name x pos') op e pos) (tAug i te ti) := by
  intro pins s σ H D I h
  obtain ⟨v, e1, h⟩ := h
  obtain ⟨m, hn, hl⟩ := I.loc
  have vis : Vis X.env.scope x := by rcases hx with k | k; exact .inl k; exact .inr (.inl k)
  obtain ⟨u, r, l⟩ := hl i x v hi e1 vis
  refine wpAny_AugAssign_Name ?_
  have go : wpAny (model X.prog X.w) X.A (eval e X.env) (fun w s₂ => wpAny (model X.prog X.w) X.A (inplaceOp op u w) (fun r s₃ => wpAny (model X.prog X.w) X.A (storeName X.env x r) (fun _ => SP X pins D .next) X.xe s₃) X.xe s₂) X.xe s := by
    refine thn (he pins s σ H _ I h) fun w s1 ⟨y, H1, I1, r1, q1⟩ => ?_
    refine thn (ho pins s1 σ H1 v y u w _ I1 r r1 q1) fun z s2 ⟨zv, H2, I2, r2, q2⟩ => ?_
    exact store_ok I2 hN hi hx r2 (fun s3 I3 => ⟨_, H2, I3, q2⟩) hf
  rcases l with ⟨hk, hm⟩ | ⟨hk, c, hc, hcell⟩
  · exact wpAny_loadName_local I.ok.kind hk hn hm go
  · rcases hk with hk | hk
    · exact wpAny_loadName_cell I.ok.kind hk hc hcell go
    · rcases hx with k | k
      · have : X.env.scope.names.lookup x = some .free := hk
        rw [k] at this; cases this
      · have : X.env.scope.names.lookup x = some .free := hk
        rw [k] at this; cases this
/-- o[i] op= e -/
def tAugS (to ti te : TE) (tget : V → V → Hp → VK → Prop) (tip : TIp) (tset : TSet) : TS := fun D σ H => to σ H fun o H1 => ti σ H1 fun i H2 => tget o i H2 fun x H3 => te σ H3 fun y H4 => tip x y H4 fun z H5 => tset o i z H5 fun H6 => D.nx σ H6
/-- o[i], by values -/
def PGet (X : Cx) (t : V → V → Hp → VK → Prop) : Prop :=
  ∀ (pins : List (Addr × Obj)) (s : Shared) (σ : St) (H : Hp) (o i : V) (ov iv : Value) (Q : VK), Inv X pins σ H s → RelV o ov → RelV i iv → t o i H Q →
    wpAny (model X.prog X.w) X.A (getItem ov iv) (EP X pins σ Q) X.xe s
theorem ps_augS {o i e : Expr} {to ti te : TE} {tget : V → V → Hp → VK → Prop} {tip : TIp} {tset : TSet} {op : Operator} {tpos : Pos} (ho : PE X o to) (hi : PE X i ti) (hg : PGet X tget) (he : PE X e te) (hp : PIp X op tip) (hs : PSet X tset)
    (ha : ∀ ov iv new, augStore i ov iv new = (do holding [new, ov, iv] (setItem ov iv new); release [new, ov, iv] []; pure .next) := by intros; rfl) : PS X (.AugAssign (.Subscript o i tpos) op e pos) (tAugS to ti te tget tip tset) := by
  intro pins s σ H D I h
  refine wpAny_AugAssign_SubscriptAny (thn (ho pins s σ H _ I h) fun ov s1 ⟨x1, H1, I1, r1, q1⟩ => ?_) ha
  refine thn (hi pins s1 σ H1 _ I1 q1) fun iv s2 ⟨x2, H2, I2, r2, q2⟩ => ?_
  refine thn (hg pins s2 σ H2 x1 x2 ov iv _ I2 r1 r2 q2) fun old s3 ⟨x3, H3, I3, r3, q3⟩ => ?_
  refine thn (he pins s3 σ H3 _ I3 q3) fun v s4 ⟨x4, H4, I4, r4, q4⟩ => ?_
  refine thn (hp pins s4 σ H4 x3 x4 old v _ I4 r3 r4 q4) fun new s5 ⟨x5, H5, I5, r5, q5⟩ => ?_
  exact thn (hs pins s5 σ H5 x1 x2 x5 ov iv new _ I5 r1 r2 r5 q5) fun _ s6 ⟨H6, I6, q6⟩ => ⟨σ, H6, I6, q6⟩
/-- ints -/
def ipI (f : Int → Int → Int) : TIp := fun x y H Q => ∃ i j, x = .int i ∧ y = .int j ∧ Q (.int (f i j)) H
theorem ip_add : PIp X .Add (ipI fun i j => i + j) := by
  intro pins s σ H x y v u Q I r1 r2 h
  obtain ⟨i, j, e1, e2, q⟩ := h
  subst e1; subst e2
  obtain ⟨t, rfl⟩ := r1
  obtain ⟨t', rfl⟩ := r2
  exact iadd_int ⟨.int _, H, I.tok _, ⟨_, rfl⟩, q⟩
theorem ip_sub : PIp X .Sub (ipI fun i j => i - j) := by
  intro pins s σ H x y v u Q I r1 r2 h
  obtain ⟨i, j, e1, e2, q⟩ := h
  subst e1; subst e2
  obtain ⟨t, rfl⟩ := r1
  obtain ⟨t', rfl⟩ := r2
  exact isub_int ⟨.int _, H, I.tok _, ⟨_, rfl⟩, q⟩
end
/-! ### while -/
section
variable {X : Cx} {pos : Pos}
/-- the invariant W with its measure -/
def tWhile (c : TT) (tb : TS) : TS := fun D σ H => ∃ W : Nat → St → Hp → Prop, (∃ m, W m σ H) ∧ ∀ m σ H, W m σ H →
  c σ H fun b H1 => if b = true then ∃ N : St → Hp → Prop, (∀ σ' H', N σ' H' → ∃ m', m' < m ∧ W m' σ' H') ∧ tb { D with nx := N, ct := N, bk := D.nx } σ H1 else D.nx σ H1
theorem ps_while {c : Expr} {body : List Stmt} {tc : TT} {tb : TS} (hp : PassesOwn (model X.prog X.w) X.A X.env X.xe) (hc : PT X c tc) (hb : PSs X body tb) : PS X (.While c body [] pos) (tWhile tc tb) := by
  intro pins s σ H D I h
  obtain ⟨W, ⟨m0, w0⟩, turn⟩ := h
  refine wpAny_While (codeAny_whileLoop (fun n s' => ∃ σ' H', Inv X pins σ' H' s' ∧ W n σ' H') ?_ m0 ⟨σ, H, I, w0⟩)
  rintro n s1 ⟨σ1, H1, I1, w1⟩
  refine wpAny_passesOwn hp (thn (hc pins s1 σ1 H1 _ I1 (turn n σ1 H1 w1)) fun b s2 ⟨H2, I2, q2⟩ => ?_)
  cases b with
  | true =>
    obtain ⟨N, hN, q2⟩ := q2
    rw [if_pos rfl]
    refine wpAny_passesOwn hp (thn (hb pins s2 σ1 H2 _ I2 q2) fun f s3 q3 => ?_)
    cases f with
    | next =>
      obtain ⟨σ3, H3, I3, n3⟩ := q3
      obtain ⟨m', hm, w3⟩ := hN σ3 H3 n3
      exact ⟨m', hm, σ3, H3, I3, w3⟩
    | cont =>
      obtain ⟨σ3, H3, I3, n3⟩ := q3
      obtain ⟨m', hm, w3⟩ := hN σ3 H3 n3
      exact ⟨m', hm, σ3, H3, I3, w3⟩
    | brk => exact q3
    | ret v => exact q3
  | false =>
    rw [if_neg Bool.false_ne_true]
    exact wpAny_execs_nil ⟨σ1, H2, I2, q2⟩
end
/-! ### what a loop or a comprehension walks -/
/-- at turn i: it yields x (the heap may grow), or it stops -/
structure It where
  go : Nat → Hp → Prop
  yld : Nat → Hp → V → Hp → Prop
  stop : Nat → Hp → Prop
/-- the iterator's own objects may turn: they are not the frame's, not pinned, younger than the entry (or a comprehension's own) -/
def FpOk (X : Cx) (pins : List (Addr × Obj)) (H : Hp) (b : Addr) : Prop :=
  H b = none ∧ b ≠ X.env.locals ∧ b ∉ X.fs ∧ (b ∈ X.ex ∨ X.s₀.heap.objs.size ≤ b) ∧ (∀ x c, X.env.cells.lookup x = some c → c ≠ b) ∧ ∀ p ∈ X.pn ++ pins, p.1 ≠ b
theorem Inv.fpOk {X : Cx} {pins : List (Addr × Obj)} {σ : St} {H H' : Hp} {s : Shared} {b : Addr} (I : Inv X pins σ H s) (hb : s.heap.objs.size ≤ b) (hn : H' b = none) : FpOk X pins H' b := by
  refine ⟨hn, Nat.ne_of_gt (Nat.lt_of_lt_of_le I.lt hb), I.nofs hb, .inr (Nat.le_trans I.sz hb), fun x c e z => ?_, fun p hp z => ?_⟩
  · obtain ⟨v, q⟩ := I.cell x c e
    exact absurd (Nat.lt_of_lt_of_le q.lt (by rw [z]; exact hb)) (Nat.lt_irrefl _)
  · exact absurd (Nat.lt_of_lt_of_le (Heap.lt_size (I.pin p hp).1) (by rw [z]; exact hb)) (Nat.lt_irrefl _)
structure Turn (P : Program) (w : World) (K : PySem.W.Frag) (tg : Expr) (J : It) (fp : List Addr) (it : Addr) (tn : Nat → Heap → Prop) : Prop where
  mem : it ∈ fp
  obj : ∀ i h, tn i h → ∀ b ∈ fp, ∃ o, h.get? b = some o ∧ ∀ v, o.data ≠ .cell v
  keep : ∀ i h h', tn i h → (∀ b ∈ fp, ∀ o, h.get? b = some o → h'.get? b = some o) → tn i h'
  item : ∀ (X : Cx), X.prog = P → X.w = w → X.K = K → X.calm = true → ∀ (i : Nat) (pins : List (Addr × Obj)) (s : Shared) (σ : St) (H : Hp) (E : Value → Shared → Prop), Inv X pins σ H s → (∀ b ∈ fp, FpOk X pins H b) → tn i s.heap → J.go i H →
    wpAny (model P w) X.A (pyNext (.ref it)) (fun r s1 => ∃ u, r = some u ∧
      wpAny (model P w) X.A (letOwnedTupleGo tg (.ref it) u) (fun _ s2 => ∃ x H', Inv X pins σ H' s2 ∧ RelV x u ∧ J.yld i H x H' ∧ tn (i + 1) s2.heap ∧ ∀ b ∈ fp, H' b = none) E s1) E s
  done : ∀ (X : Cx), X.prog = P → X.w = w → X.K = K → X.calm = true → ∀ (i : Nat) (pins : List (Addr × Obj)) (s : Shared) (σ : St) (H : Hp) (E : Value → Shared → Prop), Inv X pins σ H s → (∀ b ∈ fp, FpOk X pins H b) → tn i s.heap → J.stop i H →
    wpAny (model P w) X.A (pyNext (.ref it)) (fun r s1 => r = none ∧ Inv X pins σ H s1) E s
  self : ∀ (A : Around) (i : Nat) (s : Shared) (Q : Value → Shared → Prop) (E : Value → Shared → Prop), tn i s.heap → Q (.ref it) s → wpAny (model P w) A (pyIter (.ref it)) Q E s
abbrev TI := St → Hp → (It → Hp → Prop) → Prop
/-- an iterator has come -/
def PIE (X : Cx) (pins : List (Addr × Obj)) (σ : St) (tg : Expr) (R : It → Hp → Prop) (itv : Value) (s2 : Shared) : Prop :=
  ∃ (it : Addr) (fp : List Addr) (tn : Nat → Heap → Prop) (J : It) (H' : Hp), itv = .ref it ∧ Inv X pins σ H' s2 ∧ Turn X.prog X.w X.K tg J fp it tn ∧ tn 0 s2.heap ∧ (∀ b ∈ fp, FpOk X pins H' b) ∧ R J H'
def PI (X : Cx) (tg iter : Expr) (wi : TI) : Prop :=
  ∀ (pins : List (Addr × Obj)) (s : Shared) (σ : St) (H : Hp) (R : It → Hp → Prop), Inv X pins σ H s → wi σ H R →
    wpAny (model X.prog X.w) X.A (eval iter X.env) (fun v s1 => wpAny (model X.prog X.w) X.A (pyIter v) (PIE X pins σ tg R) X.xe s1) X.xe s
/-- the step ahead of the store is nothing for an iterator that keeps no tuple -/
theorem go_of {M : Model} {A : Around} {E : Value → Shared → Prop} {s : Shared} {tg : Expr} {it : Addr} {u : Value} {o : Obj} {n : String} {vs : Array Value} {Q : Unit → Shared → Prop} (ho : s.heap.get? it = some o) (hc : o.cls = .type n) (hd : o.data = .fields vs)
    (hn : ["enumerate", "zip", "dict_itemiterator", "dict_reverseitemiterator", "odict_iterator", "itertools.zip_longest", "itertools.pairwise"].contains n = false) (hQ : Q () s) : wpAny M A (letOwnedTupleGo tg (.ref it) u) Q E s := by
  unfold letOwnedTupleGo
  cases tg <;> first
    | exact wpAny_pure hQ
    | (cases u <;> first
        | exact wpAny_pure hQ
        | (refine wpAny_bind (wpAny_load ho ?_)
           rw [hc, hd]
           show wpAny M A (if (["enumerate", "zip", "dict_itemiterator", "dict_reverseitemiterator", "odict_iterator", "itertools.zip_longest", "itertools.pairwise"].contains n && vs[0]? == some (rawInt _)) = true then _ else _) Q E s
           rw [if_neg (by intro h; rw [hn, Bool.false_and] at h; cases h)]
           exact wpAny_pure hQ))
/-- the list at a, as it stands at each turn (a loop may append to it) -/
def Itl (K : PySem.W.Frag) (a : Addr) : It :=
  ⟨fun i H => ∃ xs x, SqL K H a xs ∧ xs[i]? = some x, fun i H x H' => H' = H ∧ ∀ xs, SqL K H a xs → xs[i]? = some x, fun i H => ∃ xs, SqL K H a xs ∧ xs.length ≤ i⟩
def Itt (K : PySem.W.Frag) (a : Addr) : It :=
  ⟨fun i H => ∃ xs x, SqT K H a xs ∧ xs[i]? = some x, fun i H x H' => H' = H ∧ ∀ xs, SqT K H a xs → xs[i]? = some x, fun i H => ∃ xs, SqT K H a xs ∧ xs.length ≤ i⟩
/-- lo, lo + 1, .. (n of them) -/
def Itr (lo : Int) (n : Nat) : It := ⟨fun i _ => i < n, fun i H x H' => H' = H ∧ x = .int (lo + i), fun i _ => n ≤ i⟩
theorem turn_list {P : Program} {w : World} {K : PySem.W.Frag} {tg : Expr} (a it : Addr) : Turn P w K tg (Itl K a) [it] it (fun i h => h.IsListIter it a i) where
  mem := by simp
  obj := fun i h st b hb => by
    have e : b = it := by simpa using hb
    subst e
    obtain ⟨o, e, c, d⟩ := st
    exact ⟨o, e, fun v z => by rw [d] at z; cases z⟩
  keep := fun i h h' st k => st.at fun o e => k it (by simp) o e
  item := by
    intro X hP hw hK hc i pins s σ H E I hf st hg
    subst hP hw hK
    obtain ⟨xs, x, hq, hx⟩ := hg
    obtain ⟨its, rv, p, hz⟩ := I.list hq
    obtain ⟨u, hu, ru⟩ := rv.get hx
    obtain ⟨f0, f1, f2, f3, f4, f5⟩ := hf it (by simp)
    refine wpAny_pyNext_list_item st p.isList (x := u) (by simpa using hu) fun h' st' sb => ?_
    have I1 : Inv X pins σ H { s with heap := h' } := I.turned (t' := s.toks) (fun b o hb e => (sb.2 b hb).trans e) f0 f1 f3 f4 f5
    obtain ⟨o, e, c, d⟩ := id st'
    exact ⟨u, rfl, go_of (s := { s with heap := h' }) e c d (by decide) ⟨x, H, I1, ru, ⟨rfl, fun ys hy => by rw [I.list_inj hy hq]; exact hx⟩, st', fun b hb => (hf b hb).1⟩⟩
  done := by
    intro X hP hw hK hc i pins s σ H E I hf st hg
    subst hP hw hK
    obtain ⟨xs, hq, hx⟩ := hg
    obtain ⟨its, rv, p, hz⟩ := I.list hq
    obtain ⟨f0, f1, f2, f3, f4, f5⟩ := hf it (by simp)
    have hl := rv.length
    exact wpAny_pyNext_list_end (I.ok.hd hc) st p.isList (by simp; omega) fun h' eb => ⟨rfl, I.turned (t' := s.toks) (fun b o hb e => eb b o hb e) f0 f1 f3 f4 f5⟩
  self := fun _ _ _ _ _ st h => wpAny_pyIter_listiter st h
theorem turn_tuple {P : Program} {w : World} {K : PySem.W.Frag} {tg : Expr} (a it : Addr) : Turn P w K tg (Itt K a) [it] it (fun i h => h.IsTupleIter it a i) where
  mem := by simp
  obj := fun i h st b hb => by
    have e : b = it := by simpa using hb
    subst e
    obtain ⟨o, e, c, d⟩ := st
    exact ⟨o, e, fun v z => by rw [d] at z; cases z⟩
  keep := fun i h h' st k => st.at fun o e => k it (by simp) o e
  item := by
    intro X hP hw hK hc i pins s σ H E I hf st hg
    subst hP hw hK
    obtain ⟨xs, x, hq, hx⟩ := hg
    obtain ⟨its, rv, p, hz⟩ := I.tuple hq
    obtain ⟨u, hu, ru⟩ := rv.get hx
    obtain ⟨f0, f1, f2, f3, f4, f5⟩ := hf it (by simp)
    refine wpAny_pyNext_tuple_item st (show s.heap.IsTuple a its.toArray from p) (x := u) (by simpa using hu) fun h' st' sb => ?_
    have I1 : Inv X pins σ H { s with heap := h' } := I.turned (t' := s.toks) (fun b o hb e => (sb.2 b hb).trans e) f0 f1 f3 f4 f5
    obtain ⟨o, e, c, d⟩ := id st'
    exact ⟨u, rfl, go_of (s := { s with heap := h' }) e c d (by decide) ⟨x, H, I1, ru, ⟨rfl, fun ys hy => by rw [I.tuple_inj hy hq]; exact hx⟩, st', fun b hb => (hf b hb).1⟩⟩
  done := by
    intro X hP hw hK hc i pins s σ H E I hf st hg
    subst hP hw hK
    obtain ⟨xs, hq, hx⟩ := hg
    obtain ⟨its, rv, p, hz⟩ := I.tuple hq
    obtain ⟨f0, f1, f2, f3, f4, f5⟩ := hf it (by simp)
    have hl := rv.length
    exact wpAny_pyNext_tuple_end (I.ok.hd hc) st (show s.heap.IsTuple a its.toArray from p) (by simp; omega) fun h' eb => ⟨rfl, I.turned (t' := s.toks) (fun b o hb e => eb b o hb e) f0 f1 f3 f4 f5⟩
  self := fun _ _ _ _ _ st h => wpAny_pyIter_tupleiter st h
theorem turn_range {P : Program} {w : World} {K : PySem.W.Frag} {tg : Expr} (it : Addr) (lo : Int) (n : Nat) : Turn P w K tg (Itr lo n) [it] it (fun i h => IsRangeIter h it (lo + (i : Nat) * 1) ((n : Int) - (i : Nat)) 1) where
  mem := by simp
  obj := fun i h st b hb => by
    have e : b = it := by simpa using hb
    subst e
    exact ⟨_, st, fun v z => by
      have z' : Data.fields _ = Data.cell v := z
      cases z'⟩
  keep := fun i h h' st k => k it (by simp) _ st
  item := by
    intro X hP hw hK hc i pins s σ H E I hf st hg
    subst hP hw hK
    obtain ⟨f0, f1, f2, f3, f4, f5⟩ := hf it (by simp)
    have W := Walks.range (prog := X.prog) (w := X.w) (I.ok.hd hc) it lo 1 n
    refine W.item i s _ _ hg st fun v h' tk hv st' kk => ?_
    obtain ⟨t, rfl⟩ := hv
    have I1 : Inv X pins σ H { s with heap := h', toks := tk } := I.turned (fun b o hb e => kk b o (by simpa using hb) e) f0 f1 f3 f4 f5
    refine ⟨_, rfl, go_of (s := { s with heap := h', toks := tk }) (n := "range_iterator") st' rfl rfl (by decide) ⟨.int (lo + i), H, I1, ⟨t, ?_⟩, ⟨rfl, rfl⟩, st', fun b hb => (hf b hb).1⟩⟩
    rw [Int.mul_one]
  done := by
    intro X hP hw hK hc i pins s σ H E I hf st hg
    subst hP hw hK
    obtain ⟨f0, f1, f2, f3, f4, f5⟩ := hf it (by simp)
    exact wpAny_pyNext_range_end (I.ok.hd hc) st (by have : n ≤ i := hg; omega) fun h' eb => ⟨rfl, I.turned (t' := s.toks) (fun b o hb e => eb b o hb e) f0 f1 f3 f4 f5⟩
  self := fun _ _ _ _ _ st h => wpAny_pyIter_rangeiter st h
end L2
namespace L2
open PySem PySem.Spec PyProof.Rows
section
variable {X : Cx} {tg : Expr}
def iList (K : PySem.W.Frag) (tl : TE) : TI := fun σ H R => tl σ H fun x H1 => ∃ a, x = .ref a ∧ (∃ xs, SqL K H1 a xs) ∧ R (Itl K a) H1
def iTup (K : PySem.W.Frag) (tl : TE) : TI := fun σ H R => tl σ H fun x H1 => ∃ a, x = .ref a ∧ (∃ xs, SqT K H1 a xs) ∧ R (Itt K a) H1
theorem pi_list {l : Expr} {tl : TE} (hl : PE X l tl) : PI X tg l (iList X.K tl) := by
  intro pins s σ H R I h
  refine thn (hl pins s σ H _ I h) fun v s1 ⟨x, H1, I1, r1, q1⟩ => ?_
  obtain ⟨a, e, ⟨xs, hq⟩, q⟩ := q1
  subst e
  cases r1
  obtain ⟨its, rv, p, hz⟩ := I1.list hq
  refine wpAny_pyIter_list p.isList ?_
  refine ⟨s1.heap.objs.size, [s1.heap.objs.size], _, _, H1, rfl, I1.kept (t' := s1.toks) fun b o e => Heap.get?_push_of_some _ e, turn_list a _, ⟨_, Heap.get?_push_size _ rfl, rfl, rfl⟩, fun b hb => ?_, q⟩
  have e : b = s1.heap.objs.size := by simpa using hb
  subst e
  exact I1.fpOk (Nat.le_refl _) (I1.hok.fresh (Nat.le_refl _))
theorem pi_tup {l : Expr} {tl : TE} (hl : PE X l tl) : PI X tg l (iTup X.K tl) := by
  intro pins s σ H R I h
  refine thn (hl pins s σ H _ I h) fun v s1 ⟨x, H1, I1, r1, q1⟩ => ?_
  obtain ⟨a, e, ⟨xs, hq⟩, q⟩ := q1
  subst e
  cases r1
  obtain ⟨its, rv, p, hz⟩ := I1.tuple hq
  refine wpAny_pyIter_tuple (show s1.heap.IsTuple a its.toArray from p) ?_
  refine ⟨s1.heap.objs.size, [s1.heap.objs.size], _, _, H1, rfl, I1.kept (t' := s1.toks) fun b o e => Heap.get?_push_of_some _ e, turn_tuple a _, ⟨_, Heap.get?_push_size _ rfl, rfl, rfl⟩, fun b hb => ?_, q⟩
  have e : b = s1.heap.objs.size := by simpa using hb
  subst e
  exact I1.fpOk (Nat.le_refl _) (I1.hok.fresh (Nat.le_refl _))
/-- a range object just made, walked -/
theorem range_it {pins : List (Addr × Obj)} {σ : St} {H : Hp} {s : Shared} {R : It → Hp → Prop} {E : Value → Shared → Prop} {lo hi : Int} {t u v : Tok} {tk : Nat} (I : Inv X pins σ H s) (h1 : -(2 ^ 62) ≤ lo) (h2 : lo < 2 ^ 62) (h3 : -(2 ^ 62) ≤ hi) (h4 : hi < 2 ^ 62)
    (q : R (Itr lo (hi - lo).toNat) H) : wpAny (model X.prog X.w) X.A (pyIter (.ref s.heap.objs.size)) (PIE X pins σ tg R) E { s with heap := s.heap.push { cls := .type "range", data := .fields #[.int lo t, .int hi u, .int 1 v] }, toks := tk } := by
  refine wpAny_pyIter_range (IsRange.new ..) (small_one h1 h2 h3 h4) ?_
  have I1 : Inv X pins σ H { s with heap := s.heap.push { cls := .type "range", data := .fields #[.int lo t, .int hi u, .int 1 v] }, toks := tk } := I.kept fun b o e => Heap.get?_push_of_some _ e
  refine ⟨(s.heap.push { cls := .type "range", data := .fields #[.int lo t, .int hi u, .int 1 v] }).objs.size, [(s.heap.push { cls := .type "range", data := .fields #[.int lo t, .int hi u, .int 1 v] }).objs.size], _, _, H, rfl,
    I1.kept (t' := tk) fun b o e => Heap.get?_push_of_some _ e, turn_range _ lo (hi - lo).toNat, ?_, fun b hb => ?_, q⟩
  · have e1 : lo + ((0 : Nat) : Int) * 1 = lo := by simp
    have e2 : (((hi - lo).toNat : Nat) : Int) - ((0 : Nat) : Int) = Builtin.Range.rangeSize lo hi 1 := by rw [rangeSize_one]; split <;> omega
    show IsRangeIter _ _ (lo + ((0 : Nat) : Int) * 1) ((((hi - lo).toNat : Nat) : Int) - ((0 : Nat) : Int)) 1
    rw [e1, e2]
    exact Heap.get?_push_size _ rfl
  · have e : b = (s.heap.push { cls := .type "range", data := .fields #[.int lo t, .int hi u, .int 1 v] }).objs.size := by simpa using hb
    subst e
    exact I1.fpOk (Nat.le_refl _) (I1.hok.fresh (Nat.le_refl _))
def iRng1 (ta : TA) : TI := fun σ H R => ta σ H fun vs H1 => ∃ j : Int, vs = [.int j] ∧ -(2 ^ 62) ≤ j ∧ j < 2 ^ 62 ∧ R (Itr 0 j.toNat) H1
def iRng2 (ta : TA) : TI := fun σ H R => ta σ H fun vs H1 => ∃ i j : Int, vs = [.int i, .int j] ∧ (-(2 ^ 62) ≤ i ∧ i < 2 ^ 62 ∧ -(2 ^ 62) ≤ j ∧ j < 2 ^ 62) ∧ R (Itr i (j - i).toNat) H1
theorem pi_range1 {a : Expr} {ta : TA} {p pos : Pos} (hg : Gl X "range") (hm : X.mg "range" = none) (ha : PA X [a] ta) (hs : starEach [a] X.env = [(false, eval a X.env)] := by rfl) : PI X tg (.Call (.Name "range" p) [a] [] pos) (iRng1 ta) := by
  intro pins s σ H R I h
  refine Call_ (ld_blt I hg hm boot_range (PyProof.Rows.callWith_type1 (thn (ha pos pins s σ H _ I h) fun us s1 ⟨vs, H1, I1, r1, q1⟩ => ?_) hs rfl))
  obtain ⟨j, e, q1, q2, q⟩ := q1
  subst e
  cases r1 with
  | cons r rr =>
    cases rr
    obtain ⟨t, rfl⟩ := r
    exact call_range_1 (range_it I1 (by omega) (by omega) q1 q2 (by simpa using q))
theorem pi_range2 {a b : Expr} {ta : TA} {p pos : Pos} (hg : Gl X "range") (hm : X.mg "range" = none) (ha : PA X [a, b] ta) (hs : starEach [a, b] X.env = [(false, eval a X.env), (false, eval b X.env)] := by rfl) (hs2 : starEach [b] X.env = [(false, eval b X.env)] := by rfl) :
    PI X tg (.Call (.Name "range" p) [a, b] [] pos) (iRng2 ta) := by
  intro pins s σ H R I h
  refine Call_ (ld_blt I hg hm boot_range (PyProof.Rows.callWith_type1 (thn (ha pos pins s σ H _ I h) fun us s1 ⟨vs, H1, I1, r1, q1⟩ => ?_) (by rw [hs, hs2]) (by rw [hs2]; rfl)))
  obtain ⟨i, j, e, ⟨q1, q2, q3, q4⟩, q⟩ := q1
  subst e
  cases r1 with
  | cons r rr =>
    cases rr with
    | cons r' rr =>
      cases rr
      obtain ⟨t, rfl⟩ := r
      obtain ⟨t', rfl⟩ := r'
      exact call_range_2 (range_it I1 q1 q2 q3 q4 q)
/-! ### for -/
/-- W: the invariant by the turn and a measure; N: what the body is to reach -/
def tFor (wi : TI) (g : TG) (tb : TS) : TS := fun D σ H => wi σ H fun J H1 => ∃ W : Nat → Nat → St → Hp → Prop, (∃ m, W 0 m σ H1) ∧ ∀ i m σ H, W i m σ H →
  (J.stop i H ∧ D.nx σ H) ∨ (J.go i H ∧ ∃ N : St → Hp → Prop, (∀ σ' H', N σ' H' → ∃ m', m' < m ∧ W (i + 1) m' σ' H') ∧ ∀ x H', J.yld i H x H' → g x σ H' fun σ2 H2 => tb { D with nx := N, ct := N, bk := D.nx } σ2 H2)
/-- the records at fp as they stand -/
def pinsAt (fp : List Addr) (h : Heap) : List (Addr × Obj) := fp.filterMap fun b => (h.get? b).map fun o => (b, o)
theorem mem_pinsAt {fp : List Addr} {h : Heap} {b : Addr} {o : Obj} (hb : b ∈ fp) (e : h.get? b = some o) : (b, o) ∈ pinsAt fp h := List.mem_filterMap.mpr ⟨b, hb, by rw [e]; rfl⟩
theorem of_pinsAt {fp : List Addr} {h : Heap} {p : Addr × Obj} (hp : p ∈ pinsAt fp h) : p.1 ∈ fp ∧ h.get? p.1 = some p.2 := by
  obtain ⟨b, hb, e⟩ := List.mem_filterMap.mp hp
  cases q : h.get? b with
  | none => rw [q] at e; cases e
  | some o =>
    rw [q] at e
    have e' : (b, o) = p := Option.some.inj e
    subst e'
    exact ⟨hb, q⟩
theorem Inv.pinned {pins : List (Addr × Obj)} {σ : St} {H : Hp} {s : Shared} {fp : List Addr} (I : Inv X pins σ H s) (hf : ∀ b ∈ fp, FpOk X pins H b) (ho : ∀ b ∈ fp, ∃ o, s.heap.get? b = some o ∧ ∀ v, o.data ≠ .cell v) : Inv X (pins ++ pinsAt fp s.heap) σ H s :=
  I.pins_of fun p hp => (List.mem_append.mp hp).elim (fun z => I.pin p (List.mem_append_right _ z)) fun z => by
    obtain ⟨hb, e⟩ := of_pinsAt z
    obtain ⟨f0, f1, f2, _⟩ := hf p.1 hb
    obtain ⟨o, e', d⟩ := ho p.1 hb
    rw [e] at e'; cases e'
    exact ⟨e, f0, f1, f2, d⟩
theorem Inv.unpinned {pins pl : List (Addr × Obj)} {σ : St} {H : Hp} {s : Shared} (I : Inv X (pins ++ pl) σ H s) : Inv X pins σ H s := I.pins_of fun p hp => I.pin p (List.mem_append_right _ (List.mem_append_left _ hp))
theorem ps_for {iter : Expr} {body : List Stmt} {wi : TI} {g : TG} {tb : TS} {pos : Pos} (hp : PassesOwn (model X.prog X.w) X.A X.env X.xe) (hc : X.calm = true) (hi : PI X tg iter wi) (hg : PG X tg g) (hb : PSs X body tb)
    (hs : ∀ x, foldedSetIterable iter X.env x = pure x := by intro _; rfl) : PS X (.For tg iter body [] pos) (tFor wi g tb) := by
  intro pins s σ H D I h
  refine wpAny_For (thn (hi pins s σ H _ I h) fun v s1 h1 => thn h1 fun itv s2 h2 => ?_) hs
  obtain ⟨it, fp, tn, J, H2, e, I2, T, st2, f2, W, ⟨m0, w0⟩, turn⟩ := h2
  subst e
  -- what stays true of the iterator's objects through the loop
  have stat : ∀ {H' : Hp}, (∀ b ∈ fp, H' b = none) → ∀ b ∈ fp, FpOk X pins H' b := fun hn b hb => ⟨hn b hb, (f2 b hb).2⟩
  refine codeAny_forLoop_any (fun n s' => ∃ i σ' H', Inv X pins σ' H' s' ∧ tn i s'.heap ∧ (∀ b ∈ fp, H' b = none) ∧ W i n σ' H') ?_ m0 ⟨0, σ, H2, I2, st2, fun b hb => (f2 b hb).1, w0⟩
  rintro n s3 ⟨i, σ3, H3, I3, st3, fr3, w3⟩
  rcases turn i n σ3 H3 w3 with ⟨stop, qn⟩ | ⟨go, N, hN, step⟩
  · refine wpAny_passesOwn hp (thn (T.done X rfl rfl rfl hc i pins s3 σ3 H3 X.xe I3 (stat fr3) st3 stop) fun r s4 ⟨hr, I4⟩ => ?_)
    subst hr
    exact wpAny_execs_nil ⟨σ3, H3, I4, qn⟩
  · refine wpAny_passesOwn hp (thn (T.item X rfl rfl rfl hc i pins s3 σ3 H3 X.xe I3 (stat fr3) st3 go) fun r s4 ⟨u, hr, h4⟩ => ?_)
    subst hr
    refine wpAny_passesOwn hp (thn h4 fun _ s5 ⟨x, H5, I5, r5, y5, st5, fr5⟩ => ?_)
    have I5' := I5.pinned (stat fr5) (T.obj _ _ st5)
    refine wpAny_passesOwn hp (thn (hg _ s5 σ3 H5 x u _ I5' r5 (step x H5 y5)) fun _ s6 ⟨σ6, H6, I6, q6⟩ => ?_)
    refine wpAny_passesOwn hp (thn (hb _ s6 σ6 H6 _ I6 q6) fun f s7 q7 => ?_)
    have again : ∀ {σ7 : St} {H7 : Hp}, Inv X (pins ++ pinsAt fp s5.heap) σ7 H7 s7 → N σ7 H7 → ∃ m, m < n ∧ ∃ i σ' H', Inv X pins σ' H' s7 ∧ tn i s7.heap ∧ (∀ b ∈ fp, H' b = none) ∧ W i m σ' H' := fun {σ7 H7} I7 n7 => by
      obtain ⟨m', hm, w7⟩ := hN σ7 H7 n7
      refine ⟨m', hm, i + 1, σ7, H7, I7.unpinned, T.keep _ _ _ st5 fun b hb o e => (I7.pin (b, o) (List.mem_append_right _ (List.mem_append_right _ (mem_pinsAt hb e)))).1, fun b hb => ?_, w7⟩
      obtain ⟨o, e, d⟩ := T.obj _ _ st5 b hb
      exact (I7.pin (b, o) (List.mem_append_right _ (List.mem_append_right _ (mem_pinsAt hb e)))).2.1
    cases f with
    | next => obtain ⟨σ7, H7, I7, n7⟩ := q7; exact again I7 n7
    | cont => obtain ⟨σ7, H7, I7, n7⟩ := q7; exact again I7 n7
    | brk => obtain ⟨σ7, H7, I7, q7⟩ := q7; exact ⟨σ7, H7, I7.unpinned, q7⟩
    | ret v => obtain ⟨x7, σ7, H7, I7, r7, q7⟩ := q7; exact ⟨x7, σ7, H7, I7.unpinned, r7, q7⟩
end
/-! ### the forms one uses -/
/-- over a list that the body leaves as it is -/
theorem for_list {K : PySem.W.Frag} {a : Addr} {xs : List V} {g : TG} {tb : TS} {D : Ends} {σ : St} {H : Hp} (Pv : Nat → St → Hp → Prop) (h0 : Pv 0 σ H) (hl : ∀ i σ H, i ≤ xs.length → Pv i σ H → SqL K H a xs)
    (hs : ∀ i x σ H, xs[i]? = some x → Pv i σ H → g x σ H fun σ2 H2 => tb { D with nx := Pv (i + 1), ct := Pv (i + 1), bk := D.nx } σ2 H2) (hd : ∀ σ H, Pv xs.length σ H → D.nx σ H) :
    ∃ W : Nat → Nat → St → Hp → Prop, (∃ m, W 0 m σ H) ∧ ∀ i m σ H, W i m σ H →
      ((Itl K a).stop i H ∧ D.nx σ H) ∨ ((Itl K a).go i H ∧ ∃ N : St → Hp → Prop, (∀ σ' H', N σ' H' → ∃ m', m' < m ∧ W (i + 1) m' σ' H') ∧ ∀ x H', (Itl K a).yld i H x H' → g x σ H' fun σ2 H2 => tb { D with nx := N, ct := N, bk := D.nx } σ2 H2) := by
  refine ⟨fun i m σ H => m = xs.length - i ∧ i ≤ xs.length ∧ Pv i σ H, ⟨xs.length, by simp, Nat.zero_le _, h0⟩, ?_⟩
  rintro i m σ H ⟨rfl, hi, p⟩
  have q := hl i σ H hi p
  by_cases hlt : i < xs.length
  · refine .inr ⟨⟨xs, xs[i], q, by simp [hlt]⟩, Pv (i + 1), fun σ' H' p' => ⟨xs.length - (i + 1), by omega, rfl, hlt, p'⟩, fun x H' y => ?_⟩
    obtain ⟨e, y⟩ := y
    subst e
    exact hs i x σ _ (y xs q) p
  · have e : i = xs.length := by omega
    subst e
    exact .inl ⟨⟨xs, q, Nat.le_refl _⟩, hd σ H p⟩
theorem for_tup {K : PySem.W.Frag} {a : Addr} {xs : List V} {g : TG} {tb : TS} {D : Ends} {σ : St} {H : Hp} (Pv : Nat → St → Hp → Prop) (h0 : Pv 0 σ H) (hl : ∀ i σ H, i ≤ xs.length → Pv i σ H → SqT K H a xs)
    (hs : ∀ i x σ H, xs[i]? = some x → Pv i σ H → g x σ H fun σ2 H2 => tb { D with nx := Pv (i + 1), ct := Pv (i + 1), bk := D.nx } σ2 H2) (hd : ∀ σ H, Pv xs.length σ H → D.nx σ H) :
    ∃ W : Nat → Nat → St → Hp → Prop, (∃ m, W 0 m σ H) ∧ ∀ i m σ H, W i m σ H →
      ((Itt K a).stop i H ∧ D.nx σ H) ∨ ((Itt K a).go i H ∧ ∃ N : St → Hp → Prop, (∀ σ' H', N σ' H' → ∃ m', m' < m ∧ W (i + 1) m' σ' H') ∧ ∀ x H', (Itt K a).yld i H x H' → g x σ H' fun σ2 H2 => tb { D with nx := N, ct := N, bk := D.nx } σ2 H2) := by
  refine ⟨fun i m σ H => m = xs.length - i ∧ i ≤ xs.length ∧ Pv i σ H, ⟨xs.length, by simp, Nat.zero_le _, h0⟩, ?_⟩
  rintro i m σ H ⟨rfl, hi, p⟩
  have q := hl i σ H hi p
  by_cases hlt : i < xs.length
  · refine .inr ⟨⟨xs, xs[i], q, by simp [hlt]⟩, Pv (i + 1), fun σ' H' p' => ⟨xs.length - (i + 1), by omega, rfl, hlt, p'⟩, fun x H' y => ?_⟩
    obtain ⟨e, y⟩ := y
    subst e
    exact hs i x σ _ (y xs q) p
  · have e : i = xs.length := by omega
    subst e
    exact .inl ⟨⟨xs, q, Nat.le_refl _⟩, hd σ H p⟩
theorem for_range {lo : Int} {n : Nat} {g : TG} {tb : TS} {D : Ends} {σ : St} {H : Hp} (Pv : Nat → St → Hp → Prop) (h0 : Pv 0 σ H)
    (hs : ∀ i σ H, i < n → Pv i σ H → g (.int (lo + i)) σ H fun σ2 H2 => tb { D with nx := Pv (i + 1), ct := Pv (i + 1), bk := D.nx } σ2 H2) (hd : ∀ σ H, Pv n σ H → D.nx σ H) :
    ∃ W : Nat → Nat → St → Hp → Prop, (∃ m, W 0 m σ H) ∧ ∀ i m σ H, W i m σ H →
      ((Itr lo n).stop i H ∧ D.nx σ H) ∨ ((Itr lo n).go i H ∧ ∃ N : St → Hp → Prop, (∀ σ' H', N σ' H' → ∃ m', m' < m ∧ W (i + 1) m' σ' H') ∧ ∀ x H', (Itr lo n).yld i H x H' → g x σ H' fun σ2 H2 => tb { D with nx := N, ct := N, bk := D.nx } σ2 H2) := by
  refine ⟨fun i m σ H => m = n - i ∧ i ≤ n ∧ Pv i σ H, ⟨n, by simp, Nat.zero_le _, h0⟩, ?_⟩
  rintro i m σ H ⟨rfl, hi, p⟩
  by_cases hlt : i < n
  · refine .inr ⟨hlt, Pv (i + 1), fun σ' H' p' => ⟨n - (i + 1), by omega, rfl, hlt, p'⟩, fun x H' y => ?_⟩
    obtain ⟨e, y⟩ := y
    subst e y
    exact hs i σ _ hlt p
  · have e : i = n := by omega
    subst e
    exact .inl ⟨Nat.le_refl _, hd σ H p⟩
/-- while, by a word and a measure of the state -/
theorem while_by {c : TT} {tb : TS} {D : Ends} {σ : St} {H : Hp} (Pv : St → Hp → Prop) (μ : St → Hp → Nat) (h0 : Pv σ H)
    (hs : ∀ σ H, Pv σ H → c σ H fun b H1 => if b = true then tb { D with nx := fun σ' H' => Pv σ' H' ∧ μ σ' H' < μ σ H, ct := fun σ' H' => Pv σ' H' ∧ μ σ' H' < μ σ H, bk := D.nx } σ H1 else D.nx σ H1)
    (mono : ∀ σ H Q Q', (∀ b H1, Q b H1 → Q' b H1) → c σ H Q → c σ H Q') : tWhile c tb D σ H := by
  refine ⟨fun m σ H => m = μ σ H ∧ Pv σ H, ⟨_, rfl, h0⟩, ?_⟩
  rintro m σ H ⟨rfl, p⟩
  refine mono σ H _ _ (fun b H1 q => ?_) (hs σ H p)
  cases b with
  | true => exact ⟨_, fun σ' H' ⟨p', l⟩ => ⟨_, l, rfl, p'⟩, q⟩
  | false => exact q
end L2
namespace L2
open PySem PySem.Spec PyProof.Rows
abbrev R2 := V → V → Hp → VK → Prop
/-- a two-place operation on values: f is binaryOp op, inplaceOp op or compareOp op -/
def OpR (X : Cx) (f : Value → Value → Sem Value) (r : R2) : Prop :=
  ∀ (pins : List (Addr × Obj)) (s : Shared) (σ : St) (H : Hp) (x y : V) (v u : Value) (Q : VK), Inv X pins σ H s → RelV x v → RelV y u → r x y H Q →
    wpAny (model X.prog X.w) X.A (f v u) (EP X pins σ Q) X.xe s
/-- a one-place operation -/
def UnR (X : Cx) (f : Value → Sem Value) (r : V → Hp → VK → Prop) : Prop :=
  ∀ (pins : List (Addr × Obj)) (s : Shared) (σ : St) (H : Hp) (x : V) (v : Value) (Q : VK), Inv X pins σ H s → RelV x v → r x H Q →
    wpAny (model X.prog X.w) X.A (f v) (EP X pins σ Q) X.xe s
/-- a call of a value that is known (a builtin, a type) with values -/
def CallR (X : Cx) (f : Value) (r : List V → Hp → VK → Prop) : Prop :=
  ∀ (pins : List (Addr × Obj)) (s : Shared) (σ : St) (H : Hp) (xs : List V) (us : List Value) (Q : VK), Inv X pins σ H s → Vals xs us → r xs H Q →
    wpAny (model X.prog X.w) X.A (call f us) (EP X pins σ Q) X.xe s
/-- a value's truth -/
def TruR (X : Cx) (r : V → Hp → (Bool → Hp → Prop) → Prop) : Prop :=
  ∀ (pins : List (Addr × Obj)) (s : Shared) (σ : St) (H : Hp) (x : V) (v : Value) (Q : Bool → Hp → Prop), Inv X pins σ H s → RelV x v → r x H Q →
    wpAny (model X.prog X.w) X.A (truthy v) (TP X pins σ Q) X.xe s
def tOp (r : R2) (ta tb : TE) : TE := fun σ H Q => ta σ H fun x H1 => tb σ H1 fun y H2 => r x y H2 Q
def tUn (r : V → Hp → VK → Prop) (ta : TE) : TE := fun σ H Q => ta σ H fun x H1 => r x H1 Q
/-- ints in, under C, and a value out -/
def rI (C : Int → Int → Prop) (g : Int → Int → V) : R2 := fun x y H Q => ∃ i j, x = .int i ∧ y = .int j ∧ C i j ∧ Q (g i j) H
def rI0 (g : Int → Int → V) : R2 := fun x y H Q => ∃ i j, x = .int i ∧ y = .int j ∧ Q (g i j) H
def rU (g : Int → V) : V → Hp → VK → Prop := fun x H Q => ∃ i, x = .int i ∧ Q (g i) H
section
variable {X : Cx} {a b c : Expr} {ta tb tc : TE} {pos : Pos}
theorem binT (ha : PE X a ta) (hb : PE X b tb) {pins : List (Addr × Obj)} {s : Shared} {σ : St} {H : Hp} {R : V → V → Hp → Prop} (I : Inv X pins σ H s)
    (h : ta σ H fun x H1 => tb σ H1 fun y H2 => R x y H2) {Q : Value → Shared → Prop} {f : Value → Value → Sem Value}
    (hf : ∀ v u s2 x y H2, Inv X pins σ H2 s2 → RelV x v → RelV y u → R x y H2 → wpAny (model X.prog X.w) X.A (f v u) Q X.xe s2) :
    wpAny (model X.prog X.w) X.A (eval a X.env) (fun v s₁ => wpAny (model X.prog X.w) X.A (eval b X.env) (fun u s₂ => wpAny (model X.prog X.w) X.A (f v u) Q X.xe s₂) X.xe s₁) X.xe s := by
  refine thn (ha pins s σ H _ I h) fun v s1 ⟨x, H1, I1, r1, q1⟩ => ?_
  refine thn (hb pins s1 σ H1 _ I1 q1) fun u s2 ⟨y, H2, I2, r2, q2⟩ => ?_
  exact hf v u s2 x y H2 I2 r1 r2 q2
theorem pe_op {op : Operator} {r : R2} (ho : OpR X (binaryOp op) r) (ha : PE X a ta) (hb : PE X b tb) : PE X (.BinOp a op b pos) (tOp r ta tb) := by
  intro pins s σ H Q I h
  exact wpAny_BinOp (binT ha hb I h fun v u s2 x y H2 I2 rx ry q => ho pins s2 σ H2 x y v u Q I2 rx ry q)
theorem pe_un {op : UnaryOp} {r : V → Hp → VK → Prop} (ho : UnR X (unaryOp op) r) (ha : PE X a ta) : PE X (.UnaryOp op a pos) (tUn r ta) := by
  intro pins s σ H Q I h
  exact UnaryOp_ (thn (ha pins s σ H _ I h) fun v s1 ⟨x, H1, I1, r1, q1⟩ => ho pins s1 σ H1 x v Q I1 r1 q1)
/-- a op= e at a name: the name's slot i -/
theorem augR {op : Operator} {r : R2} (ho : OpR X (inplaceOp op) r) {pins : List (Addr × Obj)} {s : Shared} {σ : St} {H : Hp} {x y : V} {v u : Value} {Q : VK} (I : Inv X pins σ H s)
    (rx : RelV x v) (ry : RelV y u) (q : r x y H Q) : wpAny (model X.prog X.w) X.A (inplaceOp op v u) (EP X pins σ Q) X.xe s := ho pins s σ H x y v u Q I rx ry q
/-! ### ints -/
theorem opI {f : Value → Value → Sem Value} {C : Int → Int → Prop} {g : Int → Int → Int}
    (rule : ∀ (i j : Int) (t u : Tok) (s : Shared) (Q : Value → Shared → Prop) (E : Value → Shared → Prop), C i j → Q (.int (g i j) s.toks) { s with toks := s.toks + 1 } → wpAny (model X.prog X.w) X.A (f (.int i t) (.int j u)) Q E s) :
    OpR X f (rI C fun i j => .int (g i j)) := by
  intro pins s σ H x y v u Q I rx ry h
  obtain ⟨i, j, rfl, rfl, hc, q⟩ := h
  obtain ⟨t, rfl⟩ := rx
  obtain ⟨t', rfl⟩ := ry
  exact rule i j t t' s _ _ hc ⟨.int (g i j), H, I.tok _, ⟨_, rfl⟩, q⟩
theorem opI0 {f : Value → Value → Sem Value} {g : Int → Int → Int}
    (rule : ∀ (i j : Int) (t u : Tok) (s : Shared) (Q : Value → Shared → Prop) (E : Value → Shared → Prop), Q (.int (g i j) s.toks) { s with toks := s.toks + 1 } → wpAny (model X.prog X.w) X.A (f (.int i t) (.int j u)) Q E s) :
    OpR X f (rI0 fun i j => .int (g i j)) := by
  intro pins s σ H x y v u Q I rx ry h
  obtain ⟨i, j, rfl, rfl, q⟩ := h
  obtain ⟨t, rfl⟩ := rx
  obtain ⟨t', rfl⟩ := ry
  exact rule i j t t' s _ _ ⟨.int (g i j), H, I.tok _, ⟨_, rfl⟩, q⟩
theorem opB0 {f : Value → Value → Sem Value} {g : Int → Int → Bool}
    (rule : ∀ (i j : Int) (t u : Tok) (s : Shared) (Q : Value → Shared → Prop) (E : Value → Shared → Prop), Q (.bool (g i j)) s → wpAny (model X.prog X.w) X.A (f (.int i t) (.int j u)) Q E s) :
    OpR X f (rI0 fun i j => .bl (g i j)) := by
  intro pins s σ H x y v u Q I rx ry h
  obtain ⟨i, j, rfl, rfl, q⟩ := h
  obtain ⟨t, rfl⟩ := rx
  obtain ⟨t', rfl⟩ := ry
  exact rule i j t t' s _ _ ⟨.bl (g i j), H, I, rfl, q⟩
def CDiv (i j : Int) : Prop := 0 < j ∧ j < 1073741824
def CDivN (i j : Int) : Prop := j ≠ 0 ∧ j.natAbs < 1073741824
def CPow (i j : Int) : Prop := 0 ≤ j ∧ j ≤ 1000000 ∧ i.natAbs < 2 ^ 64
def CMul (i j : Int) : Prop := (-(2 ^ 64) < i ∧ i < 2 ^ 64) ∨ (-(2 ^ 64) < j ∧ j < 2 ^ 64)
theorem CMul.ok {i j : Int} (h : CMul i j) : IntMulOk i j := by
  rcases h with ⟨h1, h2⟩ | ⟨h1, h2⟩
  · exact .of_left (intBits_le_64 h1 h2)
  · exact .of_right (intBits_le_64 h1 h2)
theorem two_pow_nn (k : Nat) : (0 : Int) ≤ 2 ^ k := by
  rw [two_pow_cast]
  exact Int.natCast_nonneg _
theorem op_add : OpR X (binaryOp .Add) (rI0 fun i j => .int (i + j)) := opI0 fun _ _ _ _ _ _ _ q => add_int q
theorem op_sub : OpR X (binaryOp .Sub) (rI0 fun i j => .int (i - j)) := opI0 fun _ _ _ _ _ _ _ q => sub_int q
theorem op_mul : OpR X (binaryOp .Mult) (rI CMul fun i j => .int (i * j)) := opI fun _ _ _ _ _ _ _ hc q => mul_int q hc.ok
/-- // by a positive divisor -/
theorem op_fdiv : OpR X (binaryOp .FloorDiv) (rI CDiv fun i j => .int (i / j)) := opI fun i j _ _ _ _ _ hc q => by
  have h1 : (0 : Int) < j := hc.1
  have h2 : j < 1073741824 := hc.2
  exact floordiv_int (by omega) (by rw [Int.fdiv_eq_ediv_of_nonneg i (by omega)]; exact q) (.inl (PyProof.noPylong_small (by omega)))
theorem op_fdivN : OpR X (binaryOp .FloorDiv) (rI CDivN fun i j => .int (i.fdiv j)) := opI fun _ _ _ _ _ _ _ hc q => floordiv_int hc.1 q (.inl (PyProof.noPylong_small hc.2))
/-- % by a positive divisor of any size -/
theorem op_mod : OpR X (binaryOp .Mod) (rI (fun _ j => 0 < j) fun i j => .int (i % j)) := opI fun i j _ _ _ _ _ hc q => by
  have h1 : (0 : Int) < j := hc
  exact mod_int' (by omega) (by rw [Int.fmod_eq_emod_of_nonneg i (by omega)]; exact q)
theorem op_modN : OpR X (binaryOp .Mod) (rI (fun _ j => j ≠ 0) fun i j => .int (i.fmod j)) := opI fun _ _ _ _ _ _ _ hc q => mod_int' hc q
theorem op_pow : OpR X (binaryOp .Pow) (rI CPow fun i j => .int (i ^ j.toNat)) := opI fun _ _ _ _ _ _ _ hc q => pow_int_small hc.1 hc.2.1 hc.2.2 q
theorem op_shl : OpR X (binaryOp .LShift) (rI CPow fun i j => .int (i * 2 ^ j.toNat)) := opI fun _ _ _ _ _ _ _ hc q => lshift_int_small hc.1 hc.2.1 hc.2.2 q
theorem op_shr : OpR X (binaryOp .RShift) (rI (fun _ j => 0 ≤ j) fun i j => .int (i / 2 ^ j.toNat)) := opI fun i j _ _ _ _ _ hc q =>
  rshift_int hc (by rw [Int.fdiv_eq_ediv_of_nonneg i (two_pow_nn _)]; exact q)
theorem op_and : OpR X (binaryOp .BitAnd) (rI0 fun i j => .int (Builtin.bitAnd i j)) := opI0 fun _ _ _ _ _ _ _ q => and_int q
theorem op_or : OpR X (binaryOp .BitOr) (rI0 fun i j => .int (Builtin.bitOr i j)) := opI0 fun _ _ _ _ _ _ _ q => or_int q
theorem op_xor : OpR X (binaryOp .BitXor) (rI0 fun i j => .int (Builtin.bitXor i j)) := opI0 fun _ _ _ _ _ _ _ q => xor_int q
theorem iop_add : OpR X (inplaceOp .Add) (rI0 fun i j => .int (i + j)) := opI0 fun _ _ _ _ _ _ _ q => iadd_int q
theorem iop_sub : OpR X (inplaceOp .Sub) (rI0 fun i j => .int (i - j)) := opI0 fun _ _ _ _ _ _ _ q => isub_int q
theorem iop_mul : OpR X (inplaceOp .Mult) (rI CMul fun i j => .int (i * j)) := opI fun _ _ _ _ _ _ _ hc q => imul_int q hc.ok
theorem iop_fdiv : OpR X (inplaceOp .FloorDiv) (rI CDiv fun i j => .int (i / j)) := opI fun i j _ _ _ _ _ hc q => by
  have h1 : (0 : Int) < j := hc.1
  have h2 : j < 1073741824 := hc.2
  exact ifloordiv_int (by omega) (by rw [Int.fdiv_eq_ediv_of_nonneg i (by omega)]; exact q) (.inl (PyProof.noPylong_small (by omega)))
theorem iop_mod : OpR X (inplaceOp .Mod) (rI (fun _ j => 0 < j) fun i j => .int (i % j)) := opI fun i j _ _ _ _ _ hc q => by
  have h1 : (0 : Int) < j := hc
  exact imod_int (by omega) (by rw [Int.fmod_eq_emod_of_nonneg i (by omega)]; exact q)
theorem iop_shl : OpR X (inplaceOp .LShift) (rI CPow fun i j => .int (i * 2 ^ j.toNat)) := opI fun _ _ _ _ _ _ _ hc q => ilshift_int_small hc.1 hc.2.1 hc.2.2 q
theorem iop_shr : OpR X (inplaceOp .RShift) (rI (fun _ j => 0 ≤ j) fun i j => .int (i / 2 ^ j.toNat)) := opI fun i j _ _ _ _ _ hc q =>
  irshift_int hc (by rw [Int.fdiv_eq_ediv_of_nonneg i (two_pow_nn _)]; exact q)
theorem iop_and : OpR X (inplaceOp .BitAnd) (rI0 fun i j => .int (Builtin.bitAnd i j)) := opI0 fun _ _ _ _ _ _ _ q => iand_int q
theorem iop_or : OpR X (inplaceOp .BitOr) (rI0 fun i j => .int (Builtin.bitOr i j)) := opI0 fun _ _ _ _ _ _ _ q => ior_int q
theorem iop_xor : OpR X (inplaceOp .BitXor) (rI0 fun i j => .int (Builtin.bitXor i j)) := opI0 fun _ _ _ _ _ _ _ q => ixor_int q
theorem unI {f : Value → Sem Value} {g : Int → Int}
    (rule : ∀ (i : Int) (t : Tok) (s : Shared) (Q : Value → Shared → Prop) (E : Value → Shared → Prop), Q (.int (g i) s.toks) { s with toks := s.toks + 1 } → wpAny (model X.prog X.w) X.A (f (.int i t)) Q E s) :
    UnR X f (rU fun i => .int (g i)) := by
  intro pins s σ H x v Q I rx h
  obtain ⟨i, rfl, q⟩ := h
  obtain ⟨t, rfl⟩ := rx
  exact rule i t s _ _ ⟨.int (g i), H, I.tok _, ⟨_, rfl⟩, q⟩
theorem un_neg : UnR X (unaryOp .USub) (rU fun i => .int (-i)) := unI fun _ _ _ _ _ q => neg_int q
theorem un_inv : UnR X (unaryOp .Invert) (rU fun i => .int (Builtin.bitNot i)) := unI fun _ _ _ _ _ q => invert_int q
/-! ### bools among ints: n += (a < b) -/
theorem op_add_ib : OpR X (binaryOp .Add) (fun x y H Q => ∃ i k, x = .int i ∧ y = .bl k ∧ Q (.int (i + b2i k)) H) := by
  intro pins s σ H x y v u Q I rx ry h
  obtain ⟨i, k, rfl, rfl, q⟩ := h
  obtain ⟨t, rfl⟩ := rx
  cases ry
  exact add_int_bool ⟨.int (i + b2i k), H, I.tok _, ⟨_, rfl⟩, q⟩
end
/-! ### comparisons -/
/-- the scalars that == tells apart as data does -/
def scal : V → V → Bool
  | .non, .non => true | .non, .int _ => true | .int _, .non => true | .non, .bl _ => true | .bl _, .non => true | .non, .str _ => true | .str _, .non => true
  | .int _, .int _ => true | .bl _, .bl _ => true | .str _, .str _ => true | .byt _, .byt _ => true
  | .int _, .str _ => true | .str _, .int _ => true | .bl _, .str _ => true | .str _, .bl _ => true
  | _, _ => false
def rEq : R2 := fun x y H Q => scal x y = true ∧ Q (.bl (decide (x = y))) H
def rNe : R2 := fun x y H Q => scal x y = true ∧ Q (.bl (!decide (x = y))) H
theorem dec_int {i j : Int} : decide (V.int i = V.int j) = (i == j) := by
  rw [Bool.eq_iff_iff]
  simp
theorem dec_bl {i j : Bool} : decide (V.bl i = V.bl j) = (i == j) := by
  rw [Bool.eq_iff_iff]
  simp
theorem dec_str {i j : Str} : decide (V.str i = V.str j) = (i == j) := by
  rw [Bool.eq_iff_iff]
  simp
theorem dec_byt {i j : Array UInt8} : decide (V.byt i = V.byt j) = (i.toList == j.toList) := by
  rw [Bool.eq_iff_iff]
  cases i
  cases j
  simp
section
variable {X : Cx} {a b c : Expr} {ta tb tc : TE} {pos : Pos}
theorem fin_bl {pins : List (Addr × Obj)} {σ : St} {H : Hp} {s : Shared} {Q : VK} {k k' : Bool} (I : Inv X pins σ H s) (q : Q (.bl k) H) (e : k = k') : EP X pins σ Q (.bool k') s := by
  subst e
  exact ⟨.bl k, H, I, rfl, q⟩
theorem op_eq : OpR X (compareOp .Eq) rEq := by
  intro pins s σ H x y v u Q I rx ry h
  obtain ⟨hs, q⟩ := h
  cases x with
  | non =>
    cases rx
    cases y with
    | non => cases ry; exact PySem.EqNone.eq_none_none (fin_bl I q (by simp))
    | bl j => cases ry; exact PySem.EqNone.eq_none_bool (fin_bl I q (by simp))
    | int j => obtain ⟨t', rfl⟩ := ry; exact PySem.EqNone.eq_none_int (fin_bl I q (by simp))
    | str j => obtain ⟨t', rfl⟩ := ry; exact PySem.EqNone.eq_none_str (fin_bl I q (by simp))
    | _ => exact absurd (show false = true from hs) Bool.false_ne_true
  | bl i =>
    cases rx
    cases y with
    | non => cases ry; exact PySem.EqNone.eq_bool_none (fin_bl I q (by simp))
    | bl j => cases ry; exact eq_bool (fin_bl I q dec_bl)
    | str j => obtain ⟨t', rfl⟩ := ry; exact PySem.EqMixed.eq_bool_str (fin_bl I q (by simp))
    | _ => exact absurd (show false = true from hs) Bool.false_ne_true
  | int i =>
    obtain ⟨t, rfl⟩ := rx
    cases y with
    | non => cases ry; exact PySem.EqNone.eq_int_none (fin_bl I q (by simp))
    | int j => obtain ⟨t', rfl⟩ := ry; exact eq_int (fin_bl I q dec_int)
    | str j => obtain ⟨t', rfl⟩ := ry; exact PySem.EqMixed.eq_int_str (fin_bl I q (by simp))
    | _ => exact absurd (show false = true from hs) Bool.false_ne_true
  | str i =>
    obtain ⟨t, rfl⟩ := rx
    cases y with
    | non => cases ry; exact PySem.EqNone.eq_str_none (fin_bl I q (by simp))
    | bl j => cases ry; exact PySem.EqMixed.eq_str_bool (fin_bl I q (by simp))
    | int j => obtain ⟨t', rfl⟩ := ry; exact PySem.EqMixed.eq_str_int (fin_bl I q (by simp))
    | str j => obtain ⟨t', rfl⟩ := ry; exact eq_str (fin_bl I q dec_str)
    | _ => exact absurd (show false = true from hs) Bool.false_ne_true
  | byt i =>
    obtain ⟨t, rfl⟩ := rx
    cases y with
    | byt j => obtain ⟨t', rfl⟩ := ry; exact PySem.W.eq_bytes (fin_bl I q dec_byt)
    | _ => exact absurd (show false = true from hs) Bool.false_ne_true
  | _ => cases y <;> exact absurd (show false = true from hs) Bool.false_ne_true
theorem op_ne : OpR X (compareOp .NotEq) rNe := by
  intro pins s σ H x y v u Q I rx ry h
  obtain ⟨hs, q⟩ := h
  cases x with
  | non =>
    cases rx
    cases y with
    | non => cases ry; exact PySem.EqNone.ne_none_none (fin_bl I q (by simp))
    | bl j => cases ry; exact PySem.EqNone.ne_none_bool (fin_bl I q (by simp))
    | int j => obtain ⟨t', rfl⟩ := ry; exact PySem.EqNone.ne_none_int (fin_bl I q (by simp))
    | str j => obtain ⟨t', rfl⟩ := ry; exact PySem.EqNone.ne_none_str (fin_bl I q (by simp))
    | _ => exact absurd (show false = true from hs) Bool.false_ne_true
  | bl i =>
    cases rx
    cases y with
    | non => cases ry; exact PySem.EqNone.ne_bool_none (fin_bl I q (by simp))
    | bl j => cases ry; exact ne_bool (fin_bl I q (congrArg not dec_bl))
    | str j => obtain ⟨t', rfl⟩ := ry; exact PySem.EqMixed.ne_bool_str (fin_bl I q (by simp))
    | _ => exact absurd (show false = true from hs) Bool.false_ne_true
  | int i =>
    obtain ⟨t, rfl⟩ := rx
    cases y with
    | non => cases ry; exact PySem.EqNone.ne_int_none (fin_bl I q (by simp))
    | int j => obtain ⟨t', rfl⟩ := ry; exact ne_int (fin_bl I q (congrArg not dec_int))
    | str j => obtain ⟨t', rfl⟩ := ry; exact PySem.EqMixed.ne_int_str (fin_bl I q (by simp))
    | _ => exact absurd (show false = true from hs) Bool.false_ne_true
  | str i =>
    obtain ⟨t, rfl⟩ := rx
    cases y with
    | non => cases ry; exact PySem.EqNone.ne_str_none (fin_bl I q (by simp))
    | bl j => cases ry; exact PySem.EqMixed.ne_str_bool (fin_bl I q (by simp))
    | int j => obtain ⟨t', rfl⟩ := ry; exact PySem.EqMixed.ne_str_int (fin_bl I q (by simp))
    | str j => obtain ⟨t', rfl⟩ := ry; exact ne_str (fin_bl I q (congrArg not dec_str))
    | _ => exact absurd (show false = true from hs) Bool.false_ne_true
  | byt i =>
    obtain ⟨t, rfl⟩ := rx
    cases y with
    | byt j => obtain ⟨t', rfl⟩ := ry; exact PySem.W.ne_bytes (fin_bl I q (congrArg not dec_byt))
    | _ => exact absurd (show false = true from hs) Bool.false_ne_true
  | _ => cases y <;> exact absurd (show false = true from hs) Bool.false_ne_true
theorem op_lt : OpR X (compareOp .Lt) (rI0 fun i j => .bl (decide (i < j))) := opB0 fun _ _ _ _ _ _ _ q => lt_int q
theorem op_le : OpR X (compareOp .LtE) (rI0 fun i j => .bl (decide (i ≤ j))) := opB0 fun _ _ _ _ _ _ _ q => le_int q
theorem op_gt : OpR X (compareOp .Gt) (rI0 fun i j => .bl (decide (j < i))) := opB0 fun _ _ _ _ _ _ _ q => gt_int q
theorem op_ge : OpR X (compareOp .GtE) (rI0 fun i j => .bl (decide (j ≤ i))) := opB0 fun _ _ _ _ _ _ _ q => ge_int q
theorem op_lt_str : OpR X (compareOp .Lt) (fun x y H Q => ∃ i j, x = .str i ∧ y = .str j ∧ Q (.bl (decide (i.cps.toList < j.cps.toList))) H) := by
  intro pins s σ H x y v u Q I rx ry h
  obtain ⟨i, j, rfl, rfl, q⟩ := h
  obtain ⟨t, rfl⟩ := rx
  obtain ⟨t', rfl⟩ := ry
  exact lt_str (fin_bl I q rfl)
/-- the one string within the other -/
theorem op_in_str : OpR X (compareOp .In) (fun x y H Q => ∃ i j, x = .str i ∧ y = .str j ∧ Q (.bl (!(Builtin.Str.occurrences j i 0 j.length 1).isEmpty)) H) := by
  intro pins s σ H x y v u Q I rx ry h
  obtain ⟨i, j, rfl, rfl, q⟩ := h
  obtain ⟨t, rfl⟩ := rx
  obtain ⟨t', rfl⟩ := ry
  exact in_str (fin_bl I q rfl)
/-- is None, is not None: the right side a value none -/
theorem op_isN : OpR X (compareOp .Is) (fun x y H Q => y = .non ∧ Q (.bl (decide (x = .non))) H) := by
  intro pins s σ H x y v u Q I rx ry h
  obtain ⟨rfl, q⟩ := h
  cases ry
  refine is_none_gen (fin_bl I q ?_)
  cases x <;> first
    | (cases rx; rfl)
    | (obtain ⟨t, rfl⟩ := rx; rfl)
theorem op_notN : OpR X (compareOp .IsNot) (fun x y H Q => y = .non ∧ Q (.bl (!decide (x = .non))) H) := by
  intro pins s σ H x y v u Q I rx ry h
  obtain ⟨rfl, q⟩ := h
  cases ry
  refine isnot_none_gen (fin_bl I q ?_)
  cases x <;> first
    | (cases rx; rfl)
    | (obtain ⟨t, rfl⟩ := rx; rfl)
theorem op_notin_str : OpR X (compareOp .NotIn) (fun x y H Q => ∃ i j, x = .str i ∧ y = .str j ∧ Q (.bl (!(!(Builtin.Str.occurrences j i 0 j.length 1).isEmpty))) H) := by
  intro pins s σ H x y v u Q I rx ry h
  obtain ⟨i, j, rfl, rfl, q⟩ := h
  obtain ⟨t, rfl⟩ := rx
  obtain ⟨t', rfl⟩ := ry
  exact notIn_str (fin_bl I q rfl)
/-- is, is not of two objects that are tracked lists or instances -/
def isObj : HO → Bool
  | .lst _ => true
  | .ins _ _ _ => true
  | _ => false
theorem obj_there {pins : List (Addr × Obj)} {s : Shared} {σ : St} {H : Hp} {a : Addr} {o : HO} (I : Inv X pins σ H s) (h : H a = some o) (p : isObj o = true) : ∃ ob, s.heap.get? a = some ob ∧ ob.cls ≠ .type "tuple" := by
  cases o with
  | lst xs =>
    obtain ⟨_, its, n, _, e⟩ : xs.length ≤ sizeLine ∧ ∃ (its : List Value) (n : Nat), Vals xs its ∧ s.heap.get? a = some { cls := .type "list", data := .seq its.toArray n } := I.hok a _ h
    exact ⟨_, e, (by show Value.type "list" ≠ .type "tuple"; decide +kernel)⟩
  | ins C dx fs =>
    have x := I.hok a _ h
    obtain ⟨_, _, _, e, _⟩ := x
    exact ⟨_, e, (by show Value.ref C ≠ .type "tuple"; exact fun z => by cases z)⟩
  | _ => exact absurd (show false = true from p) Bool.false_ne_true
theorem op_is_ref : OpR X (compareOp .Is) (fun x y H Q => ∃ a b oa ob, x = .ref a ∧ y = .ref b ∧ H a = some oa ∧ isObj oa = true ∧ H b = some ob ∧ isObj ob = true ∧ Q (.bl (decide (a = b))) H) := by
  intro pins s σ H x y v u Q I rx ry h
  obtain ⟨a, b, oa, ob, rfl, rfl, ha, pa, hb, pb, q⟩ := h
  cases rx
  cases ry
  obtain ⟨o1, e1, n1⟩ := obj_there I ha pa
  obtain ⟨o2, e2, _⟩ := obj_there I hb pb
  by_cases z : a = b
  · subst z
    exact wpAny_is_ref_self (fin_bl I q (by simp))
  · exact wpAny_is_ref_other z e1 e2 n1 (fin_bl I q (by simp [z]))
theorem op_isnot_ref : OpR X (compareOp .IsNot) (fun x y H Q => ∃ a b oa ob, x = .ref a ∧ y = .ref b ∧ H a = some oa ∧ isObj oa = true ∧ H b = some ob ∧ isObj ob = true ∧ Q (.bl (!decide (a = b))) H) := by
  intro pins s σ H x y v u Q I rx ry h
  obtain ⟨a, b, oa, ob, rfl, rfl, ha, pa, hb, pb, q⟩ := h
  cases rx
  cases ry
  obtain ⟨o1, e1, n1⟩ := obj_there I ha pa
  obtain ⟨o2, e2, _⟩ := obj_there I hb pb
  by_cases z : a = b
  · subst z
    exact wpAny_isNot_ref_self (fin_bl I q (by simp))
  · exact wpAny_isNot_ref_other z e1 e2 n1 (fin_bl I q (by simp [z]))
/-- two rules for one operation: by cases -/
theorem OpR.or {f : Value → Value → Sem Value} {r r' : R2} (h : OpR X f r) (h' : OpR X f r') : OpR X f (fun x y H Q => r x y H Q ∨ r' x y H Q) := by
  intro pins s σ H x y v u Q I rx ry q
  rcases q with q | q
  · exact h pins s σ H x y v u Q I rx ry q
  · exact h' pins s σ H x y v u Q I rx ry q
theorem nomark (b : Expr) {op : CmpOp} (h : op ≠ .In := by decide) (h2 : op ≠ .NotIn := by decide) : behindInMarks op b = false := by
  have e1 : (op == CmpOp.In) = false := by cases op <;> first | rfl | exact absurd rfl h
  have e2 : (op == CmpOp.NotIn) = false := by cases op <;> first | rfl | exact absurd rfl h2
  cases b <;> simp [behindInMarks, e1, e2]
/-- a comparison as a value; hm: nomark b, or (for in, not in) by with_unfolding_all rfl -/
theorem pe_cmpR {op : CmpOp} {r : R2} (ho : OpR X (compareOp op) r) (ha : PE X a ta) (hb : PE X b tb) (hm : behindInMarks op b = false) : PE X (.Compare a [op] [b] pos) (tOp r ta tb) := by
  intro pins s σ H Q I h
  exact wpAny_Compare1 (binT ha hb I h fun v u s2 x y H2 I2 rx ry q => ho pins s2 σ H2 x y v u Q I2 rx ry q) hm
/-- a reading of a value as a test -/
def tTest (t : TE) : TT := fun σ H Q => t σ H fun x H' => ∃ k, x = .bl k ∧ Q k H'
theorem pt_cmpR {op : CmpOp} {r : R2} (ho : OpR X (compareOp op) r) (ha : PE X a ta) (hb : PE X b tb) (hm : behindInMarks op b = false) : PT X (.Compare a [op] [b] pos) (tTest (tOp r ta tb)) := by
  intro pins s σ H Q I h
  refine wpAny_isTrue_Compare1 (thn (ha pins s σ H _ I h) fun v s1 ⟨x, H1, I1, r1, q1⟩ => thn (hb pins s1 σ H1 _ I1 q1) fun u s2 ⟨y, H2, I2, r2, q2⟩ =>
    thn (ho pins s2 σ H2 x y v u _ I2 r1 r2 q2) fun c s3 ⟨z, H3, I3, r3, k, e, q3⟩ => ?_) hm
  subst e
  cases r3
  exact wpAny_truthy_bool ⟨H3, I3, q3⟩
/-- a op1 b op2 c -/
def tChain (r r' : R2) (ta tb tc : TE) : TE := fun σ H Q => ta σ H fun x H1 => tb σ H1 fun y H2 => r x y H2 fun z H3 => ∃ k, z = .bl k ∧
  (if k = true then tc σ H3 fun w' H4 => r' y w' H4 Q else Q (.bl false) H3)
theorem pe_chain {op op' : CmpOp} {r r' : R2} (ho : OpR X (compareOp op) r) (ho' : OpR X (compareOp op') r') (ha : PE X a ta) (hb : PE X b tb) (hc : PE X c tc)
    (hm : lastMarks [op, op'] [b, c] = false := by with_unfolding_all rfl) : PE X (.Compare a [op, op'] [b, c] pos) (tChain r r' ta tb tc) := by
  intro pins s σ H Q I h
  refine Compare_chain (thn (ha pins s σ H _ I h) fun v s1 ⟨x, H1, I1, r1, q1⟩ => chain_link (thn (hb pins s1 σ H1 _ I1 q1) fun u s2 ⟨y, H2, I2, r2, q2⟩ =>
    thn (ho pins s2 σ H2 x y v u _ I2 r1 r2 q2) fun d s3 ⟨z, H3, I3, r3, k, e, q3⟩ => ?_)) hm
  subst e
  cases r3
  refine wpAny_truthy_bool ?_
  cases k with
  | false => exact ite_ff ⟨.bl false, H3, I3, rfl, q3⟩
  | true => exact ite_tt (chain_last (thn (hc pins s3 σ H3 _ I3 q3) fun w' s4 ⟨z', H4, I4, r4, q4⟩ => ho' pins s4 σ H4 y z' u w' Q I4 r2 r4 q4))
theorem pt_chain {op op' : CmpOp} {r r' : R2} (ho : OpR X (compareOp op) r) (ho' : OpR X (compareOp op') r') (ha : PE X a ta) (hb : PE X b tb) (hc : PE X c tc)
    (hm : lastMarks [op, op'] [b, c] = false := by with_unfolding_all rfl) : PT X (.Compare a [op, op'] [b, c] pos) (tTest (tChain r r' ta tb tc)) := by
  intro pins s σ H Q I h
  refine isTrue_chain (thn (ha pins s σ H _ I h) fun v s1 ⟨x, H1, I1, r1, q1⟩ => test_link (thn (hb pins s1 σ H1 _ I1 q1) fun u s2 ⟨y, H2, I2, r2, q2⟩ =>
    thn (ho pins s2 σ H2 x y v u _ I2 r1 r2 q2) fun d s3 ⟨z, H3, I3, r3, k, e, q3⟩ => ?_)) hm
  subst e
  cases r3
  refine wpAny_truthy_bool ?_
  cases k with
  | false =>
    obtain ⟨k', e', q'⟩ := q3
    cases e'
    exact ite_ff ⟨H3, I3, q'⟩
  | true =>
    refine ite_tt (test_last (thn (hc pins s3 σ H3 _ I3 q3) fun w' s4 ⟨z', H4, I4, r4, q4⟩ => thn (ho' pins s4 σ H4 y z' u w' _ I4 r2 r4 q4) fun d' s5 ⟨z2, H5, I5, r5, k2, e2, q5⟩ => ?_))
    subst e2
    cases r5
    exact wpAny_truthy_bool ⟨H5, I5, q5⟩
/-! ### truth -/
/-- a value's truth by the abstract heap -/
def TruV (K : PySem.W.Frag) (x : V) (H : Hp) (k : Bool) : Prop :=
  match x with
  | .non => k = false
  | .bl b => k = b
  | .int i => k = (i != 0)
  | .str y => y.length ≤ sizeLine ∧ k = ((y.length : Int) != 0)
  | .byt y => y.size ≤ sizeLine ∧ k = ((y.size : Int) != 0)
  | .ref p => (∃ xs, SqL K H p xs ∧ k = !xs.isEmpty) ∨ (∃ xs, SqT K H p xs ∧ k = !xs.isEmpty) ∨ ∃ kvs, H p = some (.dK kvs) ∧ k = !kvs.isEmpty
  | _ => False
theorem isEmpty_kv {κ : Type} {kvs : List (κ × V)} {vs : List (κ × Value)} (r : KV kvs vs) : (!vs.isEmpty) = !kvs.isEmpty := by
  cases r <;> rfl
theorem isEmpty_of {xs : List V} {its : List Value} (r : Vals xs its) : (!its.toArray.isEmpty) = !xs.isEmpty := by
  cases r <;> simp
theorem line63 : (sizeLine : Nat) < 2 ^ 63 := by rw [sizeLine_eq]; decide
theorem tru_ok : TruR X (fun x H Q => ∃ k, TruV X.K x H k ∧ Q k H) := by
  intro pins s σ H x v Q I rx h
  obtain ⟨k, e, q⟩ := h
  have hl := line63
  have hs : sizeLine = 16777216 := sizeLine_eq
  cases x with
  | non =>
    cases rx
    have e' : k = false := e
    subst e'
    exact truthy_none ⟨H, I, q⟩
  | bl b =>
    cases rx
    have e' : k = b := e
    subst e'
    exact wpAny_truthy_bool ⟨H, I, q⟩
  | int i =>
    obtain ⟨t, rfl⟩ := rx
    have e' : k = (i != 0) := e
    subst e'
    exact PySem.P.truthy_int ⟨H, I, q⟩
  | str y =>
    obtain ⟨t, rfl⟩ := rx
    obtain ⟨hy, e'⟩ : y.length ≤ sizeLine ∧ k = ((y.length : Int) != 0) := e
    subst e'
    exact PySem.P.truthy_str (by omega) ⟨H, I.tok _, q⟩
  | byt y =>
    obtain ⟨t, rfl⟩ := rx
    obtain ⟨hy, e'⟩ : y.size ≤ sizeLine ∧ k = ((y.size : Int) != 0) := e
    subst e'
    exact PySem.W.truthy_bytes (by omega) ⟨H, I.tok _, q⟩
  | ref p =>
    cases rx
    have e' : (∃ xs, SqL X.K H p xs ∧ k = !xs.isEmpty) ∨ (∃ xs, SqT X.K H p xs ∧ k = !xs.isEmpty) ∨ ∃ kvs, H p = some (.dK kvs) ∧ k = !kvs.isEmpty := e
    rcases e' with ⟨xs, hx, e'⟩ | ⟨xs, hx, e'⟩ | ⟨kvs, hx, e'⟩
    · subst e'
      obtain ⟨its, r, pl, hz⟩ := I.list hx
      have hlen := r.length
      exact wpAny_truthy_list pl.isList (by simp only [List.size_toArray]; omega) ⟨H, I.tok _, by rw [isEmpty_of r]; exact q⟩
    · subst e'
      obtain ⟨its, r, pl, hz⟩ := I.tuple hx
      have hlen := r.length
      exact truthy_tuple pl (by simp only [List.size_toArray]; omega) ⟨H, I.tok _, by rw [isEmpty_of r]; exact q⟩
    · subst e'
      obtain ⟨hz, hS, vs, r, m⟩ : kvs.length ≤ sizeLine ∧ (p == sysModules) = false ∧ ∃ vs, KV kvs vs ∧ s.heap.DictOf (mixKind X.prog X.w) p vs := I.hok p _ hx
      have hlen : kvs.length = vs.length := Paired.length r
      exact wpAny_truthy_dict hS m (by omega) ⟨H, I.tok _, by rw [isEmpty_kv r]; exact q⟩
  | _ => exact (show False from e).elim
/-- any expression whose test is its value's truth (a name, a call, a subscript, a field ..: he by fun _ => rfl) -/
theorem pt_truth (ha : PE X a ta) (he : ∀ whole, isTrue a X.env whole = (do let v ← whole; standAt a.pos; holding [v] (truthy v))) :
    PT X a (fun σ H Q => ta σ H fun x H' => ∃ k, TruV X.K x H' k ∧ Q k H') := by
  intro pins s σ H Q I h
  exact isTrue_plain (thn (ha pins s σ H _ I h) fun v s1 ⟨x, H1, I1, r1, q1⟩ => tru_ok pins s1 σ H1 x v Q I1 r1 q1) (he _)
/-! ### strs and bytes -/
theorem pe_byt {x : List UInt8} {k : Nat} : PE X (.Constant (.bytes x) k pos) (fun _ H Q => Q (.byt x.toArray) H) := fun _ _ _ H _ I h => PySem.W.Constant_bytes ⟨.byt x.toArray, H, I.tok _, ⟨_, rfl⟩, h⟩
theorem op_add_str : OpR X (binaryOp .Add) (fun x y H Q => ∃ i j, x = .str i ∧ y = .str j ∧ i.length + j.length ≤ sizeLine ∧ Q (.str (i ++ j)) H) := by
  intro pins s σ H x y v u Q I rx ry h
  obtain ⟨i, j, rfl, rfl, hz, q⟩ := h
  obtain ⟨t, rfl⟩ := rx
  obtain ⟨t', rfl⟩ := ry
  exact add_str (fun t' tk => ⟨.str (i ++ j), H, I.tok _, ⟨_, rfl⟩, q⟩) hz
theorem iop_add_str : OpR X (inplaceOp .Add) (fun x y H Q => ∃ i j, x = .str i ∧ y = .str j ∧ i.length + j.length ≤ sizeLine ∧ Q (.str (i ++ j)) H) := by
  intro pins s σ H x y v u Q I rx ry h
  obtain ⟨i, j, rfl, rfl, hz, q⟩ := h
  obtain ⟨t, rfl⟩ := rx
  obtain ⟨t', rfl⟩ := ry
  exact iadd_str (fun t' tk => ⟨.str (i ++ j), H, I.tok _, ⟨_, rfl⟩, q⟩) hz
theorem op_add_byt : OpR X (binaryOp .Add) (fun x y H Q => ∃ i j, x = .byt i ∧ y = .byt j ∧ i.size + j.size ≤ 16777216 ∧ Q (.byt (i ++ j)) H) := by
  intro pins s σ H x y v u Q I rx ry h
  obtain ⟨i, j, rfl, rfl, hz, q⟩ := h
  obtain ⟨t, rfl⟩ := rx
  obtain ⟨t', rfl⟩ := ry
  exact PySem.W.KBy.add_bytes hz (fun t' tk => ⟨.byt (i ++ j), H, I.tok _, ⟨_, rfl⟩, q⟩)
def PlainIxT (b : Expr) : Prop := ∀ o i, subscripted b false o i = operate [o, i] (getItem o i)
/-- s[i], 0 ≤ i < len -/
theorem pe_item_str (ha : PE X a ta) (hb : PE X b tb) (hs : PlainIxT b) :
    PE X (.Subscript a b pos) (tOp (fun x y H Q => ∃ z i c, x = .str z ∧ y = .int i ∧ 0 ≤ i ∧ i < 2 ^ 63 ∧ i < z.length ∧ z.cps[i.toNat]? = some c ∧ Q (.str ⟨#[c]⟩) H) ta tb) := by
  intro pins s σ H Q I h
  refine Subscript_ (binT ha hb I h fun v u s2 x y H2 I2 rx ry q => ?_)
  obtain ⟨z, i, c, rfl, rfl, h0, h63, h1, hc, q⟩ := q
  obtain ⟨t, rfl⟩ := rx
  obtain ⟨t', rfl⟩ := ry
  have e : seqIndex? i z.length = some i.toNat := PySem.StrLaws.seqIndex_nonneg h0 h1
  exact tail_any (typeIs_str s2 z t) slot_str_getitem.lookup (getItem_str (c := c) (by
    have e1 : decide (i < -(2 ^ 63 : Int)) = false := decide_eq_false (by omega)
    have e2 : decide (i ≥ 2 ^ 63) = false := decide_eq_false (by omega)
    rw [e1, e2] <;> rfl) (by rw [e]; exact hc) ⟨.str ⟨#[c]⟩, H2, I2.tok _, ⟨_, rfl⟩, q⟩) (hs _ _)
/-- b[i], 0 ≤ i < len -/
theorem pe_item_byt (ha : PE X a ta) (hb : PE X b tb) (hs : PlainIxT b) :
    PE X (.Subscript a b pos) (tOp (fun x y H Q => ∃ (z : List UInt8) (i : Int), x = .byt z.toArray ∧ y = .int i ∧ z.length ≤ sizeLine ∧ 0 ≤ i ∧ i < z.length ∧ Q (.int ((z.getD i.toNat 0).toNat : Nat)) H) ta tb) := by
  intro pins s σ H Q I h
  refine Subscript_ (binT ha hb I h fun v u s2 x y H2 I2 rx ry q => ?_)
  obtain ⟨z, i, rfl, rfl, hz, h0, h1, q⟩ := q
  obtain ⟨t, rfl⟩ := rx
  obtain ⟨t', rfl⟩ := ry
  have hl : sizeLine = 16777216 := sizeLine_eq
  exact tail_any (PySem.W.typeIs_bytes s2 z.toArray t) PySem.W.FB.slot_bytes_getitem.lookup (PySem.W.getItem_bytes (by omega) h0 h1 ⟨.int ((z.getD i.toNat 0).toNat : Nat), H2, I2.tok _, ⟨_, rfl⟩, q⟩) (hs _ _)
/-! ### scalar builtins, by CallR -/
theorem vals1 {x : V} {us : List Value} (r : Vals [x] us) : ∃ u, us = [u] ∧ RelV x u := by
  cases r with
  | cons r1 r2 => cases r2; exact ⟨_, rfl, r1⟩
theorem vals2 {x y : V} {us : List Value} (r : Vals [x, y] us) : ∃ u w', us = [u, w'] ∧ RelV x u ∧ RelV y w' := by
  cases r with
  | cons r1 r2 =>
    cases r2 with
    | cons r3 r4 => cases r4; exact ⟨_, _, rfl, r1, r3⟩
theorem call_abs : CallR X (.builtin "abs") (fun xs H Q => ∃ i, xs = [.int i] ∧ Q (.int (if i < 0 then -i else i)) H) := by
  intro pins s σ H xs us Q I r h
  obtain ⟨i, rfl, q⟩ := h
  obtain ⟨u, rfl, t, rfl⟩ := vals1 r
  exact call_abs_int fun u tk => ⟨.int (if i < 0 then -i else i), H, I.tok _, ⟨_, rfl⟩, q⟩
theorem call_max2 (hc : X.calm = true) : CallR X (.builtin "max") (fun xs H Q => ∃ i j, xs = [.int i, .int j] ∧ Q (.int (if j > i then j else i)) H) := by
  intro pins s σ H xs us Q I r h
  obtain ⟨i, j, rfl, q⟩ := h
  obtain ⟨u, w', rfl, ⟨t, rfl⟩, ⟨t', rfl⟩⟩ := vals2 r
  refine max_two_ints (I.ok.hd hc) fun h' tk k => ⟨_, H, I.kept k, ?_, q⟩
  by_cases hj : j > i
  · rw [if_pos hj, if_pos hj]; exact ⟨_, rfl⟩
  · rw [if_neg hj, if_neg hj]; exact ⟨_, rfl⟩
theorem call_min2 (hc : X.calm = true) : CallR X (.builtin "min") (fun xs H Q => ∃ i j, xs = [.int i, .int j] ∧ Q (.int (if j < i then j else i)) H) := by
  intro pins s σ H xs us Q I r h
  obtain ⟨i, j, rfl, q⟩ := h
  obtain ⟨u, w', rfl, ⟨t, rfl⟩, ⟨t', rfl⟩⟩ := vals2 r
  refine min_two_ints (I.ok.hd hc) fun h' tk k => ⟨_, H, I.kept k, ?_, q⟩
  by_cases hj : j < i
  · rw [if_pos hj, if_pos hj]; exact ⟨_, rfl⟩
  · rw [if_neg hj, if_neg hj]; exact ⟨_, rfl⟩
theorem call_int1 : CallR X (.type "int") (fun xs H Q => (∃ i, xs = [.int i] ∧ Q (.int i) H) ∨ ∃ k, xs = [.bl k] ∧ Q (.int (if k then 1 else 0)) H) := by
  intro pins s σ H xs us Q I r h
  rcases h with ⟨i, rfl, q⟩ | ⟨k, rfl, q⟩
  · obtain ⟨u, rfl, t, rfl⟩ := vals1 r
    exact call_int_int ⟨.int i, H, I, ⟨_, rfl⟩, q⟩
  · obtain ⟨u, rfl, r1⟩ := vals1 r
    cases r1
    exact call_int_bool ⟨.int (if k then 1 else 0), H, I.tok _, ⟨_, rfl⟩, q⟩
theorem call_bool1 : CallR X (.type "bool") (fun xs H Q => (∃ i, xs = [.int i] ∧ Q (.bl (i != 0)) H) ∨ ∃ k, xs = [.bl k] ∧ Q (.bl k) H) := by
  intro pins s σ H xs us Q I r h
  rcases h with ⟨i, rfl, q⟩ | ⟨k, rfl, q⟩
  · obtain ⟨u, rfl, t, rfl⟩ := vals1 r
    exact call_bool_int ⟨.bl (i != 0), H, I, rfl, q⟩
  · obtain ⟨u, rfl, r1⟩ := vals1 r
    cases r1
    exact call_bool_bool ⟨.bl k, H, I, rfl, q⟩
theorem call_str_int : CallR X (.type "str") (fun xs H Q => ∃ i, xs = [.int i] ∧ i.natAbs.log2 < 1920 ∧ Q (.str (toString i)) H) := by
  intro pins s σ H xs us Q I r h
  obtain ⟨i, rfl, hz, q⟩ := h
  obtain ⟨u, rfl, t, rfl⟩ := vals1 r
  exact PySem.P.str_of_int hz ⟨.str _, H, I.tok _, ⟨_, rfl⟩, q⟩
theorem call_ord : CallR X (.builtin "ord") (fun xs H Q => ∃ x, xs = [.str x] ∧ x.length = 1 ∧ Q (.int (x.cps.getD 0 0 : Nat)) H) := by
  intro pins s σ H xs us Q I r h
  obtain ⟨x, rfl, hz, q⟩ := h
  obtain ⟨u, rfl, t, rfl⟩ := vals1 r
  exact ord_of_one hz ⟨.int _, H, I.tok _, ⟨_, rfl⟩, q⟩
theorem call_chr : CallR X (.builtin "chr") (fun xs H Q => ∃ i, xs = [.int i] ∧ 0 ≤ i ∧ i ≤ 1114111 ∧ Q (.str ⟨#[i.toNat]⟩) H) := by
  intro pins s σ H xs us Q I r h
  obtain ⟨i, rfl, h0, h1, q⟩ := h
  obtain ⟨u, rfl, t, rfl⟩ := vals1 r
  exact chr_of_range h0 h1 ⟨.str _, H, I.tok _, ⟨_, rfl⟩, q⟩
/-- len of a str, a bytes, a list, a tuple -/
def LenV (K : PySem.W.Frag) (x : V) (H : Hp) (n : Nat) : Prop :=
  match x with
  | .str y => y.length ≤ sizeLine ∧ n = y.length
  | .byt y => y.size ≤ sizeLine ∧ n = y.size
  | .ref p => (∃ xs, SqL K H p xs ∧ n = xs.length) ∨ ∃ xs, SqT K H p xs ∧ n = xs.length
  | _ => False
theorem call_len : CallR X (.builtin "len") (fun xs H Q => ∃ x n, xs = [x] ∧ LenV X.K x H n ∧ Q (.int n) H) := by
  intro pins s σ H xs us Q I r h
  obtain ⟨x, n, rfl, e, q⟩ := h
  obtain ⟨u, rfl, rx⟩ := vals1 r
  have hl := line63
  have hs : sizeLine = 16777216 := sizeLine_eq
  cases x with
  | str y =>
    obtain ⟨t, rfl⟩ := rx
    obtain ⟨hy, e'⟩ : y.length ≤ sizeLine ∧ n = y.length := e
    subst e'
    exact len_str (by omega) ⟨.int _, H, I.tok _, ⟨_, rfl⟩, q⟩
  | byt y =>
    obtain ⟨t, rfl⟩ := rx
    obtain ⟨hy, e'⟩ : y.size ≤ sizeLine ∧ n = y.size := e
    subst e'
    exact PySem.W.len_bytes (by omega) ⟨.int _, H, I.tok _, ⟨_, rfl⟩, q⟩
  | ref p =>
    cases rx
    have e' : (∃ xs, SqL X.K H p xs ∧ n = xs.length) ∨ ∃ xs, SqT X.K H p xs ∧ n = xs.length := e
    rcases e' with ⟨xs, hx, e'⟩ | ⟨xs, hx, e'⟩
    · subst e'
      obtain ⟨its, r', pl, hz⟩ := I.list hx
      have hlen := r'.length
      exact Calls.call_len_list pl.isList (by simp only [List.size_toArray]; omega) ⟨.int xs.length, H, I.tok _, ⟨_, by simp only [List.size_toArray]; rw [hlen]⟩, q⟩
    · subst e'
      obtain ⟨its, r', pl, hz⟩ := I.tuple hx
      have hlen := r'.length
      exact len_tuple pl (by simp only [List.size_toArray]; omega) ⟨.int xs.length, H, I.tok _, ⟨_, by simp only [List.size_toArray]; rw [hlen]⟩, q⟩
  | _ => exact (show False from e).elim
/-- divmod: a new tuple -/
theorem call_divmod : CallR X (.builtin "divmod") (fun xs H Q => ∃ i j, xs = [.int i, .int j] ∧ CDiv i j ∧ ∀ p, H p = none → Q (.ref p) (upd H p (.tup [.int (i / j), .int (i % j)]))) := by
  intro pins s σ H xs us Q I r h
  obtain ⟨i, j, rfl, ⟨h1, h2⟩, q⟩ := h
  obtain ⟨u, w', rfl, ⟨t, rfl⟩, ⟨t', rfl⟩⟩ := vals2 r
  refine divmod_int (by omega) ?_ (.inl (PyProof.noPylong_small (by omega)))
  rw [Int.fdiv_eq_ediv_of_nonneg i (by omega), Int.fmod_eq_emod_of_nonneg i (by omega)]
  have hn : H s.heap.objs.size = none := I.hok.fresh (Nat.le_refl _)
  refine ⟨.ref s.heap.objs.size, _, ?_, rfl, q _ hn⟩
  refine I.laid (fun b o e => Heap.get?_push_of_some _ e) (Nat.le_refl _) ⟨by simp only [List.length_cons, List.length_nil]; rw [sizeLine_eq]; decide, [.int (i / j) s.toks, .int (i % j) (s.toks + 1)], .cons ⟨_, rfl⟩ (.cons ⟨_, rfl⟩ .nil), ?_⟩
  exact ⟨_, Heap.get?_push_size s.heap rfl, rfl, 0, rfl⟩
end
end L2
namespace L2
open PySem PySem.Spec PyProof.Rows
/-! ### an instance, its attributes a map -/
structure ObjM (h : Heap) (x dx C : Addr) (mA : Str → Option Value) : Prop where
  obj : h.get? x = some (PySem.W.instObj C dx)
  ns : h.Ns1 dx mA
  ne : dx ≠ x
theorem lookIn_ns {h : Heap} {dx : Addr} {mA : Str → Option Value} (n : h.Ns1 dx mA) : ∃ od, h.get? dx = some od ∧ ∀ name, PySem.W.lookIn name od = some (mA name) := by
  obtain ⟨o, es, ep, ho, hd, hk, _, hm⟩ := n
  refine ⟨o, ho, fun name => ?_⟩
  have e := hm name
  unfold nsFind findBy at e
  rw [← Array.find?_toList] at e
  unfold PySem.W.lookIn
  rw [hd]
  dsimp only
  split
  · rename_i y q
    rw [q] at e
    exact congrArg some e
  · rename_i q
    rw [q] at e
    have a : es.toList.any (·.refKey) = false := by
      rw [List.any_eq_false]
      intro y hy
      obtain ⟨z, t, hkey⟩ := hk y (Array.mem_toList_iff.mp hy)
      simp [DictEntry.refKey, hkey]
    have a' : ¬ es.toList.any (·.refKey) = true := by rw [a]; exact Bool.false_ne_true
    rw [if_neg a']
    exact congrArg some e
theorem ObjM.look {h : Heap} {x dx C : Addr} {mA : Str → Option Value} (I : ObjM h x dx C mA) : ∃ od, PySem.W.InstAt h x (PySem.W.instObj C dx) C (some od) ∧ ∀ name, PySem.W.lookIn name od = some (mA name) :=
  let ⟨od, ho, hl⟩ := lookIn_ns I.ns
  ⟨od, ⟨I.obj, rfl, rfl, ho⟩, hl⟩
section
variable {prog : Program} {w : World} {A : Around} {E : Value → Shared → Prop} {s : Shared} {K : PySem.W.Frag} {x dx C f : Addr} {mA : Str → Option Value} {name : Str} {v : Value}
theorem get_map {expr : Bool} {Q : Value → Shared → Prop} (X : K.In s.heap) (I : ObjM s.heap x dx C mA) (hg : PySem.W.plainGet K C name = true) (hh : PySem.W.hasDictIn K C = true)
    (ha : PySem.W.findIn K (.ref C) name = some none) (hv : mA name = some v) (hv' : PySem.W.handedIn v = true) (h : Q v { s with toks := s.toks + 1 }) :
    wpAny (model prog w) A (getAttr (.ref x) name expr) Q E s := by
  obtain ⟨od, J, hl⟩ := I.look
  exact PySem.W.get_value X J (PySem.W.plainGet_of hg).1 (PySem.W.findObj_own hh ha rfl (by rw [hl, hv])) hv' h
theorem get_const {expr : Bool} {a : Value} {Q : Value → Shared → Prop} (X : K.In s.heap) (I : ObjM s.heap x dx C mA) (hg : PySem.W.plainGet K C name = true) (hh : PySem.W.hasDictIn K C = true)
    (ha : PySem.W.findIn K (.ref C) name = some (some a)) (hn : PySem.W.specialIn K a "__get__" = some none) (hc : PySem.W.copiedNames.contains name = false) (hv : mA name = none) (hv' : PySem.W.handedIn a = true)
    (h : Q a { s with toks := s.toks + 1 }) : wpAny (model prog w) A (getAttr (.ref x) name expr) Q E s := by
  obtain ⟨od, J, hl⟩ := I.look
  exact PySem.W.get_value X J (PySem.W.plainGet_of hg).1 (PySem.W.findObj_cls hh ha hn hv' hc (by rw [hl, hv])) hv' h
theorem get_meth {pl : Sem Bool} {Q : Value × List Value → Shared → Prop} (X : K.In s.heap) (I : ObjM s.heap x dx C mA) (hg : PySem.W.plainGet K C name = true)
    (hf : PySem.W.findIn K (.ref C) name = some (some (.ref f))) (ht : PySem.W.isFn K (.ref f) = true) (hv : mA name = none) (h : Q (.ref f, [.ref x]) s) :
    wpAny (model prog w) A (getMethod (.ref x) name pl) Q E s := by
  obtain ⟨od, J, hl⟩ := I.look
  exact PySem.W.method_fn X J (PySem.W.plainGet_of hg).1 (PySem.W.plainGet_of hg).2 hf (beq_iff_eq.mp ht) (by show (PySem.W.lookIn name od).map (·.isSome) = some false; rw [hl, hv]; rfl) h
theorem set_map {ns : List Str} {Q : Unit → Shared → Prop} (X : K.In s.heap) (I : ObjM s.heap x dx C mA)
    (hs : PySem.W.findIn K (.ref C) "__setattr__" = some (some (.builtin "object.__setattr__"))) (hp : PySem.W.plainOver K C = true) (ht : PySem.W.takerIn K C name = some none) (hh : PySem.W.hasDictIn K C = true)
    (hw : PySem.Within mA ns) (hsz : ns.length ≤ sizeLine)
    (h : ∀ h', ObjM h' x dx C (fun y => if y = name then some v else mA y) → Heap.SameBut dx s.heap h' → Q () { s with heap := h', toks := s.toks + 2 }) :
    wpAny (model prog w) A (setAttr (.ref x) name v) Q E s := by
  obtain ⟨od, J, hl⟩ := I.look
  refine PySem.W.set_plain X J hs (PySem.W.osa_open (s := { s with toks := s.toks + 1 }) (r := none) X J hp ht fun b => ?_)
  obtain ⟨cd, hc, hd'⟩ := PySem.W.any_some hh
  have hx : s.heap.get? x = some ⟨.ref C, some dx, .plain, #[]⟩ := I.obj
  refine wpAny_bind (wpAny_pure (wpAny_bind (wpAny_bind (wpAny_loadPart hx (wpAny_bind (PySem.W.Looks.here (s := { s with toks := s.toks + 1 }) (PySem.W.looks_clsIn X hc) ?_))))))
  rw [hd']
  refine wpAny_pure (a := some dx) (wpAny_bind (wpAny_pure (wpAny_bind ?_)))
  refine wpAny_nsSet1 (s := { s with toks := s.toks + 1 }) I.ns fun h' hn2 hs2 => ?_
  obtain ⟨oD, esD, epD, hoD, hdD, hcD⟩ := hn2.count (PySem.Within.cons name v hw)
  refine wpAny_bind (wpAny_lookBehind hoD (by rw [hdD]; exact pastItsLine_dict (Nat.le_trans hcD (by rw [List.length_cons]; omega))) ?_)
  exact wpAny_pure (h _ ⟨(hs2.2 _ (Ne.symm I.ne)).trans I.obj, hn2, I.ne⟩ hs2)
/-- C(..): the dict at the heap's end, the instance behind it; then its __init__ -/
theorem make_map {R : Result → Shared → Prop} {vs : List Value} {kw : List (Str × Value)} (X : K.In s.heap) (hm : PySem.W.makesIn K C = true)
    (hi : PySem.W.findIn K (.ref C) "__init__" = some (some (.ref f))) (hf : PySem.W.typeIn K (.ref f) = some (.type "function"))
    (h : codeAny (model prog w) (A.under (.builtin "type.__call__" ⟨.ref C :: vs, kw⟩)) (.call (.ref f) ⟨.ref (s.heap.objs.size + 1) :: vs, kw⟩) (PySem.W.InitBack (s.heap.objs.size + 1) R)
      { s with heap := (s.heap.push PySem.W.emptyDict).push (PySem.W.instObj C s.heap.objs.size) }) :
    codeAny (model prog w) A (.call (.ref C) ⟨vs, kw⟩) R s := by
  obtain ⟨hh, g, d, t, os⟩ := s
  exact PySem.W.make_core (PySem.W.makes_of X hm) (PySem.W.looks_findIn X hi) (fun self => PySem.W.bind_fn X self hf) (.inl rfl) h
/-- C() where there is no __init__ but object's -/
theorem make_map0 {R : Result → Shared → Prop} (X : K.In s.heap) (hm : PySem.W.makesIn K C = true)
    (hi : PySem.W.findIn K (.ref C) "__init__" = some (some (.builtin "object.__init__")))
    (hb : ∀ self, PySem.W.Looks (model prog w) s.heap (bindSpecial (.builtin "object.__init__") self) (.builtin "object.__init__", [self]))
    (h : codeAny (model prog w) (A.under (.builtin "type.__call__" ⟨[.ref C], []⟩)) (.call (.builtin "object.__init__") ⟨[.ref (s.heap.objs.size + 1)], []⟩) (PySem.W.InitBack (s.heap.objs.size + 1) R)
      { s with heap := (s.heap.push PySem.W.emptyDict).push (PySem.W.instObj C s.heap.objs.size) }) :
    codeAny (model prog w) A (.call (.ref C) ⟨[], []⟩) R s := by
  obtain ⟨hh, g, d, t, os⟩ := s
  exact PySem.W.make_core (PySem.W.makes_of X hm) (PySem.W.looks_findIn X hi) hb (.inr ⟨rfl, rfl⟩) h
end
/-! ### the attributes as a list of pairs -/
def putF (f : Str) (v : V) : List (Str × V) → List (Str × V)
  | [] => [(f, v)]
  | (g, x) :: r => if g = f then (g, v) :: r else (g, x) :: putF f v r
theorem lookup_putF (f g : Str) (v : V) : ∀ fs : List (Str × V), (putF f v fs).lookup g = if g = f then some v else fs.lookup g
  | [] => by
    show List.lookup g [(f, v)] = _
    by_cases h : g = f
    · have hb : (g == f) = true := beq_iff_eq.mpr h
      simp only [List.lookup, hb, if_pos h]
    · have hb : (g == f) = false := beq_eq_false_iff_ne.mpr h
      simp only [List.lookup, hb, if_neg h]
  | (k, x) :: r => by
    have ih := lookup_putF f g v r
    rw [show putF f v ((k, x) :: r) = (if k = f then (k, v) :: r else (k, x) :: putF f v r) from rfl]
    by_cases hk : k = f
    · rw [if_pos hk]
      by_cases h : g = k
      · have hb : (g == k) = true := beq_iff_eq.mpr h
        simp only [List.lookup, hb, if_pos (h.trans hk)]
      · have hb : (g == k) = false := beq_eq_false_iff_ne.mpr h
        simp only [List.lookup, hb, if_neg (fun e : g = f => h (e.trans hk.symm))]
    · rw [if_neg hk]
      by_cases h : g = k
      · have hb : (g == k) = true := beq_iff_eq.mpr h
        simp only [List.lookup, hb, if_neg (fun e : g = f => hk (h.symm.trans e))]
      · have hb : (g == k) = false := beq_eq_false_iff_ne.mpr h
        simp only [List.lookup, hb]
        exact ih
theorem keys_putF (f : Str) (v : V) : ∀ fs : List (Str × V), f ∈ (putF f v fs).map (·.1) ∧ ∀ g, g ∈ fs.map (·.1) → g ∈ (putF f v fs).map (·.1)
  | [] => ⟨by simp [putF], fun g h => by simp at h⟩
  | (k, x) :: r => by
    obtain ⟨i1, i2⟩ := keys_putF f v r
    rw [show putF f v ((k, x) :: r) = (if k = f then (k, v) :: r else (k, x) :: putF f v r) from rfl]
    by_cases hk : k = f
    · rw [if_pos hk]
      subst hk
      exact ⟨by simp, fun g h => by simpa using h⟩
    · rw [if_neg hk]
      refine ⟨?_, fun g h => ?_⟩
      · rw [List.map_cons]
        exact List.mem_cons_of_mem _ i1
      · rw [List.map_cons] at h ⊢
        rcases List.mem_cons.mp h with e | e
        · exact List.mem_cons.mpr (.inl e)
        · exact List.mem_cons_of_mem _ (i2 g e)
theorem length_putF (f : Str) (v : V) : ∀ fs : List (Str × V), (putF f v fs).length ≤ fs.length + 1
  | [] => by simp [putF]
  | (k, x) :: r => by
    have ih := length_putF f v r
    rw [show putF f v ((k, x) :: r) = (if k = f then (k, v) :: r else (k, x) :: putF f v r) from rfl]
    by_cases hk : k = f
    · rw [if_pos hk, List.length_cons, List.length_cons]; omega
    · rw [if_neg hk, List.length_cons, List.length_cons]; omega
theorem RelO.some_of {v : V} {o : Option Value} (r : RelO (some v) o) : ∃ u, o = some u ∧ RelV v u := by
  cases o with
  | none => exact (show False from r).elim
  | some u => exact ⟨u, rfl, r⟩
theorem RelO.none_of {o : Option Value} (r : RelO none o) : o = none := by
  cases o with
  | none => rfl
  | some u => exact (show False from r).elim
theorem handed_of {v : V} {u : Value} (r : RelV v u) : PySem.W.handedIn u = true := by
  cases v with
  | non => cases (show u = Value.none from r); rfl
  | bl b => cases (show u = Value.bool b from r); rfl
  | int i => obtain ⟨t, e⟩ := (show ∃ t, u = Value.int i t from r); cases e; rfl
  | str x => obtain ⟨t, e⟩ := (show ∃ t, u = Value.str x t from r); cases e; rfl
  | byt b => obtain ⟨t, e⟩ := (show ∃ t, u = Value.bytes b t from r); cases e; rfl
  | flt b => obtain ⟨t, e⟩ := (show ∃ t, u = Value.float b t from r); cases e; rfl
  | ref a => cases (show u = Value.ref a from r); rfl
  | ty n => cases (show u = Value.type n from r); rfl
section
variable {P : Program} {w : World} {H H' : Hp} {h h' : Heap} {a C dx : Addr} {fs fs' : List (Str × V)}
theorem ins_get (hok : HOk P w H h) (e : H a = some (.ins C dx fs)) : ∃ mA, ObjM h a dx C mA ∧ (∀ f, RelO (fs.lookup f) (mA f)) ∧ PySem.Within mA (fs.map (·.1)) ∧ fs.length ≤ 1000 ∧ H dx = some (.own a) := by
  obtain ⟨d, z, ne, ob, mA, n, r, q⟩ := (show ObjOk P w H h a (.ins C dx fs) from hok a _ e)
  exact ⟨mA, ⟨ob, n, ne⟩, r, q, z, d⟩
end
/-! ### what of the text a class must have -/
structure Cls (K : PySem.W.Frag) (C : Addr) : Prop where
  pg : PySem.W.plainGet K C Str.empty = true
  hd : PySem.W.hasDictIn K C = true
  po : PySem.W.plainOver K C = true
  sa : PySem.W.findIn K (.ref C) "__setattr__" = some (some (.builtin "object.__setattr__"))
theorem Cls.get {K : PySem.W.Frag} {C : Addr} (c : Cls K C) (f : Str) : PySem.W.plainGet K C f = true := c.pg
/-- no class of it has the name -/
def NoAttr (K : PySem.W.Frag) (C : Addr) (f : Str) : Prop := PySem.W.findIn K (.ref C) f = some none
theorem NoAttr.taker {K : PySem.W.Frag} {C : Addr} {f : Str} (n : NoAttr K C f) : PySem.W.takerIn K C f = some none := by
  unfold PySem.W.takerIn
  rw [show PySem.W.findIn K (.ref C) f = some none from n]
  rfl
/-- a constant of the class -/
structure Con (K : PySem.W.Frag) (C : Addr) (f : Str) (v : V) (u : Value) : Prop where
  at_ : PySem.W.findIn K (.ref C) f = some (some u)
  rel : RelV v u
  get : PySem.W.specialIn K u "__get__" = some none
  cp : PySem.W.copiedNames.contains f = false
/-- a method: a plain def of the class or of one above it -/
structure Meth (K : PySem.W.Frag) (C : Addr) (m : Str) (f : Addr) : Prop where
  at_ : PySem.W.findIn K (.ref C) m = some (some (.ref f))
  fn : PySem.W.isFn K (.ref f) = true
  kp : PySem.W.keepIn K (.ref f) = true
section
variable {X : Cx} {pins : List (Addr × Obj)} {σ : St} {H : Hp} {s : Shared} {a C dx : Addr} {fs : List (Str × V)} {f : Str} {v : V} {A : Around} {E : Value → Shared → Prop}
theorem getattr_ok {b : Bool} {Q : Value → Shared → Prop} (I : Inv X pins σ H s) (e : H a = some (.ins C dx fs)) (c : Cls X.K C) (n : NoAttr X.K C f) (l : fs.lookup f = some v)
    (h : ∀ u s', Inv X pins σ H s' → RelV v u → Q u s') : wpAny (model X.prog X.w) A (getAttr (.ref a) f b) Q E s := by
  obtain ⟨mA, O, r, _, _, _⟩ := ins_get I.hok e
  obtain ⟨u, hu, ru⟩ := RelO.some_of (v := v) (o := mA f) (by rw [← l]; exact r f)
  exact get_map I.kIn O (c.get f) c.hd n hu (handed_of ru) (h u _ (I.tok _) ru)
theorem getcon_ok {b : Bool} {u : Value} {Q : Value → Shared → Prop} (I : Inv X pins σ H s) (e : H a = some (.ins C dx fs)) (c : Cls X.K C) (k : Con X.K C f v u) (l : fs.lookup f = none)
    (h : ∀ s', Inv X pins σ H s' → Q u s') : wpAny (model X.prog X.w) A (getAttr (.ref a) f b) Q E s := by
  obtain ⟨mA, O, r, _, _, _⟩ := ins_get I.hok e
  have hn : mA f = none := RelO.none_of (by rw [← l]; exact r f)
  exact get_const I.kIn O (c.get f) c.hd k.at_ k.get k.cp hn (handed_of k.rel) (h _ (I.tok _))
theorem getmeth_ok {m : Str} {g : Addr} {pl : Sem Bool} {Q : Value × List Value → Shared → Prop} (I : Inv X pins σ H s) (e : H a = some (.ins C dx fs)) (c : Cls X.K C) (k : Meth X.K C m g) (l : fs.lookup m = none)
    (h : Q (.ref g, [.ref a]) s) : wpAny (model X.prog X.w) A (getMethod (.ref a) m pl) Q E s := by
  obtain ⟨mA, O, r, _, _, _⟩ := ins_get I.hok e
  have hn : mA m = none := RelO.none_of (by rw [← l]; exact r m)
  exact get_meth I.kIn O (c.get m) k.at_ k.fn hn h
theorem setattr_ok {y : V} {u : Value} {Q : Unit → Shared → Prop} (I : Inv X pins σ H s) (e : H a = some (.ins C dx fs)) (c : Cls X.K C) (n : NoAttr X.K C f) (hl : fs.length < 1000) (ry : RelV y u)
    (h : ∀ s', Inv X pins σ (upd H a (.ins C dx (putF f y fs))) s' → Q () s') : wpAny (model X.prog X.w) A (setAttr (.ref a) f u) Q E s := by
  obtain ⟨mA, O, r, wi, _, ho⟩ := ins_get I.hok e
  have hz : (fs.map (·.1)).length ≤ sizeLine := by rw [List.length_map, sizeLine_eq]; omega
  refine set_map I.kIn O c.sa c.po n.taker c.hd wi hz fun h' O' sb => h _ ?_
  have hd : ∃ o, h'.get? dx = some o := let ⟨o, _, _, e', _⟩ := O'.ns; ⟨o, e'⟩
  refine I.write (x := a) (e := dx) (by rw [e]; exact True.intro) (.inr ho) (fun b q hb z => (sb.2 b hb).trans z) hd ?_
  refine ⟨by rw [upd_ne O.ne]; exact ho, ?_, O.ne, O'.obj, _, O'.ns, fun g => ?_, fun g hg => ?_⟩
  · have := length_putF f y fs; omega
  · show RelO ((putF f y fs).lookup g) (if g = f then some u else mA g)
    rw [lookup_putF]
    by_cases q : g = f
    · rw [if_pos q, if_pos q]; exact ry
    · rw [if_neg q, if_neg q]; exact r g
  · by_cases q : g = f
    · rw [q]; exact (keys_putF f y fs).1
    · refine (keys_putF f y fs).2 g (wi g fun z => hg ?_)
      show (if g = f then some u else mA g) = none
      rw [if_neg q]; exact z
/-- a new instance, tracked, without attributes -/
theorem Inv.made (I : Inv X pins σ H s) : Inv X pins σ (upd (upd H s.heap.objs.size (.own (s.heap.objs.size + 1))) (s.heap.objs.size + 1) (.ins C s.heap.objs.size []))
    { s with heap := (s.heap.push PySem.W.emptyDict).push (PySem.W.instObj C s.heap.objs.size) } := by
  have e1 : (s.heap.push PySem.W.emptyDict).get? s.heap.objs.size = some PySem.W.emptyDict := Heap.get?_push_size s.heap rfl
  have e2 : ((s.heap.push PySem.W.emptyDict).push (PySem.W.instObj C s.heap.objs.size)).get? (s.heap.objs.size + 1) = some (PySem.W.instObj C s.heap.objs.size) := by
    have := Heap.get?_push_size (s.heap.push PySem.W.emptyDict) (o := PySem.W.instObj C s.heap.objs.size) rfl
    rwa [Heap.size_push] at this
  have e3 : (s.heap.push PySem.W.emptyDict).Ns s.heap.objs.size (fun _ => none) := ⟨PySem.W.emptyDict, #[], _, e1, rfl, (fun e he => absurd he (by simp)), fun _ => rfl⟩
  have I1 := I.laid (a := s.heap.objs.size) (o := .own (s.heap.objs.size + 1)) (h' := s.heap.push PySem.W.emptyDict) (t' := s.toks) (fun b u q => Heap.get?_push_of_some _ q) (Nat.le_refl _) ⟨_, e1⟩
  refine I1.laid (a := s.heap.objs.size + 1) (o := .ins C s.heap.objs.size []) (t' := s.toks) (fun b u q => Heap.get?_push_of_some _ q) (Nat.le_of_eq (Heap.size_push _ _)) ?_
  have ne : s.heap.objs.size ≠ s.heap.objs.size + 1 := Nat.ne_of_lt (Nat.lt_succ_self _)
  refine ⟨by rw [upd_ne ne, upd_same], Nat.zero_le _, ne, e2, fun _ => none, (Heap.Ns1.of_empty e3).at fun o q => Heap.get?_push_of_some _ q, fun _ => True.intro, fun y hy => absurd rfl hy⟩
/-- e.f where nothing but the object is asked: through attributeBase (super) and the last hold -/
theorem attr_of {prog : Program} {w : World} {env : Env} {e : Expr} {f : Str} {pos : Pos} {s : Shared} {Q : Value → Shared → Prop} (hb : attributeBase e f env (eval e env) = eval e env)
    (h : wpAny (model prog w) A (eval e env) (fun o s₁ => wpAny (model prog w) A (getAttr o f true) Q E s₁) E s) : wpAny (model prog w) A (eval (.Attribute e f pos) env) Q E s :=
  Attribute_any_ h (by rw [arm_eval_Attribute, hb])
end
/-! ### readings and rules -/
/-- e.f, an attribute of the instance -/
def tFld (K : PySem.W.Frag) (ta : TE) (f : Str) : TE := fun σ H Q => ta σ H fun x H1 => ∃ a C dx fs v, x = .ref a ∧ H1 a = some (.ins C dx fs) ∧ Cls K C ∧ NoAttr K C f ∧ fs.lookup f = some v ∧ Q v H1
/-- e.f, a constant of the class -/
def tCon (K : PySem.W.Frag) (ta : TE) (f : Str) : TE := fun σ H Q => ta σ H fun x H1 => ∃ a C dx fs v u, x = .ref a ∧ H1 a = some (.ins C dx fs) ∧ Cls K C ∧ Con K C f v u ∧ fs.lookup f = none ∧ Q v H1
/-- e.f = value -/
def sFld (K : PySem.W.Frag) (ta tv : TE) (f : Str) : TS := fun D σ H => tv σ H fun y H1 => ta σ H1 fun x H2 => ∃ a C dx fs, x = .ref a ∧ H2 a = some (.ins C dx fs) ∧ Cls K C ∧ NoAttr K C f ∧ fs.length < 1000 ∧
  D.nx σ (upd H2 a (.ins C dx (putF f y fs)))
/-- an augmented operator on two values -/
def InOp (X : Cx) (op : Operator) (rd : V → V → Hp → VK → Prop) : Prop :=
  ∀ (pins : List (Addr × Obj)) (s : Shared) (σ : St) (H : Hp) (x y : V) (u v : Value) (Q : VK), Inv X pins σ H s → RelV x u → RelV y v → rd x y H Q → wpAny (model X.prog X.w) X.A (inplaceOp op u v) (EP X pins σ Q) X.xe s
/-- e.f op= value -/
def sFldAug (K : PySem.W.Frag) (ta tv : TE) (rd : V → V → Hp → VK → Prop) (f : Str) : TS := fun D σ H => ta σ H fun x H1 => ∃ a C dx fs v, x = .ref a ∧ H1 a = some (.ins C dx fs) ∧ Cls K C ∧ NoAttr K C f ∧ fs.lookup f = some v ∧
  tv σ H1 fun y H2 => rd v y H2 fun z H3 => ∃ dx' fs', H3 a = some (.ins C dx' fs') ∧ fs'.length < 1000 ∧ D.nx σ (upd H3 a (.ins C dx' (putF f z fs')))
section
variable {X : Cx} {o e value : Expr} {f : Str} {pos pos' tpos : Pos} {ta tv : TE}
theorem pe_fld (he : PE X e ta) (hb : attributeBase e f X.env (eval e X.env) = eval e X.env) : PE X (.Attribute e f pos) (tFld X.K ta f) := by
  intro pins s σ H Q I h
  refine attr_of hb (thn (he pins s σ H _ I h) fun u s1 ⟨x, H1, I1, rx, a, C, dx, fs, v, ex, ea, c, n, l, q⟩ => ?_)
  subst ex
  obtain rfl : u = Value.ref a := rx
  exact getattr_ok I1 ea c n l fun u' s2 I2 ru => ⟨v, H1, I2, ru, q⟩
theorem pe_con (he : PE X e ta) (hb : attributeBase e f X.env (eval e X.env) = eval e X.env) : PE X (.Attribute e f pos) (tCon X.K ta f) := by
  intro pins s σ H Q I h
  refine attr_of hb (thn (he pins s σ H _ I h) fun u s1 ⟨x, H1, I1, rx, a, C, dx, fs, v, u0, ex, ea, c, k, l, q⟩ => ?_)
  subst ex
  obtain rfl : u = Value.ref a := rx
  exact getcon_ok I1 ea c k l fun s2 I2 => ⟨v, H1, I2, k.rel, q⟩
theorem ps_fld (ha : PE X o ta) (hv : PE X value tv) (hs : swapsWith value (some (.Attribute o f pos')) pos.line X.env = pure false) : PS X (.Assign [.Attribute o f pos'] value pos) (sFld X.K ta tv f) := by
  intro pins s σ H D I h
  refine plainObj_wpAny_Assign_Attribute (thn (hv pins s σ H _ I h) fun u s1 ⟨y, H1, I1, ry, q⟩ => thn (ha pins s1 σ H1 _ I1 q) fun ov s2 ⟨x, H2, I2, rx, a, C, dx, fs, ex, ea, c, n, l, q2⟩ => ?_) hs
  subst ex
  obtain rfl : ov = Value.ref a := rx
  exact setattr_ok I2 ea c n l ry fun s3 I3 => ⟨σ, _, I3, q2⟩
theorem ps_fldaug {op : Operator} {rd : V → V → Hp → VK → Prop} (ha : PE X o ta) (hv : PE X value tv) (hop : InOp X op rd) : PS X (.AugAssign (.Attribute o f tpos) op value pos) (sFldAug X.K ta tv rd f) := by
  intro pins s σ H D I h
  refine wpAny_AugAssign_AttributeAny (thn (ha pins s σ H _ I h) fun ov s1 ⟨x, H1, I1, rx, a, C, dx, fs, v, ex, ea, c, n, l, q⟩ => ?_)
  subst ex
  obtain rfl : ov = Value.ref a := rx
  refine getattr_ok I1 ea c n l fun u s2 I2 ru => thn (hv pins s2 σ H1 _ I2 q) fun w3 s3 ⟨y, H2, I3, ry, q3⟩ => thn (hop pins s3 σ H2 v y u w3 _ I3 ru ry q3) fun w4 s4 ⟨z, H3, I4, rz, dx', fs', ea', l', q4⟩ => ?_
  exact setattr_ok I4 ea' c n l' rz fun s5 I5 => ⟨σ, _, I5, q4⟩
def rAdd : V → V → Hp → VK → Prop := fun x y H Q => ∃ i j, x = .int i ∧ y = .int j ∧ Q (.int (i + j)) H
def rSub : V → V → Hp → VK → Prop := fun x y H Q => ∃ i j, x = .int i ∧ y = .int j ∧ Q (.int (i - j)) H
theorem in_add : InOp X .Add rAdd := by
  rintro pins s σ H x y u v Q I rx ry ⟨i, j, rfl, rfl, q⟩
  obtain ⟨t, rfl⟩ := (show ∃ t, u = Value.int i t from rx)
  obtain ⟨t', rfl⟩ := (show ∃ t', v = Value.int j t' from ry)
  exact PyProof.Rows.iadd_int ⟨.int (i + j), H, I.tok _, ⟨_, rfl⟩, q⟩
theorem in_sub : InOp X .Sub rSub := by
  rintro pins s σ H x y u v Q I rx ry ⟨i, j, rfl, rfl, q⟩
  obtain ⟨t, rfl⟩ := (show ∃ t, u = Value.int i t from rx)
  obtain ⟨t', rfl⟩ := (show ∃ t', v = Value.int j t' from ry)
  exact PyProof.Rows.isub_int ⟨.int (i - j), H, I.tok _, ⟨_, rfl⟩, q⟩
/-- what is between an instance and its method: the tree of a method call -/
theorem methcall_of {pl : Sem Bool} {m : Str} {apos : Pos} {args : List Expr} {pins : List (Addr × Obj)} {s : Shared} {σ : St} {H : Hp} {Q : Value → Shared → Prop} {te : TE} (he : PE X e te) (I : Inv X pins σ H s)
    (h : te σ H fun x H1 => ∃ a C dx fs g, x = .ref a ∧ H1 a = some (.ins C dx fs) ∧ Cls X.K C ∧ Meth X.K C m g ∧ fs.lookup m = none ∧
      ∀ s1, Inv X pins σ H1 s1 → wpAny (model X.prog X.w) X.A (callWith pos (.ref g) [.ref a] (backTo pos (starEach args X.env)) (backToKw pos (keywordEach [] X.env))) Q X.xe s1)
    (ht : eval (.Call (.Attribute e m apos) args [] pos) X.env = (do
      let ov ← eval e X.env
      standAt apos.atName
      let (f, first) ← holding [ov] (getMethod ov m pl)
      callWith pos f first (backTo pos (starEach args X.env)) (backToKw pos (keywordEach [] X.env)))) :
    wpAny (model X.prog X.w) X.A (eval (.Call (.Attribute e m apos) args [] pos) X.env) Q X.xe s := by
  refine PySem.W.methodCall_KW (pl := pl) (thn (he pins s σ H _ I h) fun u s1 ⟨x, H1, I1, rx, a, C, dx, fs, g, ex, ea, c, k, l, q⟩ => ?_) ht
  subst ex
  obtain rfl : u = Value.ref a := rx
  exact getmeth_ok I1 ea c k l (q s1 I1)
end
/-! ### isinstance -/
section
variable {X : Cx} {pins : List (Addr × Obj)} {σ : St} {H : Hp} {s : Shared} {A : Around} {E : Value → Shared → Prop} {Q : Value → Shared → Prop} {c : Value} {b : Bool}
/-- the type of a value, as the fragment's deciders take it; for an instance its class -/
inductive TyOf (K : PySem.W.Frag) (H : Hp) : V → Value → Prop where
  | non : TyOf K H .non (.type "NoneType")
  | bl (x : Bool) : TyOf K H (.bl x) (.type "bool")
  | int (i : Int) : TyOf K H (.int i) (.type "int")
  | str (x : Str) : TyOf K H (.str x) (.type "str")
  | flt (x : UInt64) : TyOf K H (.flt x) (.type "float")
  | lst {a : Addr} {xs : List V} (e : H a = some (.lst xs)) : TyOf K H (.ref a) (.type "list")
  | frz {a : Addr} {o : Obj} {xs : List V} (e : H a = some (.frz o (.lst xs))) : TyOf K H (.ref a) (.type "list")
  | tup {a : Addr} {xs : List V} (e : H a = some (.tup xs)) : TyOf K H (.ref a) (.type "tuple")
  | dK {a : Addr} {kvs : List (Key × V)} (e : H a = some (.dK kvs)) : TyOf K H (.ref a) (.type "dict")
  | dT {a : Addr} {kvs : List (List Key × V)} (e : H a = some (.dT kvs)) : TyOf K H (.ref a) (.type "dict")
  | ins {a C dx : Addr} {fs : List (Str × V)} (e : H a = some (.ins C dx fs)) (cl : Cls K C) (ha : PySem.W.findIn K (.ref C) "__class__" = some (some (.builtin "object.__class__")))
      (hn : PySem.W.specialIn K (.builtin "object.__class__") "__get__" = some (some (.builtin "getset_descriptor.__get__"))) (htk : PySem.W.takesIn K (.builtin "object.__class__") = some true)
      (hm : PySem.W.mroIn K C (.type "object") = some true) : TyOf K H (.ref a) (.ref C)
/-- isinstance(x, c) for one class c, a built-in or an own one: kitOne's answer -/
theorem isinst_ok {x : V} {u t : Value} (I : Inv X pins σ H s) (rx : RelV x u) (ty : TyOf X.K H x t) (e : PySem.W.kitOne X.K t c = some b) (h : ∀ tk, Q (.bool b) { s with toks := tk }) :
    wpAny (model X.prog X.w) A (call (.builtin "isinstance") [u, c]) Q E s := by
  cases ty with
  | non => cases (show u = Value.none from rx); exact PySem.W.kia_one PySem.W.kitx_none I.kIn True.intro e (fun z => nomatch z) h
  | bl y => cases (show u = Value.bool y from rx); exact PySem.W.kia_one PySem.W.kitx_bool I.kIn True.intro e (fun z => nomatch z) h
  | int i => obtain ⟨t, q⟩ := (show ∃ t, u = Value.int i t from rx); cases q; exact PySem.W.kia_one PySem.W.kitx_int I.kIn True.intro e (fun z => nomatch z) h
  | str y => obtain ⟨t, q⟩ := (show ∃ t, u = Value.str y t from rx); cases q; exact PySem.W.kia_one PySem.W.kitx_str I.kIn True.intro e (fun z => nomatch z) h
  | flt y => obtain ⟨t, q⟩ := (show ∃ t, u = Value.float y t from rx); cases q; exact PySem.W.kia_one PySem.W.kitx_float I.kIn True.intro e (fun z => nomatch z) h
  | @lst a xs ea =>
    cases (show u = Value.ref a from rx)
    obtain ⟨_, _, n, _, h1⟩ := (show ObjOk X.prog X.w H s.heap a (.lst xs) from I.hok a _ ea)
    exact PySem.W.kia_one PySem.W.kitx_list I.kIn ⟨_, h1, rfl⟩ e (fun z => nomatch z) h
  | @frz a ob xs ea =>
    cases (show u = Value.ref a from rx)
    obtain ⟨_, _, _, n, _, h1⟩ := (show ObjOk X.prog X.w H s.heap a (.frz ob (.lst xs)) from I.hok a _ ea)
    exact PySem.W.kia_one PySem.W.kitx_list I.kIn ⟨_, h1, rfl⟩ e (fun z => nomatch z) h
  | @tup a xs ea =>
    cases (show u = Value.ref a from rx)
    obtain ⟨_, _, _, p⟩ := (show ObjOk X.prog X.w H s.heap a (.tup xs) from I.hok a _ ea)
    obtain ⟨o, h1, h2, _⟩ := p
    exact PySem.W.kia_one PySem.W.kitx_tuple I.kIn ⟨o, h1, h2⟩ e (fun z => nomatch z) h
  | @dK a kvs ea =>
    cases (show u = Value.ref a from rx)
    obtain ⟨_, _, vs, _, p⟩ := (show ObjOk X.prog X.w H s.heap a (.dK kvs) from I.hok a _ ea)
    obtain ⟨o, es, ep, h1, h2, _⟩ := p
    exact PySem.W.kia_one PySem.W.kitx_dict I.kIn ⟨o, h1, h2.1⟩ e (fun z => nomatch z) h
  | @dT a kvs ea =>
    cases (show u = Value.ref a from rx)
    obtain ⟨_, _, xs, _, o, es, ep, h1, h2, _⟩ := (show ObjOk X.prog X.w H s.heap a (.dT kvs) from I.hok a _ ea)
    exact PySem.W.kia_one PySem.W.kitx_dict I.kIn ⟨o, h1, h2.1⟩ e (fun z => nomatch z) h
  | @ins a C dx fs ea cl ha hn htk hm =>
    cases (show u = Value.ref a from rx)
    obtain ⟨mA, O, _⟩ := ins_get I.hok ea
    obtain ⟨od, J, _⟩ := O.look
    exact PySem.W.kia_one (PySem.W.kitx_own (cl.get _) cl.hd ha hn htk hm) I.kIn J e (fun z => nomatch z) h
end
end L2
namespace L2
open PySem PySem.Spec PyProof.Rows
/-! ### room -/
structure Room (k : Nat) (A : Around) : Prop where
  hd : A.handled = none
  dp : A.depth + 3 * k + 5 < recursionLimit
  un : A.units + 16 * k + 200 < cLine
theorem Room.mono {j k : Nat} {A : Around} (r : Room k A) (h : j ≤ k) : Room j A := ⟨r.hd, by have := r.dp; omega, by have := r.un; omega⟩
theorem Room.deeper {k : Nat} {A : Around} (r : Room (k + 1) A) (env : Env) : Room k (A.deeper env) :=
  ⟨r.hd, by have := r.dp; show A.depth + 1 + 3 * k + 5 < _; omega, by have := r.un; show A.units + 3 + 16 * k + 200 < _; omega⟩
theorem Room.in1 {k : Nat} {A : Around} (r : Room (k + 1) A) : Room k A.in1 :=
  ⟨r.hd, by have := r.dp; show A.depth + 3 * k + 5 < _; omega, by have := r.un; show A.units + 1 + 16 * k + 200 < _; omega⟩
theorem make_depth {A : Around} {C : Addr} {us : List Value} {kw : List (Str × Value)} : (A.under (.builtin "type.__call__" ⟨.ref C :: us, kw⟩)).depth = A.depth + 1 := by
  first | rfl | simp [Around.under, Code.weight, Code.isCreation, Code.isGuard, Code.isCaller, Code.frames, Code.isFrame, guardIds]
theorem make_units {A : Around} {C : Addr} {us : List Value} {kw : List (Str × Value)} : (A.under (.builtin "type.__call__" ⟨.ref C :: us, kw⟩)).units = A.units + 1 := by
  first | rfl | simp [Around.under, Code.cUnits, Code.frames, Code.isFrame]
theorem Room.make {k : Nat} {A : Around} (r : Room (k + 1) A) (C : Addr) (us : List Value) (kw : List (Str × Value)) : Room k (A.under (.builtin "type.__call__" ⟨.ref C :: us, kw⟩)) :=
  ⟨r.hd, by have := r.dp; rw [make_depth]; omega, by have := r.un; rw [make_units]; omega⟩
theorem Room.depth {k : Nat} {A : Around} (r : Room k A) : A.depth < recursionLimit := by have := r.dp; omega
theorem Room.units {k : Nat} {A : Around} (r : Room k A) : A.units + 64 < cLine := by have := r.un; omega
theorem Room.units0 {k : Nat} {A : Around} (r : Room k A) : A.units < cLine := by have := r.un; omega
/-! ### argument lists and displays -/
def tNil : TA := fun _ H Q => Q [] H
def tCons (ta : TE) (tr : TA) : TA := fun σ H Q => ta σ H fun x H1 => tr σ H1 fun xs H2 => Q (x :: xs) H2
section
variable {X : Cx} {e : Expr} {es : List Expr} {te : TE} {t : TA} {pos : Pos}
theorem pa_nil : PA X [] tNil := fun _ _ _ _ H Q I h => Calls.spliced_nil ⟨[], H, I, .nil, h⟩
theorem pa_cons (ha : PE X e te) (hr : PA X es t) (hs : starEach (e :: es) X.env = (false, eval e X.env) :: starEach es X.env := by rfl) : PA X (e :: es) (tCons te t) := by
  intro pos pins s σ H Q I h
  rw [hs]
  show wpAny _ _ (spliced ((false, eval e X.env) :: backTo pos (starEach es X.env))) _ _ s
  refine Calls.spliced_cons (thn (ha pins s σ H _ I h) fun u s1 ⟨x, H1, I1, r1, q1⟩ => ?_)
  exact thn (hr pos pins s1 σ H1 _ I1 q1) fun us s2 ⟨xs, H2, I2, r2, q2⟩ => ⟨x :: xs, H2, I2, .cons r1 r2, q2⟩
/-- a tuple, a list of written items -/
def tTup (t : TA) : TE := fun σ H Q => t σ H fun xs H1 => xs.length ≤ sizeLine ∧ ∀ p, H1 p = none → Q (.ref p) (upd H1 p (.tup xs))
def tLst (t : TA) : TE := fun σ H Q => t σ H fun xs H1 => xs.length ≤ sizeLine ∧ ∀ p, H1 p = none → Q (.ref p) (upd H1 p (.lst xs))
theorem pe_tup {x1} (h : PA X es t) : PE X (.Tuple es x1 pos) (tTup t) := by
  intro pins s σ H Q I hq
  refine wpAny_Tuple_spliced (thn (h pos pins s σ H _ I hq) fun us s1 ⟨xs, H1, I1, r, z, q⟩ => ⟨by rw [← r.length]; exact z, ?_⟩)
  have hf : H1 s1.heap.objs.size = none := I1.hok.fresh (Nat.le_refl _)
  refine ⟨.ref s1.heap.objs.size, upd H1 s1.heap.objs.size (.tup xs), I1.laid (t' := s1.toks) (fun b u e => Heap.get?_push_of_some _ e) (Nat.le_refl _) ?_, rfl, q _ hf⟩
  exact ⟨z, us, r, ⟨_, Heap.get?_push_size _ rfl, rfl, _, rfl⟩⟩
theorem pe_lst (h : PA X es t) : PE X (.List es pos) (tLst t) := by
  intro pins s σ H Q I hq
  refine wpAny_List_spliced (thn (h pos pins s σ H _ I hq) fun us s1 ⟨xs, H1, I1, r, z, q⟩ => ⟨by rw [← r.length]; exact z, ?_⟩)
  have hf : H1 s1.heap.objs.size = none := I1.hok.fresh (Nat.le_refl _)
  refine ⟨.ref s1.heap.objs.size, upd H1 s1.heap.objs.size (.lst xs), I1.laid (t' := s1.toks) (fun b u e => Heap.get?_push_of_some _ e) (Nat.le_refl _) ?_, rfl, q _ hf⟩
  exact ⟨z, us, 0, r, Heap.get?_push_size _ rfl⟩
end
/-! ### what a def promises -/
/-- a def's promise: the bound arguments in the parameters' order, the heap, the wanted end, the wanted exception -/
abbrev Sp := List V → Hp → VK → XK → Prop
/-- how an exception lies behind a call (file 08 gives it): the callers' frames, abstract heap and state ahead of the call, the wish, the exception, the state -/
abbrev CXT := List Env → Hp → Shared → XK → Value → Shared → Prop
/-- the state at a call -/
structure Env0 (P : Program) (w : World) (K : PySem.W.Frag) (mg : Str → Option Value) (base : Heap) (A : Around) (outer : List Env) (s : Shared) (H : Hp) : Prop where
  frames : A.frames = some outer
  mod : Mod K mg base
  bs : ∀ b o, base.get? b = some o → s.heap.get? b = some o ∧ H b = none
  bsz : base.objs.size ≤ s.heap.objs.size
  funs : s.heap.FunFrames base outer
  frf : ∀ b ∈ frs outer, H b = none
  hok : HOk P w H s.heap
  bare : AllBare s.gens
/-- a call's end -/
def CE (outer : List Env) (P : Program) (w : World) (H : Hp) (s : Shared) (Q : VK) (u : Value) (s' : Shared) : Prop :=
  ∃ v H', s'.os = s.os ∧ AllBare s'.gens ∧ Un (frs outer) [] H H' s.heap s'.heap ∧ HOk P w H' s'.heap ∧ RelV v u ∧ Q v H'
def CR (CX : CXT) (outer : List Env) (P : Program) (w : World) (H : Hp) (s : Shared) (Q : VK) (E : XK) (r : Result) (s' : Shared) : Prop :=
  match r with
  | .ok (.ret u) => CE outer P w H s Q u s'
  | .ok _ => False
  | .error e => CX outer H s E e s'
structure FnOk (P : Program) (w : World) (K : PySem.W.Frag) (mg : Str → Option Value) (base : Heap) (CX : CXT) (k : Nat) (f : Addr) (fd : FuncData) (ps : List Str) (sp : Sp) : Prop where
  len : ∀ vs H Q E, sp vs H Q E → vs.length = ps.length
  run : ∀ (A : Around) (outer : List Env) (s : Shared) (H : Hp) (args : Args) (us : List Value) (vs : List V) (Q : VK) (E : XK), Room k A → Env0 P w K mg base A outer s H → BindsTo s fd args (ps.zip us) → Vals vs us → sp vs H Q E →
    codeAny (model P w) A (.call (.ref f) args) (CR CX outer P w H s Q E) s
theorem FnOk.mono {P : Program} {w : World} {K : PySem.W.Frag} {mg : Str → Option Value} {base : Heap} {CX : CXT} {j k : Nat} {f : Addr} {fd : FuncData} {ps : List Str} {sp : Sp} (F : FnOk P w K mg base CX j f fd ps sp) (h : j ≤ k) :
    FnOk P w K mg base CX k f fd ps sp := ⟨F.len, fun A outer s H args us vs Q E hr => F.run A outer s H args us vs Q E (hr.mono h)⟩
/-- a weaker promise -/
theorem FnOk.imp {P : Program} {w : World} {K : PySem.W.Frag} {mg : Str → Option Value} {base : Heap} {CX : CXT} {k : Nat} {f : Addr} {fd : FuncData} {ps : List Str} {sp sp' : Sp} (F : FnOk P w K mg base CX k f fd ps sp)
    (h : ∀ vs H Q E, sp' vs H Q E → sp vs H Q E) : FnOk P w K mg base CX k f fd ps sp' :=
  ⟨fun vs H Q E q => F.len vs H Q E (h _ _ _ _ q), fun A outer s H args us vs Q E hr he hb hv hs => F.run A outer s H args us vs Q E hr he hb hv (h _ _ _ _ hs)⟩
theorem Env0.make {P : Program} {w : World} {K : PySem.W.Frag} {mg : Str → Option Value} {base : Heap} {A : Around} {outer : List Env} {s : Shared} {H : Hp} (e : Env0 P w K mg base A outer s H) (C : Addr) (us : List Value) (kw : List (Str × Value)) :
    Env0 P w K mg base (A.under (.builtin "type.__call__" ⟨.ref C :: us, kw⟩)) outer s H := ⟨by first | exact e.frames | (simpa [Around.under, Code.envs, Code.isFrame, pushEnvs] using e.frames), e.mod, e.bs, e.bsz, e.funs, e.frf, e.hok, e.bare⟩
theorem Env0.in1 {P : Program} {w : World} {K : PySem.W.Frag} {mg : Str → Option Value} {base : Heap} {A : Around} {outer : List Env} {s : Shared} {H : Hp} (e : Env0 P w K mg base A outer s H) :
    Env0 P w K mg base A.in1 outer s H := ⟨e.frames, e.mod, e.bs, e.bsz, e.funs, e.frf, e.hok, e.bare⟩
section
variable {X : Cx} {pins : List (Addr × Obj)} {σ : St} {H : Hp} {s s' : Shared}
/-- from a body: what a callee wants -/
theorem Inv.env0 (I : Inv X pins σ H s) : Env0 X.prog X.w X.K X.mg X.base X.A X.stack s H :=
  ⟨I.ok.frames, I.ok.mod, I.bs, Nat.le_trans I.ok.bsz I.sz, I.stack, I.stkFree, I.hok, I.bare⟩
/-- behind a call -/
theorem Inv.after {Q : VK} {u : Value} (I : Inv X pins σ H s) (h : CE X.stack X.prog X.w H s Q u s') : EP X pins σ Q u s' := by
  obtain ⟨v, H', os, bare, un, hok, r, q⟩ := h
  obtain ⟨hh, g, d, t, os'⟩ := s'
  obtain rfl : os' = s.os := os
  exact ⟨v, H', I.call (h' := hh) (g' := g) (d' := d) (t' := t) (ch := []) un hok bare (fun b z => absurd z (by simp)), r, q⟩
end
/-! ### calls -/
/-- f(..): the written arguments, then the defaults dvs; E: what is wanted of an exception -/
def tCall (sp : Sp) (dvs : List V) (E : XK) (t : TA) : TE := fun σ H Q => t σ H fun vs H1 => sp (vs ++ dvs) H1 Q E
/-- o.m(..) of an instance of the class at C -/
def tMeth (C : Addr) (m : Str) (sp : Sp) (dvs : List V) (E : XK) (ta : TE) (t : TA) : TE := fun σ H Q => ta σ H fun x H1 => ∃ a dx fs, x = .ref a ∧ H1 a = some (.ins C dx fs) ∧ fs.lookup m = none ∧
  t σ H1 fun vs H2 => sp (x :: (vs ++ dvs)) H2 Q E
/-- C(..): a new instance and its dict, then __init__ -/
def tMake (C : Addr) (sp : Sp) (dvs : List V) (E : XK) (t : TA) : TE := fun σ H Q => t σ H fun vs H1 => ∀ x dx, H1 x = none → H1 dx = none → dx ≠ x →
  sp (.ref x :: (vs ++ dvs)) (upd (upd H1 dx (.own x)) x (.ins C dx [])) (fun v H2 => v = .non ∧ Q (.ref x) H2) E
/-- how the parameters are bound: us the positional arguments, kw the keywords' values by name, ds the defaults that fill up -/
def Binds (K : PySem.W.Frag) (fd : FuncData) (ps : List Str) (ds : List Value) : Prop :=
  ∀ (s : Shared) (us : List Value), K.In s.heap → (us ++ ds).length = ps.length → BindsTo s fd ⟨us, []⟩ (ps.zip (us ++ ds))
/-- every parameter is given -/
theorem Binds.all {K : PySem.W.Frag} {fd : FuncData} {ps : List Str} (h : ∀ us : List Value, us.length = ps.length → bindArgs fd ⟨us, []⟩ = pure (ps.zip us)) : Binds K fd ps [] := fun s us _ hl => by
  rw [List.append_nil] at hl ⊢
  exact .of_eq (h us hl)
/-- an exception of a callee reaches what this body wants of exceptions -/
def Passes (CX : CXT) (X : Cx) (E : XK) : Prop := ∀ (pins : List (Addr × Obj)) (σ : St) (H : Hp) (s : Shared) (e : Value) (s' : Shared), Inv X pins σ H s → CX X.stack H s E e s' → X.xe e s'
section
variable {X : Cx} {CX : CXT} {k : Nat} {f C : Addr} {fd : FuncData} {ps : List Str} {sp : Sp} {dvs : List V} {ds : List Value} {E : XK} {x m : Str} {p pos apos : Pos} {e o : Expr} {es : List Expr} {ta : TE} {t : TA}
/-- the callee runs -/
theorem run_fn {pins : List (Addr × Obj)} {σ : St} {H : Hp} {s : Shared} {Q : VK} {us : List Value} {vs : List V} (F : FnOk X.prog X.w X.K X.mg X.base CX k f fd ps sp) (hr : Room k X.A) (hb : Binds X.K fd ps ds) (hd : Vals dvs ds) (hx : Passes CX X E)
    (I : Inv X pins σ H s) (r : Vals vs us) (h : sp (vs ++ dvs) H Q E) : wpAny (model X.prog X.w) X.A (call (.ref f) us) (EP X pins σ Q) X.xe s := by
  have r2 : Vals (vs ++ dvs) (us ++ ds) := r.append hd
  have hl : (us ++ ds).length = ps.length := by rw [← r2.length]; exact F.len _ _ _ _ h
  refine wpAny_call (codeAny_mono (F.run X.A X.stack s H ⟨us, []⟩ (us ++ ds) (vs ++ dvs) Q E hr I.env0 (hb s us I.kIn hl) r2 h) fun r s' hq => ?_)
  cases r with
  | error e => exact hx pins σ H s e s' I hq
  | ok fl =>
    cases fl with
    | ret u => exact I.after hq
    | next => exact False.elim hq
    | brk => exact False.elim hq
    | cont => exact False.elim hq
theorem pe_call (F : FnOk X.prog X.w X.K X.mg X.base CX k f fd ps sp) (hr : Room k X.A) (hg : Gl X x) (hm : X.mg x = some (.ref f)) (hk : PySem.W.keepIn X.K (.ref f) = true) (hb : Binds X.K fd ps ds) (hd : Vals dvs ds) (hx : Passes CX X E)
    (ha : PA X (e :: es) t) (hdb : (x == ("__debug__" : Str)) = false := by decide) (he : starEach (e :: es) X.env = (false, eval e X.env) :: starEach es X.env := by rfl) (hpl : (backTo pos (starEach es X.env)).any (·.1) = false := by rfl) :
    PE X (.Call (.Name x p) (e :: es) [] pos) (tCall sp dvs E t) := by
  intro pins s σ H Q I h
  refine wpAny_Call_Name_kw (ld_glob I hg hm ?_ hdb)
  refine PySem.W.callWith_K (h₀ := X.base) I.ok.mod.kin hk (thn (ha pos pins s σ H _ I h) fun us s1 ⟨vs, H1, I1, r, q⟩ => ⟨I1.kIn, ?_⟩) he hpl
  exact run_fn F hr hb hd hx I1 r q
theorem pe_call0 (F : FnOk X.prog X.w X.K X.mg X.base CX k f fd ps sp) (hr : Room k X.A) (hg : Gl X x) (hm : X.mg x = some (.ref f)) (hk : PySem.W.keepIn X.K (.ref f) = true) (hb : Binds X.K fd ps ds) (hd : Vals dvs ds) (hx : Passes CX X E)
    (hdb : (x == ("__debug__" : Str)) = false := by decide) : PE X (.Call (.Name x p) [] [] pos) (tCall sp dvs E tNil) := by
  intro pins s σ H Q I h
  refine wpAny_Call_Name_kw (ld_glob I hg hm ?_ hdb)
  exact PySem.W.callWith_K0 I.kIn hk (run_fn (us := []) F hr hb hd hx I .nil h)
/-- o.m(e, ..) -/
theorem pe_meth {pl : Sem Bool} (he : PE X o ta) (c : Cls X.K C) (hm : Meth X.K C m f) (F : FnOk X.prog X.w X.K X.mg X.base CX k f fd ps sp) (hr : Room k X.A) (hb : Binds X.K fd ps ds) (hd : Vals dvs ds) (hx : Passes CX X E) (ha : PA X (e :: es) t)
    (hst : starEach (e :: es) X.env = (false, eval e X.env) :: starEach es X.env := by rfl) (hpl : (backTo pos (starEach es X.env)).any (·.1) = false := by rfl)
    (ht : eval (.Call (.Attribute o m apos) (e :: es) [] pos) X.env = (do
      let ov ← eval o X.env
      standAt apos.atName
      let (f, first) ← holding [ov] (getMethod ov m pl)
      callWith pos f first (backTo pos (starEach (e :: es) X.env)) (backToKw pos (keywordEach [] X.env))) := by rfl) :
    PE X (.Call (.Attribute o m apos) (e :: es) [] pos) (tMeth C m sp dvs E ta t) := by
  intro pins s σ H Q I h
  refine PySem.W.methodCall_KW (pl := pl) (thn (he pins s σ H _ I h) fun u s1 ⟨x, H1, I1, rx, a, dx, fs, ex, ea, l, q⟩ => ?_) ht
  subst ex
  obtain rfl : u = Value.ref a := rx
  refine getmeth_ok I1 ea c hm l ?_
  refine PySem.W.callWith_K (first := [.ref a]) (h₀ := X.base) I.ok.mod.kin hm.kp (thn (ha pos pins s1 σ H1 _ I1 q) fun us s2 ⟨vs, H2, I2, r, q2⟩ => ⟨I2.kIn, ?_⟩) hst hpl
  exact run_fn (us := .ref a :: us) (vs := .ref a :: vs) F hr hb hd hx I2 (.cons rfl r) q2
/-- o.m() -/
theorem pe_meth0 {pl : Sem Bool} (he : PE X o ta) (c : Cls X.K C) (hm : Meth X.K C m f) (F : FnOk X.prog X.w X.K X.mg X.base CX k f fd ps sp) (hr : Room k X.A) (hb : Binds X.K fd ps ds) (hd : Vals dvs ds) (hx : Passes CX X E)
    (ht : eval (.Call (.Attribute o m apos) [] [] pos) X.env = (do
      let ov ← eval o X.env
      standAt apos.atName
      let (f, first) ← holding [ov] (getMethod ov m pl)
      callWith pos f first (backTo pos (starEach [] X.env)) (backToKw pos (keywordEach [] X.env))) := by rfl) :
    PE X (.Call (.Attribute o m apos) [] [] pos) (tMeth C m sp dvs E ta tNil) := by
  intro pins s σ H Q I h
  refine PySem.W.methodCall_KW (pl := pl) (thn (he pins s σ H _ I h) fun u s1 ⟨x, H1, I1, rx, a, dx, fs, ex, ea, l, q⟩ => ?_) ht
  subst ex
  obtain rfl : u = Value.ref a := rx
  refine getmeth_ok I1 ea c hm l ?_
  exact PySem.W.callWith_K0 (first := [.ref a]) I1.kIn hm.kp (run_fn (us := [.ref a]) (vs := [.ref a]) F hr hb hd hx I1 (.cons rfl .nil) q)
/-- what a class must have to be made -/
structure Mk (K : PySem.W.Frag) (C f : Addr) : Prop where
  makes : PySem.W.makesIn K C = true
  init : PySem.W.findIn K (.ref C) "__init__" = some (some (.ref f))
  fn : PySem.W.isFn K (.ref f) = true
  kp : PySem.W.keepIn K (.ref C) = true
theorem run_make {pins : List (Addr × Obj)} {σ : St} {H : Hp} {s : Shared} {Q : VK} {us : List Value} {vs : List V} (M : Mk X.K C f) (F : FnOk X.prog X.w X.K X.mg X.base CX k f fd ps sp) (hr : Room (k + 1) X.A) (hb : Binds X.K fd ps ds) (hd : Vals dvs ds)
    (hx : Passes CX X E) (I : Inv X pins σ H s) (r : Vals vs us)
    (h : ∀ x dx, H x = none → H dx = none → dx ≠ x → sp (.ref x :: (vs ++ dvs)) (upd (upd H dx (.own x)) x (.ins C dx [])) (fun v H2 => v = .non ∧ Q (.ref x) H2) E) :
    wpAny (model X.prog X.w) X.A (call (.ref C) us) (EP X pins σ Q) X.xe s := by
  have hq := h (s.heap.objs.size + 1) s.heap.objs.size (I.hok.fresh (Nat.le_succ _)) (I.hok.fresh (Nat.le_refl _)) (Nat.ne_of_lt (Nat.lt_succ_self _))
  have I2 := Inv.made (C := C) I
  have r2 : Vals (V.ref (s.heap.objs.size + 1) :: (vs ++ dvs)) (Value.ref (s.heap.objs.size + 1) :: (us ++ ds)) := .cons rfl (r.append hd)
  have hl : (Value.ref (s.heap.objs.size + 1) :: us ++ ds).length = ps.length := by
    have e := r2.length
    rw [F.len _ _ _ _ hq] at e
    exact e.symm
  refine wpAny_call (make_map (f := f) I.kIn M.makes M.init (beq_iff_eq.mp M.fn) (codeAny_mono (F.run _ X.stack _ _ ⟨Value.ref (s.heap.objs.size + 1) :: us, []⟩ (Value.ref (s.heap.objs.size + 1) :: (us ++ ds)) _ _ E (hr.make C us [])
    (I2.env0.make C us []) (hb _ (Value.ref (s.heap.objs.size + 1) :: us) I2.kIn hl) r2 hq) fun r s' hq' => ?_))
  cases r with
  | error e => exact hx pins σ _ _ e s' I2 hq'
  | ok fl =>
    cases fl with
    | ret u =>
      obtain ⟨v, H', I3, rv, ev, q3⟩ := I2.after hq'
      subst ev
      exact ⟨rv, ⟨V.ref (s.heap.objs.size + 1), H', I3, rfl, q3⟩⟩
    | next => exact False.elim hq'
    | brk => exact False.elim hq'
    | cont => exact False.elim hq'
theorem pe_make (M : Mk X.K C f) (F : FnOk X.prog X.w X.K X.mg X.base CX k f fd ps sp) (hr : Room (k + 1) X.A) (hg : Gl X x) (hm : X.mg x = some (.ref C)) (hb : Binds X.K fd ps ds) (hd : Vals dvs ds) (hx : Passes CX X E)
    (ha : PA X (e :: es) t) (hdb : (x == ("__debug__" : Str)) = false := by decide) (he : starEach (e :: es) X.env = (false, eval e X.env) :: starEach es X.env := by rfl) (hpl : (backTo pos (starEach es X.env)).any (·.1) = false := by rfl) :
    PE X (.Call (.Name x p) (e :: es) [] pos) (tMake C sp dvs E t) := by
  intro pins s σ H Q I h
  refine wpAny_Call_Name_kw (ld_glob I hg hm ?_ hdb)
  refine PySem.W.callWith_K (h₀ := X.base) I.ok.mod.kin M.kp (thn (ha pos pins s σ H _ I h) fun us s1 ⟨vs, H1, I1, r, q⟩ => ⟨I1.kIn, ?_⟩) he hpl
  exact run_make M F hr hb hd hx I1 r q
theorem pe_make0 (M : Mk X.K C f) (F : FnOk X.prog X.w X.K X.mg X.base CX k f fd ps sp) (hr : Room (k + 1) X.A) (hg : Gl X x) (hm : X.mg x = some (.ref C)) (hb : Binds X.K fd ps ds) (hd : Vals dvs ds) (hx : Passes CX X E)
    (hdb : (x == ("__debug__" : Str)) = false := by decide) : PE X (.Call (.Name x p) [] [] pos) (tMake C sp dvs E tNil) := by
  intro pins s σ H Q I h
  refine wpAny_Call_Name_kw (ld_glob I hg hm ?_ hdb)
  exact PySem.W.callWith_K0 I.kIn M.kp (run_make (us := []) M F hr hb hd hx I .nil h)
end
/-! ### keywords -/
/-- the values of the keywords, from the left -/
def PK (X : Cx) (kws : List Keyword) (t : TA) : Prop :=
  ∀ (pos : Pos) (pins : List (Addr × Obj)) (s : Shared) (σ : St) (H : Hp) (Q : List V → Hp → Prop), Inv X pins σ H s → t σ H Q → wpAny (model X.prog X.w) X.A (evalAll ((backToKw pos (keywordEach kws X.env)).map (·.2))) (AP X pins σ Q) X.xe s
section
variable {X : Cx} {CX : CXT} {k : Nat} {f C : Addr} {fd : FuncData} {ps ks : List Str} {sp : Sp} {E : XK} {x m : Str} {p pos apos kpos : Pos} {e o : Expr} {es : List Expr} {kws : List Keyword} {te ta : TE} {t tk : TA} {nm : Option Str}
theorem pk_nil : PK X [] tNil := fun _ _ _ _ H Q I h => wpAny_evalAll_nil ⟨[], H, I, .nil, h⟩
theorem pk_cons (ha : PE X e te) (hr : PK X kws t) : PK X (⟨nm, e, kpos⟩ :: kws) (tCons te t) := by
  intro pos pins s σ H Q I h
  show wpAny _ _ (evalAll ((do let v ← eval e X.env; standAt pos; pure v) :: (backToKw pos (keywordEach kws X.env)).map (·.2))) _ _ s
  refine wpAny_evalAll_cons (wpAny_bind (thn (ha pins s σ H _ I h) fun u s1 ⟨x, H1, I1, r1, q1⟩ => wpAny_bind (wpAny_standAt (wpAny_pure ?_))))
  exact thn (hr pos pins s1 σ H1 _ I1 q1) fun us s2 ⟨xs, H2, I2, r2, q2⟩ => ⟨x :: xs, H2, I2, .cons r1 r2, q2⟩
/-- how a call with keywords binds: g puts the positional values us and the keywords' values ws (names ks) in the parameters' order, defaults among them -/
structure KBinds (K : PySem.W.Frag) (fd : FuncData) (ps ks : List Str) (g : List Value → List Value → List Value) (gV : List V → List V → List V) : Prop where
  to : ∀ (s : Shared) (us ws : List Value), K.In s.heap → (g us ws).length = ps.length → BindsTo s fd ⟨us, ks.zip ws⟩ (ps.zip (g us ws))
  rel : ∀ {vs : List V} {us : List Value} {zs : List V} {ws : List Value}, Vals vs us → Vals zs ws → Vals (gV vs zs) (g us ws)
def tCallK (sp : Sp) (gV : List V → List V → List V) (E : XK) (t tk : TA) : TE := fun σ H Q => t σ H fun vs H1 => tk σ H1 fun zs H2 => sp (gV vs zs) H2 Q E
variable {g : List Value → List Value → List Value} {gV : List V → List V → List V}
theorem run_fnk {pins : List (Addr × Obj)} {σ : St} {H : Hp} {s : Shared} {Q : VK} {us ws : List Value} {vs zs : List V} (F : FnOk X.prog X.w X.K X.mg X.base CX k f fd ps sp) (hr : Room k X.A) (hb : KBinds X.K fd ps ks g gV) (hx : Passes CX X E)
    (I : Inv X pins σ H s) (r : Vals vs us) (rz : Vals zs ws) (h : sp (gV vs zs) H Q E) : wpAny (model X.prog X.w) X.A (call (.ref f) us (ks.zip ws)) (EP X pins σ Q) X.xe s := by
  have r2 := hb.rel r rz
  have hl : (g us ws).length = ps.length := by rw [← r2.length]; exact F.len _ _ _ _ h
  refine wpAny_call (codeAny_mono (F.run X.A X.stack s H ⟨us, ks.zip ws⟩ (g us ws) (gV vs zs) Q E hr I.env0 (hb.to s us ws I.kIn hl) r2 h) fun r s' hq => ?_)
  cases r with
  | error e => exact hx pins σ H s e s' I hq
  | ok fl =>
    cases fl with
    | ret u => exact I.after hq
    | next => exact False.elim hq
    | brk => exact False.elim hq
    | cont => exact False.elim hq
/-- f(e, .., k = v, ..) -/
theorem pe_callK (F : FnOk X.prog X.w X.K X.mg X.base CX k f fd ps sp) (hr : Room k X.A) (hg : Gl X x) (hm : X.mg x = some (.ref f)) (hk : PySem.W.keepIn X.K (.ref f) = true) (hb : KBinds X.K fd ps ks g gV) (hx : Passes CX X E)
    (ha : PA X (e :: es) t) (hkw : PK X kws tk) (hall : (backToKw pos (keywordEach kws X.env)).all (·.1.isSome) = true := by rfl) (hks : (backToKw pos (keywordEach kws X.env)).filterMap (·.1) = ks := by rfl)
    (hdb : (x == ("__debug__" : Str)) = false := by decide) (he : starEach (e :: es) X.env = (false, eval e X.env) :: starEach es X.env := by rfl)
    (hpl : ((backTo pos (starEach (e :: es) X.env)).any (·.1) || (backToKw pos (keywordEach kws X.env)).any (·.1.isNone)) = false := by rfl) :
    PE X (.Call (.Name x p) (e :: es) kws pos) (tCallK sp gV E t tk) := by
  intro pins s σ H Q I h
  refine wpAny_Call_Name_kw (ld_glob I hg hm ?_ hdb)
  refine PySem.W.callWith_KW (h₀ := X.base) I.ok.mod.kin hk hall (thn (ha pos pins s σ H _ I h) fun us s1 ⟨vs, H1, I1, r, q⟩ => ?_) hpl he
  refine thn (hkw pos pins s1 σ H1 _ I1 q) fun ws s2 ⟨zs, H2, I2, rz, q2⟩ => ⟨I2.kIn, ?_⟩
  rw [hks]
  exact run_fnk F hr hb hx I2 r rz q2
end
/-! ### a def's body keeps its promise -/
/-- names: the parameters first -/
structure FnScope (N P : List Str) (sc : Scope) : Prop where
  kind : sc.kind = .function
  co : sc.isCoroutine = false
  gen : sc.isGenerator = false
  nd : N.Nodup
  pre : N.take P.length = P
  par : ∀ x ∈ P, sc.names.lookup x = some .local ∨ sc.names.lookup x = some .cell
  nofree : ∀ y ∈ sc.names, y.2 ≠ .free
theorem bindL_out {kindOf : Str → Option NameKind} {x : Str} : ∀ {binds : List (Str × Value)} {m : Str → Option Value}, (∀ v, (x, v) ∉ binds) → bindL kindOf binds m x = m x
  | [], _, _ => rfl
  | (n, v) :: r, m, h => by
    unfold bindL
    rw [bindL_out fun w hw => h w (List.mem_cons_of_mem _ hw)]
    split
    · have : x ≠ n := by rintro rfl; exact h v List.mem_cons_self
      simp [this]
    · rfl
theorem bindC_out {kindOf : Str → Option NameKind} {x : Str} : ∀ {binds : List (Str × Value)} {m : Str → Option Value}, (∀ v, (x, v) ∉ binds) → bindC kindOf binds m x = m x
  | [], _, _ => rfl
  | (n, v) :: r, m, h => by
    unfold bindC
    rw [bindC_out fun w hw => h w (List.mem_cons_of_mem _ hw)]
    split
    · rfl
    · have : x ≠ n := by rintro rfl; exact h v List.mem_cons_self
      simp [this]
theorem bindL_get {kindOf : Str → Option NameKind} {x : Str} {v : Value} : ∀ {P : List Str} {vs : List Value} {i : Nat} {m : Str → Option Value}, P.Nodup → P[i]? = some x → vs[i]? = some v → kindOf x = some .local →
    bindL kindOf (P.zip vs) m x = some v
  | [], _, _, _, _, h, _, _ => by simp at h
  | _ :: _, [], _, _, _, _, h, _ => by simp at h
  | p :: P, w :: vs, 0, m, nd, h1, h2, hk => by
    simp at h1 h2; subst h1; subst h2
    show bindL kindOf ((p, w) :: P.zip vs) m p = _
    unfold bindL
    rw [bindL_out fun v hv => (List.nodup_cons.mp nd).1 (List.of_mem_zip hv).1, if_pos hk]
    simp
  | p :: P, w :: vs, i + 1, m, nd, h1, h2, hk => by
    show bindL kindOf ((p, w) :: P.zip vs) m x = _
    unfold bindL
    exact bindL_get (i := i) (List.nodup_cons.mp nd).2 (by simpa using h1) (by simpa using h2) hk
theorem bindC_get {kindOf : Str → Option NameKind} {x : Str} {v : Value} : ∀ {P : List Str} {vs : List Value} {i : Nat} {m : Str → Option Value}, P.Nodup → P[i]? = some x → vs[i]? = some v → kindOf x ≠ some .local →
    bindC kindOf (P.zip vs) m x = some v
  | [], _, _, _, _, h, _, _ => by simp at h
  | _ :: _, [], _, _, _, _, h, _ => by simp at h
  | p :: P, w :: vs, 0, m, nd, h1, h2, hk => by
    simp at h1 h2; subst h1; subst h2
    show bindC kindOf ((p, w) :: P.zip vs) m p = _
    unfold bindC
    rw [bindC_out fun v hv => (List.nodup_cons.mp nd).1 (List.of_mem_zip hv).1, if_neg hk]
    simp
  | p :: P, w :: vs, i + 1, m, nd, h1, h2, hk => by
    show bindC kindOf ((p, w) :: P.zip vs) m x = _
    unfold bindC
    exact bindC_get (i := i) (List.nodup_cons.mp nd).2 (by simpa using h1) (by simpa using h2) hk
/-- the names' values at the entry -/
def start (N : List Str) (vs : List V) : St := vs.map some ++ List.replicate (N.length - vs.length) none
/-- the context of a def's body, at its entry; an exception leaves the frame, then lies as CX says -/
def cxOf (CX : CXT) (P : Program) (w : World) (K : PySem.W.Frag) (mg : Str → Option Value) (base : Heap) (N : List Str) (qual : Str) (scope : Scope) (f : Addr) (cd : Value) (A : Around) (outer : List Env) (s : Shared) (H : Hp) (E : XK) : Cx where
  prog := P
  w := w
  K := K
  mg := mg
  base := base
  A := A.deeper (envOfC qual scope s.heap.objs.size f cd)
  N := N
  s₀ := s
  H₀ := H
  env := envOfC qual scope s.heap.objs.size f cd
  outer := outer
  stack := envOfC qual scope s.heap.objs.size f cd :: outer
  ex := []
  calm := true
  fn := fun _ => true
  pn := []
  xe := fun e s' => wpAny (model P w) (A.deeper (envOfC qual scope s.heap.objs.size f cd)) (leaving (envOfC qual scope s.heap.objs.size f cd) e) (fun _ s'' => CX outer H s E e s'') (fun e' s'' => CX outer H s E e' s'') s'
theorem cell_has {sc : Scope} {n : Nat} {x : Str} (h : sc.names.lookup x = some .cell) : ∃ c, (cellsFrom n sc.names []).lookup x = some c := by
  have q := PySem.W.cellsFrom_some sc.names n [] (.inl h)
  exact Option.isSome_iff_exists.mp q
theorem inv_start {CX : CXT} {P : Program} {w : World} {K : PySem.W.Frag} {mg : Str → Option Value} {base : Heap} {N ps : List Str} {qual : Str} {scope : Scope} {f : Addr} {cd : Value} {A : Around} {outer : List Env} {s s1 : Shared} {H : Hp} {E : XK} {us : List Value} {vs : List V}
    (S : FnScope N ps scope) (hd : A.handled = none) (e0 : Env0 P w K mg base A outer s H) (hl : vs.length = ps.length) (r : Vals vs us)
    (x : InCallC s s.heap.objs.size (bindL (envOfC qual scope s.heap.objs.size f cd).kindOf (ps.zip us) fun _ => none) (cellsFrom (s.heap.objs.size + 1) scope.names []) (bindC (envOfC qual scope s.heap.objs.size f cd).kindOf (ps.zip us) fun _ => none) s1) :
    Inv (cxOf CX P w K mg base N qual scope f cd A outer s H E) [] (start N vs) H s1 := by
  have hpl : ps.length ≤ N.length := by have := congrArg List.length S.pre; rw [List.length_take] at this; omega
  obtain ⟨h1, tk, rfl, hk⟩ := x.done
  have noA : ∀ b : Addr, b ∉ (cxOf CX P w K mg base N qual scope f cd A outer s H E).ex := fun b z => absurd (show b ∈ ([] : List Addr) from z) (by simp)
  refine ⟨⟨e0.mod, S.kind, rfl, rfl, Nat.le_refl _, fun y z c h1 h2 => ?_, fun y hy => ?_, fun y c _ h => ?_, fun _ => hd, Around.frames_deeper e0.frames, .inr ⟨rfl, rfl⟩, fun b z => absurd z (noA b), e0.bs, e0.bsz, fun b _ _ => noA b, fun b z => absurd z (noA b), e0.funs, e0.frf⟩,
    rfl, e0.bare, Un.kept hk, ⟨_, x.toInCall.ns, fun i y v h1 h2 h3 => ?_⟩, fun y c h => ⟨_, x.cell y c h⟩, e0.hok.fresh (Nat.le_refl _), fun y c h => ?_, fun p hp => absurd (show p ∈ ([] : List (Addr × Obj)) from hp) (by simp), e0.hok.kept hk, ?_⟩
  · exact name_of_addr x.apart (PySem.mem_of_lookup h1) (PySem.mem_of_lookup h2)
  · have hy : scope.names.lookup y = some .cell ∨ scope.names.lookup y = some .free := hy
    rcases hy with hy | hy
    · exact cell_has hy
    · exact absurd rfl (S.nofree _ (PySem.mem_of_lookup hy))
  · exact Nat.le_of_lt (x.above y c (PySem.mem_of_lookup h))
  · have hi : i < vs.length := by
      unfold start at h2
      by_cases hi : i < vs.length
      · exact hi
      · rw [List.getElem?_append_right (by simpa using hi)] at h2
        rw [List.getElem?_replicate] at h2
        split at h2 <;> cases h2
    have ha : vs[i]? = some v := by
      unfold start at h2
      rw [List.getElem?_append_left (by simpa using hi), List.getElem?_map] at h2
      cases e : vs[i]? with
      | none => rw [e] at h2; cases h2
      | some a => rw [e] at h2; cases h2; rfl
    obtain ⟨u, hu, rv⟩ := r.get ha
    have hp : ps[i]? = some y := by
      rw [← S.pre, List.getElem?_take_of_lt (by omega)]; exact h1
    have ndP : ps.Nodup := by rw [← S.pre]; exact S.nd.sublist (List.take_sublist _ _)
    refine ⟨u, rv, ?_⟩
    rcases S.par y (List.mem_of_getElem? hp) with k | k
    · exact .inl ⟨k, bindL_get ndP hp hu k⟩
    · obtain ⟨c, e⟩ := cell_has (n := s.heap.objs.size + 1) k
      refine .inr ⟨.inl k, c, e, ?_⟩
      have q := x.cell y c e
      rw [bindC_get ndP hp hu (by show scope.names.lookup y ≠ _; rw [k]; decide)] at q
      exact q
  · exact e0.hok.fresh (Nat.le_of_lt (x.above y c (PySem.mem_of_lookup h)))
  · unfold start
    show _ = N.length
    rw [List.length_append, List.length_map, List.length_replicate]
    omega
/-- THE RULE: a def (or a method) of the text, by its body. The body's reading t is chosen for each entry; it is run at the parameters' values -/
theorem fn_of {CX : CXT} {P : Program} {w : World} {K : PySem.W.Frag} {mg : Str → Option Value} {base : Heap} {k : Nat} {f : Addr} {name qual : Str} {params : Arguments} {body : List Stmt} {scope : Scope} {dV kV doc pm cdv ct oc : Value} {an od : Option Addr}
    {osl : Array (Option Value)} {N ps : List Str} {sp : Sp} (lk : K.lookup f = some ⟨oc, od, .func (PySem.W.fnOf name qual params body scope dV kV doc pm an cdv ct), osl⟩) (hcd : PySem.W.codeIn K cdv qual = true) (S : FnScope N ps scope)
    (len : ∀ vs H Q E, sp vs H Q E → vs.length = ps.length)
    (hbody : ∀ (A : Around) (outer : List Env) (s : Shared) (H : Hp) (vs : List V) (Q : VK) (E : XK), Room k (A.deeper (envOfC qual scope s.heap.objs.size f cdv)) → sp vs H Q E →
      ∃ t, PSs (cxOf CX P w K mg base N qual scope f cdv A outer s H E) body t ∧ t { nx := fun _ H' => Q .non H', rt := Q } (start N vs) H) :
    FnOk P w K mg base CX (k + 1) f (PySem.W.fnOf name qual params body scope dV kV doc pm an cdv ct) ps sp := by
  refine ⟨len, fun A outer s H args us vs Q E hr e0 hb r hsp => ?_⟩
  have hl := len _ _ _ _ hsp
  have KX : K.In s.heap := e0.mod.kin.keeps fun b o e => (e0.bs b o e).1
  have lim : s.heap.NoLimit := e0.mod.nolimit.keeps fun b o e => (e0.bs b o e).1
  have hkind : ∀ y ∈ ps.zip us, scope.names.lookup y.1 = some .local ∨ (scope.names.lookup y.1 = some .cell ∧ ((cellsFrom (s.heap.objs.size + 1) scope.names []).lookup y.1).isSome = true) := fun ⟨n, v⟩ hy => by
    rcases S.par n (List.of_mem_zip hy).1 with q | q
    · exact .inl q
    · exact .inr ⟨q, PySem.W.cellsFrom_some _ _ _ (.inl q)⟩
  refine codeAny_call_function hr.depth (KX _ _ lk) rfl S.co S.gen rfl (PySem.W.codeRec_of KX hcd) (hb _ _ _ _ ?_)
  refine wpAny_newFunctionEnv_cells S.kind hkind fun env he s1 x => ?_
  subst he
  refine ⟨lim.keeps x.toInCall.keep, codeAny_func ?_⟩
  obtain ⟨t, ht, hq⟩ := hbody A outer s H vs Q E (hr.deeper _) hsp
  have I : Inv (cxOf CX P w K mg base N qual scope f cdv A outer s H E) [] (start N vs) H s1 := inv_start S hr.hd e0 hl r x
  refine wpAny_mono (ht [] s1 (start N vs) H _ I hq) (fun fl s' hs => ?_) fun e s' hs => hs
  have fin : ∀ {σ' : St} {H' : Hp} {v : V} {u : Value}, Inv (cxOf CX P w K mg base N qual scope f cdv A outer s H E) [] σ' H' s' → RelV v u → Q v H' → CE outer P w H s Q u s' :=
    fun {σ' H' v u} J rv q => ⟨v, H', J.os, J.bare, J.base, J.hok, rv, q⟩
  cases fl with
  | ret u =>
    obtain ⟨v, σ', H', J, rv, q⟩ := hs
    exact fin J rv q
  | next =>
    obtain ⟨σ', H', J, q⟩ := hs
    exact fin (v := V.non) (u := Value.none) J rfl q
  | brk =>
    obtain ⟨_, _, _, q⟩ := hs
    exact False.elim q
  | cont =>
    obtain ⟨_, _, _, q⟩ := hs
    exact False.elim q
end L2
namespace L2
open PySem PySem.Spec PyProof.Rows
section
variable {X : Cx} {x : Str} {p pos : Pos} {e : Expr} {es : List Expr} {t : TA} {id T : String} {r : List V → Hp → VK → Prop}
def tCB (r : List V → Hp → VK → Prop) (t : TA) : TE := fun σ H Q => t σ H fun vs H1 => r vs H1 Q
/-- f(e, ..), f a built-in function -/
theorem pe_callB (hc : CallR X (.builtin id) r) (hg : Gl X x) (hm : X.mg x = none) (hv : bootBuiltins x = some (.builtin id)) (ha : PA X (e :: es) t) (hn : x ≠ "__name__" := by decide) (hdb : (x == ("__debug__" : Str)) = false := by decide)
    (he : starEach (e :: es) X.env = (false, eval e X.env) :: starEach es X.env := by rfl) (hpl : (backTo pos (starEach es X.env)).any (·.1) = false := by rfl) : PE X (.Call (.Name x p) (e :: es) [] pos) (tCB r t) := by
  intro pins s σ H Q I h
  refine wpAny_Call_Name_kw (ld_blt I hg hm hv ?_ hn hdb)
  exact PyProof.Rows.callWith_builtin1 (thn (ha pos pins s σ H _ I h) fun us s1 ⟨vs, H1, I1, r1, q1⟩ => hc pins s1 σ H1 vs us Q I1 r1 q1) he hpl
/-- T(e, ..), T a built-in type -/
theorem pe_callTy (hc : CallR X (.type T) r) (hg : Gl X x) (hm : X.mg x = none) (hv : bootBuiltins x = some (.type T)) (ha : PA X (e :: es) t) (hn : x ≠ "__name__" := by decide) (hdb : (x == ("__debug__" : Str)) = false := by decide)
    (he : starEach (e :: es) X.env = (false, eval e X.env) :: starEach es X.env := by rfl) (hpl : (backTo pos (starEach es X.env)).any (·.1) = false := by rfl) : PE X (.Call (.Name x p) (e :: es) [] pos) (tCB r t) := by
  intro pins s σ H Q I h
  refine wpAny_Call_Name_kw (ld_blt I hg hm hv ?_ hn hdb)
  exact PyProof.Rows.callWith_type1 (thn (ha pos pins s σ H _ I h) fun us s1 ⟨vs, H1, I1, r1, q1⟩ => hc pins s1 σ H1 vs us Q I1 r1 q1) he hpl
/-- T() -/
theorem pe_callTy0 (hc : CallR X (.type T) r) (hg : Gl X x) (hm : X.mg x = none) (hv : bootBuiltins x = some (.type T)) (hn : x ≠ "__name__" := by decide) (hdb : (x == ("__debug__" : Str)) = false := by decide) :
    PE X (.Call (.Name x p) [] [] pos) (tCB r tNil) := by
  intro pins s σ H Q I h
  refine wpAny_Call_Name_kw (ld_blt I hg hm hv ?_ hn hdb)
  exact PyProof.Rows.callWith_type0 (hc pins s σ H [] [] Q I .nil h)
end
end L2
namespace HT
open PySem PyProof.Rows
/-- t < u of tuples of ints -/
def lexLt : List Int → List Int → Bool
  | [], [] => false
  | [], _ :: _ => true
  | _ :: _, [] => false
  | x :: xs, y :: ys => if x = y then lexLt xs ys else decide (x < y)
theorem lexLt_cons (x y : Int) (xs ys : List Int) : lexLt (x :: xs) (y :: ys) = if x = y then lexLt xs ys else decide (x < y) := rfl
theorem lexLt_nil_nil : lexLt [] [] = false := rfl
theorem lexLt_nil_cons (y : Int) (ys : List Int) : lexLt [] (y :: ys) = true := rfl
theorem lexLt_cons_nil (x : Int) (xs : List Int) : lexLt (x :: xs) [] = false := rfl
theorem eqAt_int (A : Around) (s : Shared) (a : Int) (t : Tok) (c : Int) (u : Tok) : ∃ e, SeqAt.EqAt A s (.int a t) (.int c u) e ∧ (e = true ↔ a = c) :=
  ⟨(a == c), SeqAt.EqAt.int_int a t c u, by simp⟩
theorem rcLt_int (A : Around) (s : Shared) (a : Int) (t : Tok) (c : Int) (u : Tok) (prog : Program) (w : World) (E : Value → Shared → Prop) (Q : Value → Shared → Prop) (h : Q (.bool (decide (a < c))) s) :
    wpAny (model prog w) A (richCompare .Lt (.int a t) (.int c u)) Q E s :=
  (PyProof.Rows.lt_int h : wpAny (model prog w) A (compareOp .Lt (.int a t) (.int c u)) Q E s)
section
open PySem.SeqAt
open PySem.AutoSeq1 (wpAny_loadPart')
open PySem.MeetsSeq PySem.MeetsSeq2 PySem.MeetsSeq3
theorem tuple_lt_ints (l b : Addr) (items items2 : Array Value) (n n2 : Nat) (dd dd2 : Option Addr) (sl sl2 : Array (Option Value)) (ns ms : List Int) (hi : IntsAre items.toList ns) (hj : IntsAre items2.toList ms) :
    Meets (Builtin.«tuple.__lt__» ⟨[.ref l, .ref b], []⟩)
      (fun _ R s => s.heap.get? l = some { cls := .type "tuple", dict := dd, data := .seq items n, slots := sl } ∧ s.heap.get? b = some { cls := .type "tuple", dict := dd2, data := .seq items2 n2, slots := sl2 } ∧
        R (.ok (.ret (.bool (lexLt ns ms)))) s) :=
  .of_wp fun prog w A R s h => by
    obtain ⟨hp, g, d, tk, os⟩ := s; obtain ⟨hl, hb, h⟩ := h
    have f2 := AutoSeq1.sub_tuple_tuple
    have z1 : items.size = ns.length := by rw [← hi.length]; simp
    have z2 : items2.size = ms.length := by rw [← hj.length]; simp
    wp_walk using wpAny_loadPart' hl, wpAny_loadPart' hb, wpAny_forIn_list _ (fun rest b s' => b.1 = none ∧ s' = ⟨hp, g, d, tk, os⟩ ∧ ∃ (vs ws : List Value) (ns' ms' : List Int), rest = vs.zip ws ∧
      IntsAre vs ns' ∧ IntsAre ws ms' ∧ ns'.length + items2.size = ms'.length + items.size ∧ R (.ok (.ret (.bool (lexLt ns' ms')))) ⟨hp, g, d, tk, os⟩) _
    case turn =>
      rintro ⟨y, x⟩ rest b s' ⟨hb', rfl, vs, ws, ns', ms', hz, hvi, hwi, hlen, hR⟩
      cases hvi with
      | nil => rw [List.zip_nil_left] at hz; cases hz
      | cons a t hvi' =>
        cases hwi with
        | nil => rw [List.zip_nil_right] at hz; cases hz
        | cons c u hwi' =>
          rw [List.zip_cons_cons] at hz
          injection hz with hyx hrest
          injection hyx with hy hx
          subst hy hx
          rw [lexLt_cons] at hR
          simp only [List.length_cons] at hlen
          obtain ⟨e, he, hiff⟩ := eqAt_int A.in1 ⟨hp, g, d, tk, os⟩ a t c u
          refine wpAny_bind (he prog w _ _ ?_)
          cases e with
          | true =>
            rw [if_pos (hiff.mp rfl)] at hR
            wp_walk
            exact ⟨rfl, rfl, _, _, _, _, hrest, hvi', hwi', by omega, hR⟩
          | false =>
            rw [if_neg (fun q => absurd (hiff.mpr q) Bool.false_ne_true)] at hR
            have hri := rcLt_int A.in1 ⟨hp, g, d, tk, os⟩ a t c u prog w
            wp_walk using hri
            exact ⟨_, rfl, by simpa using hR⟩
    case fin =>
      rintro ⟨b1, b2⟩ s' ⟨hb', rfl, vs, ws, ns', ms', hz, hvi, hwi, hlen, hR⟩
      simp only at hb'
      subst hb'
      have hv : lexLt ns' ms' = decide (items.size < items2.size) := by
        cases hvi with
        | nil =>
          cases hwi with
          | nil =>
            simp only [List.length_nil] at hlen
            rw [lexLt_nil_nil]
            exact (decide_eq_false (by omega)).symm
          | cons c u hw =>
            simp only [List.length_nil, List.length_cons] at hlen
            rw [lexLt_nil_cons]
            exact (decide_eq_true (by omega)).symm
        | cons a t hv =>
          cases hwi with
          | nil =>
            simp only [List.length_nil, List.length_cons] at hlen
            rw [lexLt_cons_nil]
            exact (decide_eq_false (by omega)).symm
          | cons c u hw =>
            rw [List.zip_cons_cons] at hz
            cases hz
      rw [hv] at hR
      wp_walk
      exact ⟨_, rfl, by simpa [Builtin.Tuple.tupleCompareSizes] using hR⟩
    case h =>
      exact ⟨rfl, rfl, items.toList, items2.toList, ns, ms, rfl, hi, hj, by omega, h⟩
end
section
variable {prog : Program} {w : World} {A : Around} {E : Value → Shared → Prop} {s : Shared}
theorem lt_tupInts {l b : Addr} {items items2 : Array Value} {ns ms : List Int} {Q : Value → Shared → Prop} (hl : IsTup s.heap l items) (hb : IsTup s.heap b items2) (hi : IntsAre items.toList ns) (hj : IntsAre items2.toList ms)
    (hu : A.units < cLine) (h : Q (.bool (lexLt ns ms)) s) : wpAny (model prog w) A (compareOp .Lt (.ref l) (.ref b)) Q E s := by
  obtain ⟨⟨cls, dd, data, sl⟩, ho, hc, n, hd⟩ := id hl
  obtain ⟨⟨cls2, dd2, data2, sl2⟩, ho2, hc2, n2, hd2⟩ := id hb
  simp only at hc hd hc2 hd2
  subst hc hd hc2 hd2
  exact richCompare_meets_room (op := .Lt) ⟨_, ho, rfl⟩ ⟨_, ho2, rfl⟩ PySem.F.slot_tuple_lt PySem.F.entry_tuple_lt (PySem.F.args_tuple_lt_2 _ _) (tuple_lt_ints l b items items2 n n2 dd dd2 sl sl2 ns ms hi hj)
    ⟨ho, ho2, show Value.bool (lexLt ns ms) ≠ Value.notImplemented ∧ Q (.bool (lexLt ns ms)) s from ⟨(fun x => nomatch x), h⟩⟩ hu
/-- t + u, t not empty -/
theorem cat_tup {t b : Addr} {vs ws : List Value} {Q : Value → Shared → Prop} (ht : IsTup s.heap t vs.toArray) (hb : IsTup s.heap b ws.toArray) (hv : vs ≠ [])
    (h1 : ws = [] → Q (.ref t) s) (h2 : ws ≠ [] → Q (.ref s.heap.objs.size) { s with heap := s.heap.push { cls := .type "tuple", data := .seq (vs ++ ws).toArray } })
    (hsz : vs.length + ws.length ≤ sizeLine) : wpAny (model prog w) A (binaryOp .Add (.ref t) (.ref b)) Q E s := by
  obtain ⟨⟨cls, dd, data, sl⟩, ho, hc, n, hd⟩ := id ht
  obtain ⟨⟨cls2, dd2, data2, sl2⟩, ho2, hc2, n2, hd2⟩ := id hb
  simp only at hc hd hc2 hd2
  subst hc hd hc2 hd2
  have e : vs.toArray ++ ws.toArray = (vs ++ ws).toArray := by simp
  by_cases hw : ws = []
  · exact concat_meets ⟨_, ho, rfl⟩ ⟨_, ho2, rfl⟩ noFill_tuple_add seq_tuple_add PySem.F.slot_tuple_add PySem.F.entry_tuple_add (PySem.F.args_tuple_add_2 _ _)
      (tuple_addW1 t b vs.toArray ws.toArray n n2 dd dd2 sl sl2 (by simpa using hv) (by simp [hw])) ⟨ho, ho2, h1 hw⟩
  · refine concat_meets ⟨_, ho, rfl⟩ ⟨_, ho2, rfl⟩ noFill_tuple_add seq_tuple_add PySem.F.slot_tuple_add PySem.F.entry_tuple_add (PySem.F.args_tuple_add_2 _ _)
      (tuple_addW2 t b vs.toArray ws.toArray n n2 dd dd2 sl sl2 (by simpa using hv) (by simpa using hw) (by rw [List.size_toArray, List.size_toArray]; exact hsz)) ⟨ho, ho2, ?_⟩
    rw [e]
    exact h2 hw
/-! ### t[a:b], not the whole -/
/-- a slice's bound as a place among n (d where it is left out) -/
def sIx (n d : Nat) : Option Int → Nat
  | none => d
  | some v => if v < 0 then (v + (n : Int)).toNat else min v.toNat n
theorem sIx_none (n d : Nat) : sIx n d none = d := rfl
theorem sIx_nat (n d k : Nat) : sIx n d (some (k : Int)) = min k n := by
  show (if (k : Int) < 0 then ((k : Int) + (n : Int)).toNat else min (k : Int).toNat n) = min k n
  rw [if_neg (by omega), Int.toNat_natCast]
theorem sIx_le (n d : Nat) (hd : d ≤ n) (o : Option Int) : sIx n d o ≤ n := by
  cases o with
  | none => exact hd
  | some v =>
    show (if v < 0 then (v + (n : Int)).toNat else min v.toNat n) ≤ n
    by_cases hv : v < 0
    · rw [if_pos hv]; omega
    · rw [if_neg hv]; exact Nat.min_le_right _ _
theorem clip_eq (v : Int) (n d : Nat) : (if v < 0 then max (v + (n : Int)) 0 else min v (n : Int)) = ((sIx n d (some v) : Nat) : Int) := by
  show (if v < 0 then max (v + (n : Int)) 0 else min v (n : Int)) = (((if v < 0 then (v + (n : Int)).toNat else min v.toNat n) : Nat) : Int)
  by_cases hv : v < 0
  · simp only [if_pos hv]; omega
  · simp only [if_neg hv]; omega
theorem adjust_gen (lo hi : Option Int) (n : Nat) : Builtin.Slice.sliceAdjust lo hi 1 (n : Int) = (((sIx n 0 lo : Nat) : Int), ((sIx n n hi : Nat) : Int)) := by
  have h1 : ¬ ((1 : Int) < 0) := by omega
  unfold Builtin.Slice.sliceAdjust
  simp only [h1, if_false]
  refine Prod.ext ?_ ?_
  · cases lo with
    | none => rfl
    | some v => exact clip_eq v n 0
  · cases hi with
    | none => rfl
    | some v => exact clip_eq v n n
theorem places_gen (i j : Nat) : Builtin.Slice.slicePlaces (i : Int) (j : Int) 1 = j - i := by
  unfold Builtin.Slice.slicePlaces
  have h1 : (1 : Int) > 0 := by omega
  simp only [h1, if_true, Int.ediv_one]
  split <;> omega
theorem slicePart_ {v : Value} {o : Option Int} {Q : Option Int → Shared → Prop} (p : IsPart v o) (h : Q o s) : wpAny (model prog w) A (Builtin.Slice.slicePartIndex v) Q E s := by
  cases p with
  | none => exact slicePart_none h
  | int i t => exact slicePart_int h
theorem sliceApplied_gen {sl : Addr} {vl vu : Value} {lo hi : Option Int} {n : Nat} {Q : Int × Int × Nat → Shared → Prop} (hs : s.heap.IsSliceOf sl vl vu .none) (pl : IsPart vl lo) (pu : IsPart vu hi)
    (h : Q (((sIx n 0 lo : Nat) : Int), 1, sIx n n hi - sIx n 0 lo) s) : wpAny (model prog w) A (Builtin.Slice.sliceApplied (.ref sl) (pure (n : Int))) Q E s := by
  obtain ⟨os, hos, hcs, hds⟩ := id hs
  unfold Builtin.Slice.sliceApplied Builtin.Slice.sliceFields
  refine wpAny_bind (wpAny_bind (wpAny_field hos hds (x := vl) rfl (wpAny_bind (wpAny_field hos hds (x := vu) rfl (wpAny_bind (wpAny_field hos hds (x := .none) rfl (wpAny_pure ?_)))))))
  refine wpAny_bind (slicePart_none ?_)
  show wpAny _ _ (if ((1 : Int) == 0) = true then _ else _) _ _ s
  rw [if_neg (by decide)]
  refine wpAny_bind (slicePart_ pl (wpAny_bind (slicePart_ pu (wpAny_bind (wpAny_pure ?_)))))
  show wpAny _ _ (match Builtin.Slice.sliceAdjust lo hi 1 (n : Int) with | (lo, hi) => pure (lo, (1 : Int), Builtin.Slice.slicePlaces lo hi 1)) _ _ s
  rw [adjust_gen lo hi n]
  show wpAny _ _ (pure (((sIx n 0 lo : Nat) : Int), (1 : Int), Builtin.Slice.slicePlaces ((sIx n 0 lo : Nat) : Int) ((sIx n n hi : Nat) : Int) 1)) _ _ s
  rw [places_gen]
  exact wpAny_pure h
theorem pick_gen (xs : Array Value) (i k : Nat) : ((List.range k).filterMap fun (m : Nat) => xs[((i : Int) + (m : Int) * 1).toNat]?).toArray = ((xs.toList.drop i).take k).toArray := by
  have e : (fun (m : Nat) => xs[((i : Int) + (m : Int) * 1).toNat]?) = fun m => xs[i + m]? := by
    funext m
    have : ((i : Int) + (m : Int) * 1).toNat = i + m := by omega
    rw [this]
  rw [e]
  have := pick_run xs i k
  rw [List.filterMap_map] at this
  have e2 : ((fun x => xs[x]?) ∘ fun x => i + x) = fun m => xs[i + m]? := rfl
  rw [e2] at this
  rw [this]
theorem getItem_tuple_cut {t sl : Addr} {items : Array Value} {vl vu : Value} {lo hi : Option Int} {Q : Value → Shared → Prop} (ht : IsTup s.heap t items) (hs : s.heap.IsSliceOf sl vl vu .none) (pl : IsPart vl lo) (pu : IsPart vu hi)
    (hw : ¬ (sIx items.size 0 lo = 0 ∧ sIx items.size items.size hi = items.size))
    (h : Q (.ref s.heap.objs.size) { s with heap := s.heap.push { cls := .type "tuple", data := .seq ((items.toList.drop (sIx items.size 0 lo)).take (sIx items.size items.size hi - sIx items.size 0 lo)).toArray } })
    (hsz : items.size ≤ sizeLine) : wpAny (model prog w) A (getItem (.ref t) (.ref sl)) Q E s := by
  have htake : sizeOk (.seq ((items.toList.drop (sIx items.size 0 lo)).take (sIx items.size items.size hi - sIx items.size 0 lo)).toArray) := by
    show ((items.toList.drop (sIx items.size 0 lo)).take (sIx items.size items.size hi - sIx items.size 0 lo)).toArray.size ≤ sizeLine
    rw [List.size_toArray, List.length_take, List.length_drop, Array.length_toList]
    omega
  have hj : sIx items.size items.size hi ≤ items.size := sIx_le _ _ (Nat.le_refl _) hi
  obtain ⟨os, hos, hcs, hds⟩ := id hs
  have hTs : s.TypeIs (.ref sl) "slice" := ⟨os, hos, hcs⟩
  unfold getItem
  try with_reducible refine wpAny_holding ?_
  first | refine wpAny_bind (wpAny_pure ?_) | skip
  refine wpAny_bind (wpAny_sequenceKey ht.typeIs (by decide) ?_)
  refine wpAny_bind (wpAny_callSpecial?_slot (name := Str.ofString "__getitem__") ht.typeIs PyProof.Rows.slot_tuple_getitem
    (wpAny_call_entry PyProof.Rows.slot_tuple_getitem ht.typeIs entry_tuple_getitem ?_ (args_tuple_getitem _ _)))
  show wpAny _ _ (Builtin.Tuple.tupleItemsOf (.ref t) >>= _) _ _ s
  refine wpAny_bind (tupleItemsOf_ ht ?_)
  refine wpAny_bind (wpAny_typeOf hTs ?_)
  rw [if_pos (by decide)]
  refine wpAny_bind (sliceApplied_gen hs pl pu ?_)
  have hno : ¬ ((((sIx items.size 0 lo : Nat) : Int) == 0 && (1 : Int) == 1 && (sIx items.size items.size hi - sIx items.size 0 lo) == items.size) = true) := by
    intro q
    rw [Bool.and_eq_true, Bool.and_eq_true] at q
    have q1 : ((sIx items.size 0 lo : Nat) : Int) = 0 := eq_of_beq q.1.1
    have q2 : sIx items.size items.size hi - sIx items.size 0 lo = items.size := eq_of_beq q.2
    exact hw ⟨by omega, by omega⟩
  show wpAny _ _ (if (((sIx items.size 0 lo : Nat) : Int) == 0 && (1 : Int) == 1 && (sIx items.size items.size hi - sIx items.size 0 lo) == items.size) = true then _ else _) _ _ s
  rw [if_neg hno, pick_gen]
  first
    | exact wpAny_bind (m := Builtin.Tuple.tupleExact _) (wpAny_newObj_type (wpAny_pure ⟨_, rfl, wpAny_pure h⟩) htake)
    | exact wpAny_bind (m := Builtin.Tuple.tupleExact _) (wpAny_newObj_type (wpAny_bind (wpAny_pure (wpAny_pure ⟨_, rfl, wpAny_pure h⟩))) htake)
    | exact wpAny_bind (wpAny_bind (m := Builtin.Tuple.tupleExact _) (wpAny_newObj_type (wpAny_pure (wpAny_pure ⟨_, rfl, wpAny_pure h⟩)) htake))
    | exact wpAny_bind (wpAny_bind (m := Builtin.Tuple.tupleExact _) (wpAny_newObj_type (wpAny_pure ⟨_, rfl, wpAny_pure h⟩) htake))
end
end HT
namespace L2
open PySem PySem.Spec PyProof.Rows
/-! ### the parts of a slice -/
abbrev TO := St → Hp → (Option Int → Hp → Prop) → Prop
/-- a slice's part (left out, or an int) -/
def PO (X : Cx) (e : Option Expr) (t : TO) : Prop :=
  ∀ (pins : List (Addr × Obj)) (s : Shared) (σ : St) (H : Hp) (Q : Option Int → Hp → Prop), Inv X pins σ H s → t σ H Q →
    wpAny (model X.prog X.w) X.A (evalPart e X.env) (fun u s' => ∃ o H', Inv X pins σ H' s' ∧ IsPart u o ∧ Q o H') X.xe s
def tNoPart : TO := fun _ H Q => Q none H
def tPart (t : TE) : TO := fun σ H Q => t σ H fun x H1 => ∃ i, x = .int i ∧ Q (some i) H1
theorem intsAre_of {ns : List Int} : ∀ {us : List Value}, Vals (ns.map V.int) us → IntsAre us ns := by
  induction ns with
  | nil => intro us r; rw [List.map_nil] at r; cases r; exact .nil
  | cons n ns ih =>
    intro us r
    rw [List.map_cons] at r
    cases r with
    | cons r1 r2 =>
      obtain ⟨t, e⟩ := r1
      subst e
      exact .cons n t (ih r2)
section
variable {X : Cx} {e : Expr} {te : TE} {lo hi : Option Expr} {tl th : TO} {pos p2 : Pos}
theorem po_none : PO X none tNoPart := by
  intro pins s σ H Q I h
  rw [evalPart_none]
  exact wpAny_pure ⟨none, H, I, .none, h⟩
theorem po_some (h : PE X e te) : PO X (some e) (tPart te) := by
  intro pins s σ H Q I hw
  rw [evalPart_some]
  refine thn (h pins s σ H _ I hw) fun u s1 ⟨x, H1, I1, r1, q1⟩ => ?_
  obtain ⟨i, rfl, q⟩ := q1
  obtain ⟨t, rfl⟩ := r1
  exact ⟨some i, H1, I1, .int i t, q⟩
/-- what a slice of a value is, by values: the slice object stands at sl -/
def SlR (X : Cx) (r : V → Option Int → Option Int → Hp → VK → Prop) : Prop :=
  ∀ (pins : List (Addr × Obj)) (s : Shared) (σ : St) (H : Hp) (x : V) (v vl vu : Value) (lo hi : Option Int) (sl : Addr) (Q : VK), Inv X pins σ H s → RelV x v → s.heap.IsSliceOf sl vl vu .none → IsPart vl lo → IsPart vu hi → r x lo hi H Q →
    ∃ T id, typeLookup (.type T) "__getitem__" = pure (some (.builtin id)) ∧ s.TypeIs v T ∧ wpAny (model X.prog X.w) X.A (getItem v (.ref sl)) (EP X pins σ Q) X.xe s
theorem SlR.or {r r' : V → Option Int → Option Int → Hp → VK → Prop} (h : SlR X r) (h' : SlR X r') : SlR X (fun x lo hi H Q => r x lo hi H Q ∨ r' x lo hi H Q) := by
  intro pins s σ H x v vl vu lo hi sl Q I rx hs pl pu q
  rcases q with q | q
  · exact h pins s σ H x v vl vu lo hi sl Q I rx hs pl pu q
  · exact h' pins s σ H x v vl vu lo hi sl Q I rx hs pl pu q
def tSl (r : V → Option Int → Option Int → Hp → VK → Prop) (te : TE) (tl th : TO) : TE := fun σ H Q => te σ H fun x H1 => tl σ H1 fun l H2 => th σ H2 fun u H3 => r x l u H3 Q
/-- a[lo:hi], any a -/
theorem pe_slice {r : V → Option Int → Option Int → Hp → VK → Prop} (hr : SlR X r) (he : PE X e te) (hl : PO X lo tl) (hu : PO X hi th) : PE X (.Subscript e (.Slice lo hi none p2) pos) (tSl r te tl th) := by
  intro pins s σ H Q I h
  refine Subscript_ (thn (he pins s σ H _ I h) fun v s1 ⟨x, H1, I1, r1, q1⟩ => ?_)
  refine wpAny_Slice (thn (hl pins s1 σ H1 _ I1 q1) fun vl s2 ⟨l, H2, I2, pl, q2⟩ => thn (hu pins s2 σ H2 _ I2 q2) fun vu s3 ⟨u, H3, I3, pu, q3⟩ => ?_)
  rw [evalPart_none]
  refine wpAny_pure ?_
  have I4 : Inv X pins σ H3 { s3 with heap := s3.heap.push { cls := .type "slice", data := .fields #[vl, vu, .none] } } := I3.kept (t' := s3.toks) fun b ob q => Heap.get?_push_of_some _ q
  obtain ⟨T, id, hT, ht, hg⟩ := hr pins { s3 with heap := s3.heap.push { cls := .type "slice", data := .fields #[vl, vu, .none] } } σ H3 x v vl vu l u s3.heap.objs.size Q I4 r1 (Heap.IsSliceOf.new ..) pl pu q3
  show wpAny (model X.prog X.w) X.A (subscriptTail e (.Slice lo hi none p2) v (.ref s3.heap.objs.size)) (EP X pins σ Q) X.xe { s3 with heap := s3.heap.push { cls := .type "slice", data := .fields #[vl, vu, .none] } }
  exact tail_any (ops := [.ref s3.heap.objs.size, v]) ht hT hg (by with_unfolding_all rfl)
/-- the items of xs[lo:hi] -/
def cutV (xs : List V) (lo hi : Option Int) : List V := (xs.drop (HT.sIx xs.length 0 lo)).take (HT.sIx xs.length xs.length hi - HT.sIx xs.length 0 lo)
theorem cutV_length (xs : List V) (lo hi : Option Int) : (cutV xs lo hi).length ≤ xs.length := by
  unfold cutV
  rw [List.length_take, List.length_drop]
  omega
/-- t[lo:hi], not the whole of it (the whole would be t itself) -/
def rSlT (K : PySem.W.Frag) : V → Option Int → Option Int → Hp → VK → Prop := fun x lo hi H Q => ∃ a xs, x = .ref a ∧ SqT K H a xs ∧
  ¬ (HT.sIx xs.length 0 lo = 0 ∧ HT.sIx xs.length xs.length hi = xs.length) ∧ ∀ p, H p = none → Q (.ref p) (upd H p (.tup (cutV xs lo hi)))
theorem sl_tup : SlR X (rSlT X.K) := by
  intro pins s σ H x v vl vu lo hi sl Q I rx hs pl pu h
  obtain ⟨a, xs, rfl, hx, hw, q⟩ := h
  cases rx
  obtain ⟨its, r, ht, hz⟩ := I.tuple hx
  have hlen : its.toArray.size = xs.length := by rw [List.size_toArray]; exact r.length.symm
  refine ⟨"tuple", _, PyProof.Rows.slot_tuple_getitem.lookup, ht.typeIs, ?_⟩
  refine HT.getItem_tuple_cut ht hs pl pu (by rw [hlen]; exact hw) ?_ (by rw [hlen]; exact hz)
  rw [hlen]
  refine ⟨.ref s.heap.objs.size, _, I.laid (t' := s.toks) (o := .tup (cutV xs lo hi)) (fun b ob q => Heap.get?_push_of_some _ q) (Nat.le_refl _) ?_, rfl, q _ (I.hok.fresh (Nat.le_refl _))⟩
  exact ⟨Nat.le_trans (cutV_length xs lo hi) hz, _, (r.drop (HT.sIx xs.length 0 lo)).take (HT.sIx xs.length xs.length hi - HT.sIx xs.length 0 lo), IsTup.new _ _⟩
/-! ### t < u, t + u -/
def rLtT (K : PySem.W.Frag) : R2 := fun x y H Q => ∃ a b ns ms, x = .ref a ∧ y = .ref b ∧ SqT K H a (ns.map V.int) ∧ SqT K H b (ms.map V.int) ∧ Q (.bl (HT.lexLt ns ms)) H
theorem op_ltT (hu : X.A.units < cLine) : OpR X (compareOp .Lt) (rLtT X.K) := by
  intro pins s σ H x y v u Q I rx ry h
  obtain ⟨a, b, ns, ms, rfl, rfl, ha, hb, q⟩ := h
  cases rx
  cases ry
  obtain ⟨its, r1, p1, _⟩ := I.tuple ha
  obtain ⟨its2, r2, p2, _⟩ := I.tuple hb
  have i1 : IntsAre its.toArray.toList ns := intsAre_of r1
  have i2 : IntsAre its2.toArray.toList ms := intsAre_of r2
  exact HT.lt_tupInts p1 p2 i1 i2 hu ⟨.bl (HT.lexLt ns ms), H, I, rfl, q⟩
/-- t + u, t not empty: u empty gives t itself -/
def rCatT (K : PySem.W.Frag) : R2 := fun x y H Q => ∃ a b xs ys, x = .ref a ∧ y = .ref b ∧ SqT K H a xs ∧ SqT K H b ys ∧ xs ≠ [] ∧ xs.length + ys.length ≤ sizeLine ∧
  (ys = [] → Q (.ref a) H) ∧ (ys ≠ [] → ∀ p, H p = none → Q (.ref p) (upd H p (.tup (xs ++ ys))))
theorem Vals.nil_iff {xs : List V} {us : List Value} (r : Vals xs us) : us = [] ↔ xs = [] := by
  cases r with
  | nil => simp
  | cons _ _ => simp
theorem op_catT : OpR X (binaryOp .Add) (rCatT X.K) := by
  intro pins s σ H x y v u Q I rx ry h
  obtain ⟨a, b, xs, ys, rfl, rfl, ha, hb, hx, hz, q1, q2⟩ := h
  cases rx
  cases ry
  obtain ⟨its, r1, p1, _⟩ := I.tuple ha
  obtain ⟨its2, r2, p2, _⟩ := I.tuple hb
  refine HT.cat_tup p1 p2 (fun z => hx (r1.nil_iff.mp z)) (fun z => ⟨.ref a, H, I, rfl, q1 (r2.nil_iff.mp z)⟩) (fun z => ?_) (by rw [← r1.length, ← r2.length]; exact hz)
  refine ⟨.ref s.heap.objs.size, _, I.laid (t' := s.toks) (o := .tup (xs ++ ys)) (fun b ob q => Heap.get?_push_of_some _ q) (Nat.le_refl _) ?_, rfl, q2 (fun w => z (r2.nil_iff.mpr w)) _ (I.hok.fresh (Nat.le_refl _))⟩
  exact ⟨by rw [List.length_append]; exact hz, _, r1.append r2, IsTup.new _ _⟩
/-- tuple(t) -/
theorem call_tupleT : CallR X (.type "tuple") (fun xs H Q => ∃ a ys, xs = [.ref a] ∧ SqT X.K H a ys ∧ Q (.ref a) H) := by
  intro pins s σ H xs us Q I r h
  obtain ⟨a, ys, rfl, ha, q⟩ := h
  obtain ⟨u, rfl, ru⟩ := vals1 r
  cases ru
  obtain ⟨its, _, p1, _⟩ := I.tuple ha
  exact call_tuple_same (items := its.toArray) p1 ⟨.ref a, H, I, rfl, q⟩
end
end L2
namespace L2
open PySem PySem.Spec PyProof.Rows
/-! ### places -/
/-- the place that an index of any sign means -/
def ixN (n : Nat) (i : Int) : Option Nat := if 0 ≤ i then (if i < n then some i.toNat else none) else if -(n : Int) ≤ i then some (i + n).toNat else none
def atI {α : Type} (xs : List α) (i : Int) : Option α := (ixN xs.length i).bind fun j => xs[j]?
theorem ixN_seq {n : Nat} {i : Int} {j : Nat} (h : ixN n i = some j) : seqIndex? i n = some j ∧ j < n ∧ -(n : Int) ≤ i ∧ i < n := by
  unfold ixN at h
  by_cases h0 : 0 ≤ i
  · rw [if_pos h0] at h
    by_cases h1 : i < n
    · rw [if_pos h1] at h
      have e : i.toNat = j := Option.some.inj h
      exact ⟨by rw [seqIndex_of h0 h1, e], by omega, by omega, h1⟩
    · rw [if_neg h1] at h; cases h
  · rw [if_neg h0] at h
    by_cases h1 : -(n : Int) ≤ i
    · rw [if_pos h1] at h
      have e : (i + n).toNat = j := Option.some.inj h
      exact ⟨by rw [seqIndex_neg (by omega) h1, e], by omega, h1, by omega⟩
    · rw [if_neg h1] at h; cases h
theorem atI_get {α : Type} {xs : List α} {i : Int} {v : α} (h : atI xs i = some v) : ∃ j, seqIndex? i xs.length = some j ∧ xs[j]? = some v ∧ j < xs.length ∧ -(xs.length : Int) ≤ i ∧ i < xs.length := by
  unfold atI at h
  cases e : ixN xs.length i with
  | none => rw [e] at h; cases h
  | some j =>
    rw [e] at h
    obtain ⟨h1, h2, h3, h4⟩ := ixN_seq e
    exact ⟨j, h1, h, h2, h3, h4⟩
theorem atI_nat {α : Type} {xs : List α} {j : Nat} {v : α} (h : xs[j]? = some v) : atI xs (j : Int) = some v := by
  have hj : j < xs.length := (List.getElem?_eq_some_iff.mp h).1
  have e : ixN xs.length (j : Int) = some j := by
    unfold ixN
    rw [if_pos (by omega), if_pos (by omega)]; simp
  unfold atI; rw [e]; exact h
theorem atI_last {α : Type} (xs : List α) (v : α) : atI (xs ++ [v]) (-1) = some v := by
  have hl : (xs ++ [v]).length = xs.length + 1 := by simp
  have e : ixN (xs ++ [v]).length (-1) = some xs.length := by
    unfold ixN
    rw [hl, if_neg (by decide), if_pos (by omega)]
    congr 1
    omega
  unfold atI
  rw [e]
  show (xs ++ [v])[xs.length]? = some v
  simp
/-! ### what may be subscripted -/
/-- what stands as an index of a plain subscript -/
def PlainIx (b : Expr) : Prop := ∀ o i, subscripted b false o i = operate [o, i] (getItem o i)
/-- a subscript by values -/
def IxR (X : Cx) (r : R2) : Prop :=
  ∀ (value slice : Expr) (pins : List (Addr × Obj)) (s : Shared) (σ : St) (H : Hp) (x y : V) (v u : Value) (Q : VK), Inv X pins σ H s → RelV x v → RelV y u → r x y H Q →
    subscripted slice false v u = operate [v, u] (getItem v u) → wpAny (model X.prog X.w) X.A (subscriptTail value slice v u) (EP X pins σ Q) X.xe s
/-- a call of a builtin's method by values: the receiver, the arguments -/
def MtR (X : Cx) (id : String) (r : V → List V → Hp → VK → Prop) : Prop :=
  ∀ (pins : List (Addr × Obj)) (s : Shared) (σ : St) (H : Hp) (x : V) (xs : List V) (v : Value) (us : List Value) (Q : VK), Inv X pins σ H s → RelV x v → Vals xs us → r x xs H Q →
    wpAny (model X.prog X.w) X.A (call (.builtin id) (v :: us)) (EP X pins σ Q) X.xe s
section
variable {X : Cx} {a b : Expr} {ta tb : TE} {pos : Pos}
theorem IxR.or {r r' : R2} (h : IxR X r) (h' : IxR X r') : IxR X (fun x y H Q => r x y H Q ∨ r' x y H Q) := by
  intro value slice pins s σ H x y v u Q I rx ry q hs
  rcases q with q | q
  · exact h value slice pins s σ H x y v u Q I rx ry q hs
  · exact h' value slice pins s σ H x y v u Q I rx ry q hs
theorem MtR.or {id : String} {r r' : V → List V → Hp → VK → Prop} (h : MtR X id r) (h' : MtR X id r') : MtR X id (fun x xs H Q => r x xs H Q ∨ r' x xs H Q) := by
  intro pins s σ H x xs v us Q I rx rs q
  rcases q with q | q
  · exact h pins s σ H x xs v us Q I rx rs q
  · exact h' pins s σ H x xs v us Q I rx rs q
/-- a[b] -/
theorem pe_ix {r : R2} (hr : IxR X r) (ha : PE X a ta) (hb : PE X b tb) (hs : PlainIx b) : PE X (.Subscript a b pos) (tOp r ta tb) := by
  intro pins s σ H Q I h
  exact Subscript_ (binT ha hb I h fun v u s2 x y H2 I2 rx ry q => hr a b pins s2 σ H2 x y v u Q I2 rx ry q (hs _ _))
def rIxL (K : PySem.W.Frag) : R2 := fun x y H Q => ∃ p xs i v, x = .ref p ∧ y = .int i ∧ SqL K H p xs ∧ atI xs i = some v ∧ Q v H
def rIxT (K : PySem.W.Frag) : R2 := fun x y H Q => ∃ p xs i v, x = .ref p ∧ y = .int i ∧ SqT K H p xs ∧ atI xs i = some v ∧ Q v H
def rIxS : R2 := fun x y H Q => ∃ z i c, x = .str z ∧ y = .int i ∧ z.length ≤ sizeLine ∧ atI z.cps.toList i = some c ∧ Q (.str ⟨#[c]⟩) H
theorem ix_list : IxR X (rIxL X.K) := by
  intro value slice pins s σ H x y v u Q I rx ry h hs
  obtain ⟨p, xs, i, z, rfl, rfl, hq, he, q⟩ := h
  cases rx
  obtain ⟨t, rfl⟩ := ry
  obtain ⟨its, r, pl, hz⟩ := I.list hq
  obtain ⟨j, h1, h2, h3, h4, h5⟩ := atI_get he
  obtain ⟨w, ew, rw'⟩ := r.get h2
  have hl := r.length
  have hn := line63
  have fin : EP X pins σ Q w s := ⟨z, H, I, rw', q⟩
  by_cases h0 : 0 ≤ i
  · have hj : i.toNat = j := by
      rw [seqIndex_of h0 h5] at h1
      exact Option.some.inj h1
    exact item_listR pl.isList h0 (by omega) (by rw [hj]; simpa using ew) fin hs
  · have hj : (i + (its.toArray.size : Int)).toNat = j := by
      rw [seqIndex_neg (by omega) h4] at h1
      rw [List.size_toArray, ← hl]
      exact Option.some.inj h1
    exact subscriptTail_builtinR (x := w) pl.isList.typeIs slot_list_getitem.lookup
      (wpAny_getItem_list_neg (Q := fun r s' => r = w ∧ EP X pins σ Q r s') pl.isList (by omega) (by rw [List.size_toArray] <;> omega) (by omega) (by rw [hj]; simpa using ew) ⟨rfl, fin⟩) hs
theorem ix_tup : IxR X (rIxT X.K) := by
  intro value slice pins s σ H x y v u Q I rx ry h hs
  obtain ⟨p, xs, i, z, rfl, rfl, hq, he, q⟩ := h
  cases rx
  obtain ⟨t, rfl⟩ := ry
  obtain ⟨its, r, pl, hz⟩ := I.tuple hq
  obtain ⟨j, h1, h2, h3, h4, h5⟩ := atI_get he
  obtain ⟨w, ew, rw'⟩ := r.get h2
  have hl := r.length
  have hn := line63
  have fin : EP X pins σ Q w s := ⟨z, H, I, rw', q⟩
  exact subscriptTail_builtinR (x := w) pl.typeIs slot_tuple_getitem.lookup
    (getItem_tuple (j := j) (Q := fun r s' => r = w ∧ EP X pins σ Q r s') pl (by omega) (by omega) (by rw [List.size_toArray, ← hl]; exact h1) (by simpa using ew) ⟨rfl, fin⟩) hs
theorem ix_str : IxR X rIxS := by
  intro value slice pins s σ H x y v u Q I rx ry h hs
  obtain ⟨z, i, c, rfl, rfl, hz, he, q⟩ := h
  obtain ⟨t, rfl⟩ := rx
  obtain ⟨t', rfl⟩ := ry
  obtain ⟨j, h1, h2, h3, h4, h5⟩ := atI_get he
  have hl : z.cps.toList.length = z.length := by simp [Str.length]
  rw [hl] at h1 h4 h5
  have hn := line63
  exact tail_any (typeIs_str s z t) slot_str_getitem.lookup (getItem_str (c := c) (by
    have e1 : decide (i < -(2 ^ 63 : Int)) = false := decide_eq_false (by omega)
    have e2 : decide (i ≥ 2 ^ 63) = false := decide_eq_false (by omega)
    rw [e1, e2, Bool.or_false]) (by rw [h1]; simpa using h2) ⟨.str ⟨#[c]⟩, H, I.tok _, ⟨_, rfl⟩, q⟩) hs
/-- list, tuple or str -/
def rIx (K : PySem.W.Frag) : R2 := fun x y H Q => rIxL K x y H Q ∨ rIxT K x y H Q ∨ rIxS x y H Q
theorem ix_seq : IxR X (rIx X.K) := ix_list.or (ix_tup.or ix_str)
/-! ### xs[i] = v, any sign -/
/-- the list's object behind a store -/
theorem mapSeq_set (its : List Value) (n j : Nat) (u : Value) : Obj.mapSeq (·.setIfInBounds j u) { cls := .type "list", data := .seq its.toArray n } = { cls := .type "list", data := .seq (its.set j u).toArray n } := by
  simp [Obj.mapSeq]
theorem Inv.lst {pins : List (Addr × Obj)} {σ : St} {H : Hp} {s : Shared} {p : Addr} {xs : List V} (I : Inv X pins σ H s) (h : H p = some (.lst xs)) :
    ∃ (its : List Value) (n : Nat), Vals xs its ∧ s.heap.get? p = some { cls := .type "list", data := .seq its.toArray n } ∧ xs.length ≤ sizeLine := by
  obtain ⟨z, its, n, r, e⟩ := I.hok p _ h
  exact ⟨its, n, r, e, z⟩
/-- the list at p is written by an update of its object -/
theorem Inv.lstUpd {pins : List (Addr × Obj)} {σ : St} {H : Hp} {s : Shared} {p : Addr} {xs ys : List V} {its its' : List Value} {n n' : Nat} {f : Obj → Obj} (I : Inv X pins σ H s) (h : H p = some (.lst xs))
    (ho : s.heap.get? p = some { cls := .type "list", data := .seq its.toArray n }) (hf : f { cls := .type "list", data := .seq its.toArray n } = { cls := .type "list", data := .seq its'.toArray n' }) (r : Vals ys its') (hz : ys.length ≤ sizeLine) (t : Nat) :
    Inv X pins σ (upd H p (.lst ys)) { s with heap := s.heap.update p f, toks := t } := by
  have e : (s.heap.update p f).get? p = some { cls := .type "list", data := .seq its'.toArray n' } := by
    rw [Heap.get?_update_self f ho (by rw [hf] <;> rfl), hf]
  refine I.write (x := p) (e := p) (by rw [h]; trivial) (.inl rfl) (fun b u hb q => (Heap.get?_update_other _ _ (Ne.symm hb)).trans q) ⟨_, e⟩ ?_
  exact ⟨hz, its', n', r, e⟩
def rSetL : V → V → V → Hp → (Hp → Prop) → Prop := fun o i v H Q => ∃ p xs k j, o = .ref p ∧ i = .int k ∧ H p = some (.lst xs) ∧ ixN xs.length k = some j ∧ Q (upd H p (.lst (xs.set j v)))
theorem set_list : PSet X rSetL := by
  intro pins s σ H o i v ov iv u Q I ro ri rv h
  obtain ⟨p, xs, k, j, rfl, rfl, hp, hj, q⟩ := h
  cases ro
  obtain ⟨t, rfl⟩ := ri
  obtain ⟨its, n, r, ho, hz⟩ := I.lst hp
  obtain ⟨h1, h2, h3, h4⟩ := ixN_seq hj
  have hl := r.length
  have hn := line63
  have I' : Inv X pins σ (upd H p (.lst (xs.set j v))) { s with heap := s.heap.update p (Obj.mapSeq (·.setIfInBounds j u)) } :=
    I.lstUpd hp ho (mapSeq_set its n j u) (r.set rv j) (by rw [List.length_set]; exact hz) s.toks
  by_cases h0 : 0 ≤ k
  · have hk : k.toNat = j := by
      rw [seqIndex_of h0 h4] at h1
      exact Option.some.inj h1
    exact PySem.W.ki_setAt ho h0 (by omega) (by rw [List.size_toArray, ← hl]; exact h4) (by rw [hk]; exact ⟨_, I', q⟩)
  · have hk : (k + (its.toArray.size : Int)).toNat = j := by
      rw [seqIndex_neg (by omega) h3] at h1
      rw [List.size_toArray, ← hl]
      exact Option.some.inj h1
    exact PySem.W.ki_setBack ho (by omega) (by rw [List.size_toArray, ← hl]; exact h3) (by omega) (by rw [hk]; exact ⟨_, I', q⟩)
/-! ### slices -/
theorem slice_bounds (lo hi : Option Int) (n : Nat) : (sliceBounds lo hi none n).1 = ((HT.sIx n 0 lo : Nat) : Int) ∧ (sliceBounds lo hi none n).2.1 = ((HT.sIx n n hi : Nat) : Int) ∧ (sliceBounds lo hi none n).2.2 = 1 := by
  refine ⟨?_, ?_, rfl⟩
  · cases lo with
    | none => simp [sliceBounds, HT.sIx]
    | some i =>
      simp only [sliceBounds, HT.sIx, Option.getD_none, show (1 : Int) > 0 by decide, if_true]
      by_cases h : i < 0
      · simp only [h, if_true] <;> omega
      · simp only [h, if_false] <;> omega
  · cases hi with
    | none => simp [sliceBounds, HT.sIx]
    | some i =>
      simp only [sliceBounds, HT.sIx, Option.getD_none, show (1 : Int) > 0 by decide, if_true]
      by_cases h : i < 0
      · simp only [h, if_true] <;> omega
      · simp only [h, if_false] <;> omega
theorem slicePick_cut (its : List Value) (lo hi : Option Int) : slicePick its.toArray lo hi none = ((its.drop (HT.sIx its.length 0 lo)).take (HT.sIx its.length its.length hi - HT.sIx its.length 0 lo)).toArray := by
  obtain ⟨h1, h2, h3⟩ := slice_bounds lo hi its.toArray.size
  unfold slicePick
  rw [h1, h2, h3]
  simp only [sliceRange_one, pick_run, List.size_toArray] <;> rfl
/-- xs[lo:hi] of a list: a new list -/
def rSlL (K : PySem.W.Frag) : V → Option Int → Option Int → Hp → VK → Prop := fun x lo hi H Q => ∃ a xs, x = .ref a ∧ SqL K H a xs ∧ ∀ p, H p = none → Q (.ref p) (upd H p (.lst (cutV xs lo hi)))
theorem sl_list : SlR X (rSlL X.K) := by
  intro pins s σ H x v vl vu lo hi sl Q I rx hs pl pu h
  obtain ⟨a, xs, rfl, hx, q⟩ := h
  cases rx
  obtain ⟨its, r, ht, hz⟩ := I.list hx
  have hlen := r.length
  refine ⟨"list", _, slot_list_getitem.lookup, ht.isList.typeIs, ?_⟩
  refine wpAny_getItem_list_slice ht.isList hs pl pu .none (by simp) ?_ (by rw [List.size_toArray] <;> omega)
  rw [slicePick_cut, ← hlen]
  refine ⟨.ref s.heap.objs.size, _, I.laid (t' := s.toks) (o := .lst (cutV xs lo hi)) (fun b ob q => Heap.get?_push_of_some _ q) (Nat.le_refl _) ?_, rfl, q _ (I.hok.fresh (Nat.le_refl _))⟩
  exact ⟨Nat.le_trans (cutV_length xs lo hi) hz, _, 0, (r.drop (HT.sIx xs.length 0 lo)).take (HT.sIx xs.length xs.length hi - HT.sIx xs.length 0 lo), Heap.get?_push_size _ rfl⟩
/-! ### in, not in: flat items -/
def flatV : V → Bool
  | .non => true
  | .bl _ => true
  | .int _ => true
  | .str _ => true
  | _ => false
/-- == of flat values -/
def eqV : V → V → Bool
  | .non, .non => true
  | .bl a, .bl b => a == b
  | .bl a, .int b => (if a then 1 else 0) == b
  | .int a, .bl b => a == (if b then 1 else 0)
  | .int a, .int b => a == b
  | .str a, .str b => a == b
  | _, _ => false
theorem eqAt_V {A : Around} {s : Shared} {y x : V} {u v : Value} (ry : RelV y u) (rx : RelV x v) (fy : flatV y = true) (fx : flatV x = true) : SeqAt.EqAt A s u v (eqV y x) := by
  cases y with
  | non =>
    cases ry
    cases x with
    | non => cases rx; exact SeqAt.EqAt.same _
    | bl b => cases rx; exact SeqAt.EqAt.none_bool b
    | int b => obtain ⟨t, rfl⟩ := rx; exact SeqAt.EqAt.none_int b t
    | str b => obtain ⟨t, rfl⟩ := rx; exact SeqAt.EqAt.none_str b t
    | _ => exact absurd (show false = true from fx) Bool.false_ne_true
  | bl a =>
    cases ry
    cases x with
    | non => cases rx; exact SeqAt.EqAt.bool_none a
    | bl b => cases rx; exact SeqAt.EqAt.bool_bool a b
    | int b => obtain ⟨t, rfl⟩ := rx; exact SeqAt.EqAt.bool_int a b t
    | str b => obtain ⟨t, rfl⟩ := rx; exact SeqAt.EqAt.bool_str a b t
    | _ => exact absurd (show false = true from fx) Bool.false_ne_true
  | int a =>
    obtain ⟨t', rfl⟩ := ry
    cases x with
    | non => cases rx; exact SeqAt.EqAt.int_none a t'
    | bl b => cases rx; exact SeqAt.EqAt.int_bool a t' b
    | int b => obtain ⟨t, rfl⟩ := rx; exact SeqAt.EqAt.int_int a t' b t
    | str b => obtain ⟨t, rfl⟩ := rx; exact SeqAt.EqAt.int_str a t' b t
    | _ => exact absurd (show false = true from fx) Bool.false_ne_true
  | str a =>
    obtain ⟨t', rfl⟩ := ry
    cases x with
    | non => cases rx; exact SeqAt.EqAt.str_none a t'
    | bl b => cases rx; exact SeqAt.EqAt.str_bool a t' b
    | int b => obtain ⟨t, rfl⟩ := rx; exact SeqAt.EqAt.str_int a t' b t
    | str b => obtain ⟨t, rfl⟩ := rx; exact SeqAt.EqAt.str_str a t' b t
    | _ => exact absurd (show false = true from fx) Bool.false_ne_true
  | _ => exact absurd (show false = true from fy) Bool.false_ne_true
/-- the items' answers, read off the values (a value's own answer does not lean on its token) -/
def eqU (x : V) (u : Value) : Bool := match u with
  | .none => eqV .non x
  | .bool b => eqV (.bl b) x
  | .int i _ => eqV (.int i) x
  | .str z _ => eqV (.str z) x
  | _ => false
theorem eqU_of {x y : V} {u : Value} (r : RelV y u) (f : flatV y = true) : eqU x u = eqV y x := by
  cases y with
  | non => cases r; rfl
  | bl b => cases r; rfl
  | int i => obtain ⟨t, rfl⟩ := r; rfl
  | str z => obtain ⟨t, rfl⟩ := r; rfl
  | _ => exact absurd (show false = true from f) Bool.false_ne_true
theorem any_eqU {x : V} : ∀ {xs : List V} {us : List Value}, Vals xs us → xs.all flatV = true → us.any (eqU x) = xs.any fun y => eqV y x
  | _, _, .nil, _ => rfl
  | y :: xs, u :: us, .cons r t, f => by
    rw [List.all_cons, Bool.and_eq_true] at f
    rw [List.any_cons, List.any_cons, eqU_of r f.1, any_eqU t f.2]
theorem mem_eqAt {A : Around} {s : Shared} {x : V} {v : Value} (rx : RelV x v) (fx : flatV x = true) : ∀ {xs : List V} {us : List Value}, Vals xs us → xs.all flatV = true → ∀ u ∈ us, SeqAt.EqAt A s u v (eqU x u)
  | _, _, .nil, _ => fun u hu => by cases hu
  | y :: xs, u :: us, .cons r t, f => fun u' hu => by
    rw [List.all_cons, Bool.and_eq_true] at f
    rcases List.mem_cons.mp hu with rfl | hu
    · rw [eqU_of r f.1]; exact eqAt_V r rx f.1 fx
    · exact mem_eqAt rx fx t f.2 u' hu
def inV (x : V) (xs : List V) : Bool := xs.any fun y => eqV y x
/-- x in a list or tuple of flat items -/
def rIn (K : PySem.W.Frag) (neg : Bool) : R2 := fun x y H Q => ∃ p xs, y = .ref p ∧ (SqL K H p xs ∨ SqT K H p xs) ∧ flatV x = true ∧ xs.all flatV = true ∧ Q (.bl (if neg then !inV x xs else inV x xs)) H
theorem op_in_seq : OpR X (compareOp .In) (rIn X.K false) := by
  intro pins s σ H x y v u Q I rx ry h
  obtain ⟨p, xs, rfl, hq, fx, fs, q⟩ := h
  cases ry
  rcases hq with hq | hq
  · obtain ⟨its, r, pl, hz⟩ := I.list hq
    refine SeqAt.in_listAt (eqU x) pl.isList (fun w hw => mem_eqAt rx fx r fs w (by simpa using hw)) ⟨.bl _, H, I, rfl, ?_⟩
    rw [show its.toArray.any (eqU x) = its.any (eqU x) by simp, any_eqU r fs]
    exact q
  · obtain ⟨its, r, pl, hz⟩ := I.tuple hq
    refine SeqAt.in_tupleAt (eqU x) pl (fun w hw => mem_eqAt rx fx r fs w (by simpa using hw)) ⟨.bl _, H, I, rfl, ?_⟩
    rw [show its.toArray.any (eqU x) = its.any (eqU x) by simp, any_eqU r fs]
    exact q
theorem op_notIn_seq : OpR X (compareOp .NotIn) (rIn X.K true) := by
  intro pins s σ H x y v u Q I rx ry h
  obtain ⟨p, xs, rfl, hq, fx, fs, q⟩ := h
  cases ry
  rcases hq with hq | hq
  · obtain ⟨its, r, pl, hz⟩ := I.list hq
    refine SeqAt.notIn_listAt (eqU x) pl.isList (fun w hw => mem_eqAt rx fx r fs w (by simpa using hw)) ⟨.bl _, H, I, rfl, ?_⟩
    rw [show its.toArray.any (eqU x) = its.any (eqU x) by simp, any_eqU r fs]
    exact q
  · obtain ⟨its, r, pl, hz⟩ := I.tuple hq
    refine SeqAt.notIn_tupleAt (eqU x) pl (fun w hw => mem_eqAt rx fx r fs w (by simpa using hw)) ⟨.bl _, H, I, rfl, ?_⟩
    rw [show its.toArray.any (eqU x) = its.any (eqU x) by simp, any_eqU r fs]
    exact q
theorem op_notIn_str : OpR X (compareOp .NotIn) (fun x y H Q => ∃ i j, x = .str i ∧ y = .str j ∧ Q (.bl (!(!(Builtin.Str.occurrences j i 0 j.length 1).isEmpty))) H) := by
  intro pins s σ H x y v u Q I rx ry h
  obtain ⟨i, j, rfl, rfl, q⟩ := h
  obtain ⟨t, rfl⟩ := rx
  obtain ⟨t', rfl⟩ := ry
  exact notIn_str ⟨.bl _, H, I, rfl, q⟩
/-! ### len, list(x), tuple(x) of any list or tuple that is read -/
theorem call_len_seq : CallR X (.builtin "len") (fun xs H Q => ∃ p ys, xs = [.ref p] ∧ (SqL X.K H p ys ∨ SqT X.K H p ys) ∧ Q (.int ys.length) H) := by
  intro pins s σ H xs us Q I r h
  obtain ⟨p, ys, rfl, hq, q⟩ := h
  obtain ⟨u, rfl, rx⟩ := vals1 r
  cases rx
  have hn := line63
  rcases hq with hq | hq
  · obtain ⟨its, r', pl, hz⟩ := I.list hq
    have hlen := r'.length
    exact Calls.call_len_list pl.isList (by simp only [List.size_toArray] <;> omega) ⟨.int ys.length, H, I.tok _, ⟨s.toks + 1, by rw [List.size_toArray, hlen]⟩, q⟩
  · obtain ⟨its, r', pl, hz⟩ := I.tuple hq
    have hlen := r'.length
    exact len_tuple pl (by simp only [List.size_toArray] <;> omega) ⟨.int ys.length, H, I.tok _, ⟨s.toks + 1, by rw [List.size_toArray, hlen]⟩, q⟩
theorem call_len_str : CallR X (.builtin "len") (fun xs H Q => ∃ z, xs = [.str z] ∧ z.length ≤ sizeLine ∧ Q (.int z.length) H) := by
  intro pins s σ H xs us Q I r h
  obtain ⟨z, rfl, hz, q⟩ := h
  obtain ⟨u, rfl, t, rfl⟩ := vals1 r
  have hn := line63
  exact len_str (by omega) ⟨.int z.length, H, I.tok _, ⟨_, rfl⟩, q⟩
theorem CallR.or {f : Value} {r r' : List V → Hp → VK → Prop} (h : CallR X f r) (h' : CallR X f r') : CallR X f (fun xs H Q => r xs H Q ∨ r' xs H Q) := by
  intro pins s σ H xs us Q I rs q
  rcases q with q | q
  · exact h pins s σ H xs us Q I rs q
  · exact h' pins s σ H xs us Q I rs q
theorem call_list_of : CallR X (.type "list") (fun xs H Q => ∃ p ys, xs = [.ref p] ∧ (SqL X.K H p ys ∨ SqT X.K H p ys) ∧ ∀ l, H l = none → Q (.ref l) (upd H l (.lst ys))) := by
  intro pins s σ H xs us Q I r h
  obtain ⟨p, ys, rfl, hq, q⟩ := h
  obtain ⟨u, rfl, rx⟩ := vals1 r
  cases rx
  have fin : ∀ (its : List Value), Vals ys its → ys.length ≤ sizeLine → ∀ (h' : Heap) (c' : Nat), (∀ b o', s.heap.get? b = some o' → h'.get? b = some o') →
      h'.get? s.heap.objs.size = some { cls := .type "list", dict := none, data := .seq its.toArray c', slots := #[] } → EP X pins σ Q (.ref s.heap.objs.size) { s with heap := h' } := fun its r' hz h' c' kp e =>
    ⟨.ref s.heap.objs.size, _, I.laid (t' := s.toks) kp (Nat.le_refl _) (show ObjOk X.prog X.w _ h' _ (.lst ys) from ⟨hz, its, c', r', e⟩), rfl, q _ (I.hok.fresh (Nat.le_refl _))⟩
  rcases hq with hq | hq
  · obtain ⟨its, r', pl, hz⟩ := I.list hq
    have hlen := r'.length
    obtain ⟨o, ho, hc, n, hd⟩ := pl.isList
    exact call_list_seq p (.inl rfl) ho hc hd (fun h' c' kp e => fin its r' hz h' c' kp e) (by simp only [List.size_toArray] <;> omega)
  · obtain ⟨its, r', pl, hz⟩ := I.tuple hq
    have hlen := r'.length
    obtain ⟨o, ho, hc, n, hd⟩ := pl
    exact call_list_seq p (.inr rfl) ho hc hd (fun h' c' kp e => fin its r' hz h' c' kp e) (by simp only [List.size_toArray] <;> omega)
theorem call_tuple_of : CallR X (.type "tuple") (fun xs H Q => ∃ p ys, xs = [.ref p] ∧ ((SqL X.K H p ys ∧ ∀ l, H l = none → Q (.ref l) (upd H l (.tup ys))) ∨ (SqT X.K H p ys ∧ Q (.ref p) H))) := by
  intro pins s σ H xs us Q I r h
  obtain ⟨p, ys, rfl, h⟩ := h
  obtain ⟨u, rfl, rx⟩ := vals1 r
  cases rx
  rcases h with ⟨hq, q⟩ | ⟨hq, q⟩
  · obtain ⟨its, r', pl, hz⟩ := I.list hq
    have hlen := r'.length
    refine call_tuple_list pl.isList (fun h' kp => ?_) (by simp only [List.size_toArray] <;> omega)
    have I1 : Inv X pins σ H { s with heap := h' } := I.kept (t' := s.toks) kp
    have I2 : Inv X pins σ (upd H h'.objs.size (.tup ys)) { s with heap := h'.push { cls := .type "tuple", data := .seq its.toArray } } :=
      I1.laid (t' := s.toks) (fun b o e => Heap.get?_push_of_some _ e) (Nat.le_refl _) (show ObjOk X.prog X.w _ _ _ (.tup ys) from ⟨hz, its, r', IsTup.new _ _⟩)
    exact ⟨.ref h'.objs.size, _, I2, rfl, q _ (I1.hok.fresh (Nat.le_refl _))⟩
  · obtain ⟨its, r', pl, hz⟩ := I.tuple hq
    exact call_tuple_same pl ⟨.ref p, H, I, rfl, q⟩
/-! ### the call of a builtin's method: o.m(..) -/
/-- the value is of that builtin type -/
def tyV (K : PySem.W.Frag) (T : String) (x : V) (H : Hp) : Prop := match x with
  | .str _ => T = "str"
  | .int _ => T = "int"
  | .ref p => (T = "list" ∧ ∃ xs, SqL K H p xs) ∨ (T = "tuple" ∧ ∃ o, K.lookup p = some o ∧ o.cls = .type "tuple" ∧ o.dict = none) ∨
      (T = "dict" ∧ ((∃ kvs, H p = some (.dK kvs)) ∨ ∃ kvs, H p = some (.dT kvs))) ∨ (T = "set" ∧ ∃ S n, H p = some (.set S n))
  | _ => False
theorem tyV_is {pins : List (Addr × Obj)} {σ : St} {H : Hp} {s : Shared} {T : String} {x : V} {v : Value} (I : Inv X pins σ H s) (r : RelV x v) (ty : tyV X.K T x H) :
    s.TypeIs v T ∧ ∀ a, v = .ref a → ∃ ob, s.heap.get? a = some ob ∧ ob.dict = none := by
  cases x with
  | str z =>
    obtain ⟨t, rfl⟩ := r
    cases (show T = "str" from ty)
    exact ⟨typeIs_str s z t, fun _ e => nomatch e⟩
  | int i =>
    obtain ⟨t, rfl⟩ := r
    cases (show T = "int" from ty)
    exact ⟨typeIs_int s i t, fun _ e => nomatch e⟩
  | ref p =>
    cases r
    rcases ty with ⟨rfl, xs, hq⟩ | ⟨rfl, o, hk, hc, hd⟩ | ⟨rfl, hk⟩ | ⟨rfl, S, n, hk⟩
    · obtain ⟨its, _, pl, _⟩ := I.list hq
      refine ⟨pl.isList.typeIs, fun a e => ?_⟩
      cases e
      obtain ⟨o, n, e, c, hd, _⟩ := pl
      exact ⟨o, e, hd⟩
    · refine ⟨⟨o, I.kIn p o hk, hc⟩, fun a e => ?_⟩
      cases e
      exact ⟨o, I.kIn _ o hk, hd⟩
    · have z : ∃ o, s.heap.get? p = some o ∧ o.ExactDict := by
        rcases hk with ⟨kvs, hk⟩ | ⟨kvs, hk⟩
        · obtain ⟨_, _, _, _, o, _, _, e, ex, _⟩ := I.hok p _ hk
          exact ⟨o, e, ex⟩
        · obtain ⟨_, _, _, _, o, _, _, e, ex, _⟩ := I.hok p _ hk
          exact ⟨o, e, ex⟩
      obtain ⟨o, e, ex⟩ := z
      refine ⟨⟨o, e, ex.1⟩, fun a e2 => ?_⟩
      cases e2
      exact ⟨o, e, ex.2.1⟩
    · obtain ⟨o, _, _, _, e, ex, _⟩ := I.hok p _ hk
      refine ⟨⟨o, e, ex.1⟩, fun a e2 => ?_⟩
      cases e2
      exact ⟨o, e, ex.2.1⟩
  | _ => exact False.elim ty
def tBM0 (K : PySem.W.Frag) (T : String) (r : V → List V → Hp → VK → Prop) (to : TE) : TE := fun σ H Q => to σ H fun x H1 => tyV K T x H1 ∧ r x [] H1 Q
def tBM (K : PySem.W.Frag) (T : String) (r : V → List V → Hp → VK → Prop) (to : TE) (t : TA) : TE := fun σ H Q => to σ H fun x H1 => tyV K T x H1 ∧ t σ H1 fun xs H2 => r x xs H2 Q
variable {o e : Expr} {es : List Expr} {to : TE} {t : TA} {name : Str} {apos cpos : Pos} {T id : String} {r : V → List V → Hp → VK → Prop}
theorem pe_bm0 (pa : PlainAttrs T) (slot : Slot T name id) (hty : typeOf (.builtin id) = pure (.type "method_descriptor")) (hm : MtR X id r) (ho : PE X o to)
    (hbase : attributeBase o name X.env (eval o X.env) = eval o X.env := by rfl) (hline : (apos.endLine == cpos.line) = true := by rfl) : PE X (.Call (.Attribute o name apos) [] [] cpos) (tBM0 X.K T r to) := by
  intro pins s σ H Q I h
  refine wpAny_Call_method0_late hbase hline (thn (ho pins s σ H _ I h) fun v s1 ⟨x, H1, I1, r1, ty, q1⟩ => ?_)
  obtain ⟨h1, h2⟩ := tyV_is I1 r1 ty
  exact ⟨T, id, pa, slot, hty, h1, h2, Calls.callWith_builtin rfl (PySem.evalArgs_none (hm pins s1 σ H1 x [] v [] Q I1 r1 .nil q1))⟩
theorem pe_bm (pa : PlainAttrs T) (slot : Slot T name id) (hty : typeOf (.builtin id) = pure (.type "method_descriptor")) (hm : MtR X id r) (ho : PE X o to) (ha : PA X (e :: es) t)
    (hbase : attributeBase o name X.env (eval o X.env) = eval o X.env := by rfl)
    (hfew : ((backTo cpos (starEach (e :: es) X.env)).all (fun x => !x.1) && (backToKw cpos (keywordEach [] X.env)).all (fun x => x.1.isSome)
      && decide ((e :: es).length + ([] : List Keyword).length + (if ([] : List Keyword).isEmpty then 0 else 1) < 30)) = true := by rfl)
    (hline : (apos.endLine == cpos.line) = true := by rfl) (hs : starEach (e :: es) X.env = (false, eval e X.env) :: starEach es X.env := by rfl) (hplain : (backTo cpos (starEach es X.env)).any (·.1) = false := by rfl) :
    PE X (.Call (.Attribute o name apos) (e :: es) [] cpos) (tBM X.K T r to t) := by
  intro pins s σ H Q I h
  refine wpAny_Call_method_late hbase hfew hline rfl (thn (ho pins s σ H _ I h) fun v s1 ⟨x, H1, I1, r1, ty, q1⟩ => ?_)
  obtain ⟨h1, h2⟩ := tyV_is I1 r1 ty
  refine ⟨T, id, pa, slot, hty, h1, h2, ?_⟩
  have hA := ha cpos pins s1 σ H1 _ I1 q1
  rw [hs] at hA ⊢
  refine Calls.callWith_builtin (by show (false || (backTo cpos (starEach es X.env)).any (·.1)) = false; rw [hplain] <;> rfl) (Calls.evalArgs_plain ?_)
  exact thn hA fun us s2 ⟨vs, H2, I2, r2, q2⟩ => hm pins s2 σ H2 x vs v us Q I2 r1 r2 q2
/- xs.append(e), list.index on a module's tuple .. are MtR facts of 06m -/
end
end L2
namespace L2
open PySem PySem.Spec PyProof.Rows
def MtM (X : Cx) (id : String) (r : V → List V → Hp → VK → Prop) : Prop :=
  ∀ (pins : List (Addr × Obj)) (s : Shared) (σ : St) (H : Hp) (x : V) (xs : List V) (v : Value) (us : List Value) (Q : VK), Inv X pins σ H s → RelV x v → Vals xs us → r x xs H Q →
    wpAny (model X.prog X.w) X.A (call (.builtin id) (v :: us)) (EP X pins σ Q) X.xe s
/-! ### lists of values -/
theorem Vals.one : ∀ {x : V} {us : List Value}, Vals [x] us → ∃ u, us = [u] ∧ RelV x u
  | _, _, .cons r .nil => ⟨_, rfl, r⟩
theorem Vals.two : ∀ {x y : V} {us : List Value}, Vals [x, y] us → ∃ u v, us = [u, v] ∧ RelV x u ∧ RelV y v
  | _, _, _, .cons r (.cons q .nil) => ⟨_, _, rfl, r, q⟩
theorem Vals.zero : ∀ {us : List Value}, Vals [] us → us = []
  | _, .nil => rfl
theorem Vals.dropLast {xs : List V} {us : List Value} (h : Vals xs us) : Vals xs.dropLast us.dropLast := by
  induction h with
  | nil => exact .nil
  | cons r t ih =>
    cases t with
    | nil => exact .nil
    | cons q t' => exact .cons r ih
theorem Vals.eraseIdx : ∀ {xs : List V} {us : List Value} (i : Nat), Vals xs us → Vals (xs.eraseIdx i) (us.eraseIdx i)
  | _, _, _, .nil => .nil
  | _, _, 0, .cons _ t => t
  | _, _, i + 1, .cons r t => .cons r (Vals.eraseIdx i t)
theorem Vals.reverse {xs : List V} {us : List Value} (h : Vals xs us) : Vals xs.reverse us.reverse := by
  induction h with
  | nil => exact .nil
  | cons r t ih => rw [List.reverse_cons, List.reverse_cons]; exact Vals.append ih (.cons r .nil)
theorem Vals.rep {xs : List V} {us : List Value} (h : Vals xs us) : ∀ k : Nat, Vals (List.replicate k xs).flatten (List.replicate k us).flatten
  | 0 => .nil
  | k + 1 => by
    rw [List.replicate_succ, List.replicate_succ, List.flatten_cons, List.flatten_cons]
    exact Vals.append h (Vals.rep h k)
theorem erase_last {α : Type} (l : List α) : l.eraseIdx (l.length - 1) = l.dropLast := by
  induction l with
  | nil => rfl
  | cons a r ih =>
    cases r with
    | nil => rfl
    | cons b r =>
      have e : (a :: b :: r).length - 1 = ((b :: r).length - 1) + 1 := by
        have h1 : (a :: b :: r).length = r.length + 2 := rfl
        have h2 : (b :: r).length = r.length + 1 := rfl
        omega
      rw [e, List.eraseIdx_cons_succ, ih]
      all_goals rfl
theorem len_erase {α : Type} : ∀ (l : List α) (i : Nat), (l.eraseIdx i).length ≤ l.length
  | [], _ => Nat.le_refl _
  | _ :: _, 0 => Nat.le_succ _
  | _ :: r, i + 1 => Nat.succ_le_succ (len_erase r i)
theorem foldl_rep (its : List Value) : ∀ (k : Nat) (acc : List Value),
    List.foldl (fun x1 x2 => x1 ++ x2) acc.toArray (List.replicate k its.toArray) = (acc ++ (List.replicate k its).flatten).toArray
  | 0, acc => by simp
  | k + 1, acc => by
    have e : acc.toArray ++ its.toArray = (acc ++ its).toArray := by simp
    have e2 : (acc ++ its) ++ (List.replicate k its).flatten = acc ++ (List.replicate (k + 1) its).flatten := by
      rw [List.replicate_succ, List.flatten_cons, List.append_assoc]
    rw [← e2, ← foldl_rep its k (acc ++ its), ← e, List.replicate_succ, List.foldl_cons]
section
variable {X : Cx} {pins : List (Addr × Obj)} {σ : St} {H : Hp} {s : Shared} {l b : Addr} {xs ys zs : List V}
/-! ### the two steps: a tracked list is rewritten, a new list is laid -/
theorem Inv.lset {its its' : List Value} {n : Nat} {f : Array Value → Array Value} {t' : Nat} (I : Inv X pins σ H s) (hH : H l = some (.lst xs))
    (e : s.heap.get? l = some { cls := .type "list", data := .seq its.toArray n }) (hf : f its.toArray = its'.toArray) (hv : Vals ys its') (hz : ys.length ≤ sizeLine) :
    Inv X pins σ (upd H l (.lst ys)) { s with heap := s.heap.update l (Obj.mapSeq f), toks := t' } := by
  have q := PySem.IsL.update e f
  rw [hf] at q
  refine I.write (x := l) (e := l) (by rw [hH]; exact trivial) (.inl rfl) (fun b' u hb hu => (Heap.get?_update_other s.heap (Obj.mapSeq f) (Ne.symm hb)).trans hu) ⟨_, q⟩ ?_
  exact ⟨hz, its', _, hv, q⟩
theorem Inv.lnew {its : List Value} {t' : Nat} (I : Inv X pins σ H s) (hv : Vals ys its) (hz : ys.length ≤ sizeLine) :
    Inv X pins σ (upd H s.heap.objs.size (.lst ys)) { s with heap := s.heap.push { cls := .type "list", data := .seq its.toArray }, toks := t' } :=
  I.laid (fun _ _ q => Heap.get?_push_of_some _ q) (Nat.le_refl _) ⟨hz, its, 0, hv, Heap.get?_push_size _ rfl⟩
theorem Inv.fresh (I : Inv X pins σ H s) : H s.heap.objs.size = none := I.hok.fresh (Nat.le_refl _)
theorem Inv.lstM (I : Inv X pins σ H s) (hH : H l = some (.lst xs)) : xs.length ≤ sizeLine ∧ ∃ (its : List Value) (n : Nat), Vals xs its ∧ xs.length = its.length ∧ s.heap.get? l = some { cls := .type "list", data := .seq its.toArray n } := by
  obtain ⟨z, its, n, r, e⟩ := I.hok l _ hH
  exact ⟨z, its, n, r, r.length, e⟩
theorem notLongL {n : Nat} (h : n ≤ sizeLine) : Builtin.List.listTooLong n = false := by
  unfold Builtin.List.listTooLong
  exact decide_eq_false (by omega)
end
section
variable {X : Cx}
/-! ### methods -/
def rAppend : V → List V → Hp → VK → Prop := fun x vs H Q => ∃ l xs y, x = .ref l ∧ vs = [y] ∧ H l = some (.lst xs) ∧ xs.length < sizeLine ∧ Q .non (upd H l (.lst (xs ++ [y])))
theorem mt_append : MtM X "list.append" rAppend := by
  intro pins s σ H x vs v us Q I rx rv h
  obtain ⟨l, xs, y, rfl, rfl, hH, hz, q⟩ := h
  cases rx
  obtain ⟨u, rfl, ru⟩ := rv.one
  obtain ⟨z, its, n, r, hl, e⟩ := I.lstM hH
  refine call_meets F.slot_list_append ⟨_, e, rfl⟩ F.entry_list_append (F.args_list_append_2 _ _) (PySem.list_append l its.toArray n u (by rw [List.size_toArray]; omega)) ⟨e, ?_⟩
  refine ⟨.non, _, I.lset (its' := its ++ [u]) hH e (by simp) (r.append (.cons ru .nil)) ?_, rfl, q⟩
  rw [List.length_append, List.length_singleton]
  omega
def rExtend : V → List V → Hp → VK → Prop := fun x vs H Q => ∃ l b xs zs, x = .ref l ∧ vs = [.ref b] ∧ H l = some (.lst xs) ∧ H b = some (.lst zs) ∧ xs.length + zs.length ≤ sizeLine ∧ Q .non (upd H l (.lst (xs ++ zs)))
theorem mt_extend : MtM X "list.extend" rExtend := by
  intro pins s σ H x vs v us Q I rx rv h
  obtain ⟨l, b, xs, zs, rfl, rfl, hH, hB, hz, q⟩ := h
  cases rx
  obtain ⟨u, rfl, ru⟩ := rv.one
  cases ru
  obtain ⟨z, its, n, r, hl, e⟩ := I.lstM hH
  obtain ⟨z2, its2, n2, r2, hl2, e2⟩ := I.lstM hB
  have hsz : its.toArray.size + its2.toArray.size ≤ sizeLine := by rw [List.size_toArray, List.size_toArray]; omega
  have hlong : ¬ (!its.toArray.isEmpty && Builtin.List.listTooLong (its.toArray.size + its2.toArray.size)) = true := by
    rw [notLongL hsz, Bool.and_false]
    exact Bool.false_ne_true
  refine call_meets F.slot_list_extend ⟨_, e, rfl⟩ F.entry_list_extend (F.args_list_extend_2 _ _)
    (AutoSeq1.list_extend_list_list_0 l its.toArray n b its2.toArray n2 hlong (by rw [List.size_toArray]; omega) (by omega)) ⟨e, e2, ?_⟩
  refine ⟨.non, _, I.lset (its' := its ++ its2) hH e (by simp) (r.append r2) ?_, rfl, q⟩
  rw [List.length_append]
  omega
def rPop : V → List V → Hp → VK → Prop := fun x vs H Q => ∃ l xs y, x = .ref l ∧ vs = [] ∧ H l = some (.lst xs) ∧ xs[xs.length - 1]? = some y ∧ Q y (upd H l (.lst xs.dropLast))
theorem mt_pop : MtM X "list.pop" rPop := by
  intro pins s σ H x vs v us Q I rx rv h
  obtain ⟨l, xs, y, rfl, rfl, hH, hy, q⟩ := h
  cases rx
  have hus := rv.zero
  subst hus
  obtain ⟨z, its, n, r, hl, e⟩ := I.lstM hH
  obtain ⟨u, hu, ru⟩ := r.get hy
  have hy' : its.toArray[its.toArray.size - 1]? = some u := by
    show its.toArray[its.length - 1]? = some u
    rw [← Array.getElem?_toList, ← hl]
    exact hu
  refine call_meets F.slot_list_pop ⟨_, e, rfl⟩ F.entry_list_pop (F.args_list_pop_1 _) (MeetsSeq.list_pop_last l its.toArray n u hy' (by rw [List.size_toArray]; omega)) ⟨e, ?_⟩
  refine ⟨y, _, I.lset (its' := its.dropLast) hH e ?_ r.dropLast ?_, ru, q⟩
  · show its.toArray.eraseIdxIfInBounds (its.toArray.size - 1) = its.dropLast.toArray
    rw [List.size_toArray, List.eraseIdxIfInBounds_toArray, erase_last]
  · rw [List.length_dropLast]
    omega
def rPopAt : V → List V → Hp → VK → Prop := fun x vs H Q => ∃ l xs i k y, x = .ref l ∧ vs = [.int i] ∧ H l = some (.lst xs) ∧ -(2 ^ 63) ≤ i ∧ i < 2 ^ 63 ∧ seqIndex? i xs.length = some k ∧ xs[k]? = some y ∧ Q y (upd H l (.lst (xs.eraseIdx k)))
theorem mt_popAt : MtM X "list.pop" rPopAt := by
  intro pins s σ H x vs v us Q I rx rv h
  obtain ⟨l, xs, i, k, y, rfl, rfl, hH, h1, h2, hk, hy, q⟩ := h
  cases rx
  obtain ⟨u, rfl, ru⟩ := rv.one
  obtain ⟨t, rfl⟩ := ru
  obtain ⟨z, its, n, r, hl, e⟩ := I.lstM hH
  obtain ⟨w, hw, rw'⟩ := r.get hy
  refine call_meets F.slot_list_pop ⟨_, e, rfl⟩ F.entry_list_pop (F.args_list_pop_2 _ _)
    (MeetsSeq.list_pop_at l its.toArray n i t k w (fitsIndex_both h1 h2) (by rw [List.size_toArray, ← hl]; exact hk) (by rw [← Array.getElem?_toList]; exact hw) (by rw [List.size_toArray]; omega)) ⟨e, ?_⟩
  refine ⟨y, _, I.lset (its' := its.eraseIdx k) hH e ?_ (r.eraseIdx k) ?_, rw', q⟩
  · show its.toArray.eraseIdxIfInBounds k = (its.eraseIdx k).toArray
    rw [List.eraseIdxIfInBounds_toArray]
  · have := len_erase xs k
    omega
def rReverse : V → List V → Hp → VK → Prop := fun x vs H Q => ∃ l xs, x = .ref l ∧ vs = [] ∧ H l = some (.lst xs) ∧ Q .non (upd H l (.lst xs.reverse))
theorem mt_reverse : MtM X "list.reverse" rReverse := by
  intro pins s σ H x vs v us Q I rx rv h
  obtain ⟨l, xs, rfl, rfl, hH, q⟩ := h
  cases rx
  have hus := rv.zero
  subst hus
  obtain ⟨z, its, n, r, hl, e⟩ := I.lstM hH
  refine call_meets F.slot_list_reverse ⟨_, e, rfl⟩ F.entry_list_reverse (F.args_list_reverse_1 _) (AutoSeq1.list_reverse_list_0 l its.toArray n (by rw [List.size_toArray]; omega)) ⟨e, ?_⟩
  refine ⟨.non, _, I.lset (its' := its.reverse) hH e (by simp) r.reverse ?_, rfl, q⟩
  rw [List.length_reverse]
  omega
def rClear : V → List V → Hp → VK → Prop := fun x vs H Q => ∃ l xs, x = .ref l ∧ vs = [] ∧ H l = some (.lst xs) ∧ Q .non (upd H l (.lst []))
theorem mt_clear : MtM X "list.clear" rClear := by
  intro pins s σ H x vs v us Q I rx rv h
  obtain ⟨l, xs, rfl, rfl, hH, q⟩ := h
  cases rx
  have hus := rv.zero
  subst hus
  obtain ⟨z, its, n, r, hl, e⟩ := I.lstM hH
  refine call_meets F.slot_list_clear ⟨_, e, rfl⟩ F.entry_list_clear (F.args_list_clear_1 _) (AutoSeq1.list_clear_list_0 l its.toArray n (by rw [List.size_toArray]; omega)) ⟨e, ?_⟩
  exact ⟨.non, _, I.lset (its' := []) (ys := []) hH e rfl .nil (Nat.zero_le _), rfl, q⟩
/-! ### list + list, list += list, list * int -/
def rCat : R2 := fun x y H Q => ∃ l b xs zs, x = .ref l ∧ y = .ref b ∧ H l = some (.lst xs) ∧ H b = some (.lst zs) ∧ xs.length + zs.length ≤ sizeLine ∧ ∀ p, H p = none → Q (.ref p) (upd H p (.lst (xs ++ zs)))
theorem op_cat : OpR X (binaryOp .Add) rCat := by
  intro pins s σ H x y v u Q I rx ry h
  obtain ⟨l, b, xs, zs, rfl, rfl, hH, hB, hz, q⟩ := h
  cases rx
  cases ry
  obtain ⟨z, its, n, r, hl, e⟩ := I.lstM hH
  obtain ⟨z2, its2, n2, r2, hl2, e2⟩ := I.lstM hB
  refine PySem.P.add_list e e2 ?_ (by rw [List.size_toArray, List.size_toArray]; omega)
  have ea : its.toArray ++ its2.toArray = (its ++ its2).toArray := by simp
  rw [ea]
  exact ⟨.ref _, _, I.lnew (t' := s.toks) (r.append r2) (by rw [List.length_append]; omega), rfl, q _ I.fresh⟩
/-- a list times an int (a negative one is nothing) -/
def rRep : R2 := fun x y H Q => ∃ l k xs, x = .ref l ∧ y = .int k ∧ H l = some (.lst xs) ∧ -(2 ^ 63) ≤ k ∧ k < 2 ^ 63 ∧ xs.length * k.toNat ≤ sizeLine ∧
  ∀ p, H p = none → Q (.ref p) (upd H p (.lst (List.replicate k.toNat xs).flatten))
theorem len_rep {α : Type} (xs : List α) (k : Nat) : (List.replicate k xs).flatten.length = k * xs.length := by
  induction k with
  | zero => simp
  | succ k ih => rw [List.replicate_succ, List.flatten_cons, List.length_append, ih, Nat.succ_mul, Nat.add_comm]
theorem op_rep : OpR X (binaryOp .Mult) rRep := by
  intro pins s σ H x y v u Q I rx ry h
  obtain ⟨l, k, xs, rfl, rfl, hH, h1, h2, hz, q⟩ := h
  cases rx
  obtain ⟨t, rfl⟩ := ry
  obtain ⟨z, its, n, r, hl, e⟩ := I.lstM hH
  have hlen : its.toArray.size * k.toNat ≤ sizeLine := by rw [List.size_toArray, ← hl]; exact hz
  have hcap : ¬ its.toArray.size * k.toNat > (2 ^ 63 - 1) / 8 := by
    have : (sizeLine : Nat) ≤ (2 ^ 63 - 1) / 8 := by decide
    omega
  have hfit : ¬ (!Builtin.List.listFitsIndex k) = true := by
    rw [fitsIndex_both h1 h2]
    exact Bool.false_ne_true
  have hlong : ¬ Builtin.List.listTooLong (its.toArray.size * k.toNat) = true := by
    rw [notLongL hlen]
    exact Bool.false_ne_true
  have hnew : List.foldl (fun x1 x2 => x1 ++ x2) #[] (List.replicate (if its.toArray.isEmpty = true then 0 else k.toNat) its.toArray) = (List.replicate k.toNat its).flatten.toArray := by
    have f0 : ∀ m : Nat, List.foldl (fun x1 x2 => x1 ++ x2) #[] (List.replicate m its.toArray) = (List.replicate m its).flatten.toArray := fun m => by
      have := foldl_rep its m []
      rw [List.nil_append] at this
      exact this
    rw [f0]
    cases its with
    | nil => simp
    | cons a r' => rw [if_neg (by simp)]
  refine wpAny_binaryOp_repeat_ref (T := "list") (U := "int") (by decide) ⟨_, e, rfl⟩ (fun s' => typeIs_int s' k t) noFill_list_mul F.fills_int_mul F.slot_int_rmul repeat_list F.slot_int_index.lookup
    (call_meets F.slot_int_rmul (typeIs_int s k t) F.entry_int_rmul (F.args_int_rmul_2 _ _) (int___rmul___int_list k t l its.toArray n)
      ⟨e, rfl, ⟨_, e, rfl⟩, call_meets F.slot_list_mul ⟨_, e, rfl⟩ F.entry_list_mul (F.args_list_mul_2 _ _) (AutoListH.list___mul___list_int_3 l its.toArray n k t hfit hcap hlong) ⟨e, ?_⟩⟩)
  rw [hnew]
  exact ⟨.ref _, _, I.lnew (t' := s.toks) (r.rep k.toNat) (by rw [len_rep, Nat.mul_comm]; exact hz), rfl, q _ I.fresh⟩
/-! ### del xs[i] -/
theorem del_list {pins : List (Addr × Obj)} {s : Shared} {σ : St} {H : Hp} {l : Addr} {xs : List V} {i : Int} {t : Tok} {k : Nat} {Q : Unit → Shared → Prop} (I : Inv X pins σ H s) (hH : H l = some (.lst xs))
    (h1 : -(2 ^ 63) ≤ i) (h2 : i < 2 ^ 63) (hk : seqIndex? i xs.length = some k) (h : ∀ s', Inv X pins σ (upd H l (.lst (xs.eraseIdx k))) s' → Q () s') :
    wpAny (model X.prog X.w) X.A (delItem (.ref l) (.int i t)) Q X.xe s := by
  obtain ⟨z, its, n, r, hl, e⟩ := I.lstM hH
  refine PySem.P.delItem_list (k := k) e (fitsIndex_both h1 h2) (by rw [List.size_toArray, ← hl]; exact hk) (h _ ?_) (by rw [List.size_toArray]; omega)
  refine I.lset (its' := its.eraseIdx k) (t' := s.toks) hH e ?_ (r.eraseIdx k) ?_
  · show its.toArray.eraseIdxIfInBounds k = (its.eraseIdx k).toArray
    rw [List.eraseIdxIfInBounds_toArray]
  · have := len_erase xs k
    omega
end
/-! ### xs[a:b] = ys -/
section
variable {prog : Program} {w : World} {A : Around} {E : Value → Shared → Prop} {s : Shared}
theorem splice_eq (its its2 : List Value) (a c : Nat) : its.toArray.extract 0 a ++ its2.toArray ++ its.toArray.extract c its.toArray.size = (its.take a ++ its2 ++ its.drop c).toArray := by
  apply Array.toList_inj.mp
  first
    | (simp
       exact List.take_of_length_le (by simp))
    | simp [List.take_of_length_le]
    | simp
theorem bounds_run {a c n : Nat} (hac : a ≤ c) (hc : c ≤ n) : sliceBounds (some (a : Int)) (some (c : Int)) none n = ((a : Int), (c : Int), 1) := by
  simp only [sliceBounds, Option.getD_none]
  have h1 : ¬ ((a : Int) < 0) := by omega
  have h2 : ¬ ((c : Int) < 0) := by omega
  simp only [h1, h2, if_false, show (1 : Int) > 0 by decide, if_true]
  congr 1
  · omega
  · congr 1; omega
set_option maxRecDepth 100000 in
/-- list.__setitem__ with a slice of step one and another list -/
theorem setItem_slice {l b sl : Addr} {items new : Array Value} {n n2 : Nat} {vl vu : Value} {a c : Nat} {Q : Unit → Shared → Prop}
    (e : s.heap.get? l = some { cls := .type "list", data := .seq items n }) (e2 : s.heap.get? b = some { cls := .type "list", data := .seq new n2 }) (hne : l ≠ b)
    (hs : s.heap.IsSliceOf sl vl vu .none) (pl : IsPart vl (some (a : Int))) (pu : IsPart vu (some (c : Int))) (hac : a ≤ c) (hc : c ≤ items.size)
    (hsz : items.size + new.size ≤ sizeLine) (h : Q () { s with heap := s.heap.update l (Obj.mapSeq fun xs => xs.extract 0 a ++ new ++ xs.extract c xs.size) }) :
    wpAny (model prog w) A (setItem (.ref l) (.ref sl) (.ref b)) Q E s := by
  have hl : s.heap.IsList l items := PySem.IsL.isList e
  have hb : s.heap.IsList b new := PySem.IsL.isList e2
  obtain ⟨os, hos, hcs, hds⟩ := id hs
  have hTs : s.TypeIs (.ref sl) "slice" := ⟨os, hos, hcs⟩
  have hstep : ¬ ((rawPart none == rawInt 0) = true) := Bool.false_ne_true
  have hsame : Builtin.List.listSameRef (.ref l) (.ref b) = false := by
    unfold Builtin.List.listSameRef
    exact beq_eq_false_iff_ne.mpr hne
  have hmax : (max (a : Int) (c : Int)).toNat = c := by omega
  have hz' : ((fun xs : Array Value => xs.extract 0 a ++ new ++ xs.extract c xs.size) items).size ≤ sizeLine + 1 := by
    simp only [Array.size_append, Array.size_extract]
    omega
  unfold setItem
  try with_reducible refine wpAny_holding ?_
  first | refine wpAny_bind (wpAny_pure ?_) | skip
  refine wpAny_bind (wpAny_sequenceKey hl.typeIs (by decide) ?_)
  refine wpAny_bind (wpAny_callSpecial?_slot (name := Str.ofString "__setitem__") hl.typeIs slot_list_setitem
    (wpAny_call_entry slot_list_setitem hl.typeIs entry_list_setitem ?_ (args_list_setitem _ _ _)))
  show wpAny _ _ (Builtin.List.listSubscript? (.ref sl) >>= _) _ _ s
  refine wpAny_bind ?_
  unfold Builtin.List.listSubscript?
  refine wpAny_bind (wpAny_specialOf hTs slice_no_index ?_)
  simp only [Option.isNone_none, if_true]
  refine wpAny_pure ?_
  show wpAny _ _ (typeOf (.ref sl) >>= _) _ _ s
  refine wpAny_bind (wpAny_typeOf hTs ?_)
  first
    | rw [if_neg (by decide)]
    | refine PySem.W.KFB.if_not (by decide) ?_
  rw [listSliceParts_eq]
  refine wpAny_bind (wpAny_bind (wpAny_field hos hds (x := .none) rfl (wpAny_bind (wpAny_listPart .none ?_))))
  rw [if_neg hstep]
  refine wpAny_bind (wpAny_field hos hds (x := vl) rfl (wpAny_bind (wpAny_listPart pl ?_)))
  refine wpAny_bind (wpAny_field hos hds (x := vu) rfl (wpAny_bind (wpAny_listPart pu (wpAny_pure ?_))))
  first
    | simp only [hsame, Bool.false_eq_true, if_false]
    | refine PySem.W.KFB.if_not hsame ?_
    | (dsimp only
       rw [if_neg (by rw [hsame]; exact Bool.false_ne_true)])
  refine wpAny_bind (m := Builtin.List.listAllItems (.ref b) "must assign iterable to extended slice") ?_
  unfold Builtin.List.listAllItems
  refine wpAny_bind (wpAny_typeOf hb.typeIs ?_)
  first
    | refine PySem.W.KFB.if_so (by decide) ?_
    | rw [if_pos (by decide)]
    | simp only [beq_self_eq_true, Bool.true_or, if_true]
  unfold Builtin.List.listItems
  refine wpAny_bind (wpAny_seqItems e2 rfl (wpAny_pure ?_))
  refine wpAny_bind (wpAny_bind (wpAny_seqItems e rfl (wpAny_pure ?_)))
  refine wpAny_bind (wpAny_of_eq ((sliceIndices_raw (some (a : Int)) (some (c : Int)) none items.size (by simp)).trans (congrArg (pure : Int × Int × Int → Sem (Int × Int × Int)) (bounds_run hac hc))) ?_)
  show wpAny _ _ (if ((1 : Int) == 1) = true then _ else _) _ _ s
  rw [if_pos (by decide)]
  refine wpAny_bind (wpAny_rule ?_)
  first
    | simp only [notLongL hsz, Bool.false_eq_true, if_false]
    | refine PySem.W.KFB.if_not (notLongL hsz) ?_
  first | refine wpAny_bind (wpAny_pure ?_) | skip
  show wpAny _ _ (updateSeq l (fun xs => xs.extract 0 ((a : Int)).toNat ++ new ++ xs.extract (max (a : Int) (c : Int)).toNat xs.size) >>= _) _ _ s
  rw [hmax, Int.toNat_natCast]
  refine wpAny_bind (wpAny_updateSeq (hz := Nat.le_trans (Nat.le_add_right _ _) hsz) (_hz' := hz') e rfl ?_)
  refine wpAny_bind (wpAny_letGo ?_)
  first
    | exact wpAny_bind (wpAny_pure (wpAny_pure ⟨.none, rfl, wpAny_pure h⟩))
    | exact wpAny_pure ⟨.none, rfl, wpAny_pure h⟩
end
section
variable {X : Cx}
/-- xs[a:c] = ys of another list, at the value level: sl is the slice object that was just made -/
theorem set_slice {pins : List (Addr × Obj)} {s : Shared} {σ : St} {H : Hp} {l b sl : Addr} {xs ys : List V} {a c : Int} {vl vu : Value} {Q : Unit → Shared → Prop} (I : Inv X pins σ H s)
    (hH : H l = some (.lst xs)) (hB : H b = some (.lst ys)) (hne : l ≠ b) (hs : s.heap.IsSliceOf sl vl vu .none) (ra : RelV (.int a) vl) (rc : RelV (.int c) vu) (h0 : 0 ≤ a) (hac : a ≤ c) (hc : c ≤ xs.length)
    (hz : xs.length + ys.length ≤ sizeLine) (h : ∀ s', Inv X pins σ (upd H l (.lst (xs.take a.toNat ++ ys ++ xs.drop c.toNat))) s' → Q () s') :
    wpAny (model X.prog X.w) X.A (setItem (.ref l) (.ref sl) (.ref b)) Q X.xe s := by
  obtain ⟨ta, rfl⟩ := ra
  obtain ⟨tc, rfl⟩ := rc
  obtain ⟨z, its, n, r, hl, e⟩ := I.lstM hH
  obtain ⟨z2, its2, n2, r2, hl2, e2⟩ := I.lstM hB
  obtain ⟨a', rfl⟩ := Int.eq_ofNat_of_zero_le h0
  obtain ⟨c', rfl⟩ := Int.eq_ofNat_of_zero_le (Int.le_trans h0 hac)
  simp only [Int.toNat_natCast] at h
  refine setItem_slice (a := a') (c := c') e e2 hne hs (.int _ _) (.int _ _) (by omega) (by rw [List.size_toArray]; omega) (by rw [List.size_toArray, List.size_toArray]; omega) (h _ ?_)
  refine I.lset (its' := its.take a' ++ its2 ++ its.drop c') (t' := s.toks) hH e ?_ (Vals.append (Vals.append (r.take _) r2) (r.drop _)) ?_
  · exact splice_eq its its2 a' c'
  · rw [List.length_append, List.length_append, List.length_take, List.length_drop]
    omega
end
end L2
namespace Att
open PySem PySem.W PySem.Calls PyProof.Rows
/-! ### the script -/
theorem ints_of_wellAll {P : Params} {h : Heap} : ∀ (ns : List Int) (vs : List Value), WellAll P h vs (ns.map WData.int) → IntsAre vs ns := by
  intro ns
  induction ns with
  | nil =>
    intro vs w
    rw [List.map_nil] at w
    cases w
    exact .nil
  | cons n ns ih =>
    intro vs w
    rw [List.map_cons] at w
    cases w with
    | cons a b =>
      cases a
      exact .cons _ _ (ih _ b)
theorem script_of {l : OpenLaw} {n : Nat} (hn : l.most = some n) {P : Params} {h : Heap} {args : List WData} {vals : List Value}
    (hpre : l.row.toRowW.claim.pre args = true) (hwl : WellAll P h vals args) :
    ∃ a vs ns, vals = [Value.ref a] ∧ args = [WData.list (ns.map WData.int)] ∧ h.get? a = some { cls := .type "list", data := .seq vs.toArray } ∧ IntsAre vs ns ∧ ns.length ≤ n := by
  have hsh : WShape.hasAll [] args [.list .int] = true := (pre_splitW hpre).1
  have hc : l.pre.holds [] { args := args } = true := (pre_splitW hpre).2
  obtain ⟨d, r, rfl, h1, h2⟩ := hasAllW_cons hsh
  obtain rfl := hasAllW_nil h2
  obtain ⟨xs, rfl, h3⟩ := hasW_list h1
  obtain ⟨ns, rfl⟩ := items_int h3
  have hlen : ns.length ≤ n := by
    unfold OpenLaw.pre at hc
    have h4 : (WTm.not (.lt (.lit (.int (n : Int))) (.len (.arg 0)))).holds [] { args := [.list (ns.map .int)] } = true := by
      have h4 := (holds_andW hc).1
      rw [hn] at h4
      exact h4
    have h5 := condW_of h4 (w_not (w_lt w_lit (w_len_list (w_arg rfl))))
    rw [List.length_map] at h5
    refine Nat.le_of_not_lt fun q => ?_
    have q' : (n : Int) < ((ns.length : Nat) : Int) := by omega
    first
      | (rw [decide_eq_true q'] at h5; exact absurd h5 (by decide))
      | (simp at h5; omega)
  cases hwl with
  | cons w1 w2 =>
    cases w2
    cases w1 with
    | list ho hall => exact ⟨_, _, ns, rfl, rfl, ho, ints_of_wellAll ns _ hall, hlen⟩
theorem post_true (l : OpenLaw) (args : List WData) : l.row.toRowW.claim.post args (.bool true) args = true :=
  postW_of (r := l.row.toRowW) (X := (true == true))
    (show WShape.has [] (.bool true) .bool = true by first | rfl | decide | simp [WShape.has, WShape.arms, WShape.armsAll])
    (show (WTm.eq .res (.lit (.bool true))).value [] { args := args, res := some (.bool true), after := args } = some (.bool (true == true)) from w_eq_bool (w_res rfl) w_lit) rfl
/-! ### the attachment: holds_open's last premise (the goal 'hc' behind k_head) from a wpAny of the law's body -/
theorem attach {l : OpenLaw} {n : Nat} {q : Program} {loose : List Str} {XP : (Str → Option Value) → Heap → Prop} {YP : World → Heap → Prop} {d : DefRec} {x : Str}
    (hn : l.most = some n) (hdf : d.params.defaults = [])
    (hbind : ∀ pm cd doc v : Value, bindArgs (docDef d.name d.params d.body d.scope pm cd doc) ⟨[v], []⟩ = pure [(x, v)])
    (hx : d.scope.names.lookup x = some .local ∨ d.scope.names.lookup x = some .cell)
    (hk : d.scope.kind = .function) (hco : d.scope.isCoroutine = false) (hgen : d.scope.isGenerator = false)
    (body : ∀ (w : World) (s₀ s₁ s : Shared) (mg mb : Str → Option Value) (fa : Addr) (o : Obj) (pm cd doc : Value) (a : Addr) (vs : List Value) (ns : List Int),
      Ground q loose [] XP w s₀ mg mb s₁.heap → YP w s₁.heap →
      s₁.heap.get? fa = some o → o.data = .func (docDef d.name d.params d.body d.scope pm cd doc) → s₁.heap.CodeRec cd d.name → mg d.name = some (.ref fa) →
      s₁.heap.get? a = some { cls := .type "list", data := .seq vs.toArray } → IntsAre vs ns → ns.length ≤ n →
      s.gens = #[] → s.os = s₁.os →
      Fr s₁.heap s₁.heap.objs.size s.heap (bindL (envOfC d.name d.scope s₁.heap.objs.size fa cd).kindOf [(x, .ref a)] fun _ => none) →
      Cl s₁.heap.objs.size (cellsFrom (s₁.heap.objs.size + 1) d.scope.names []) s.heap (bindC (envOfC d.name d.scope s₁.heap.objs.size fa cd).kindOf [(x, .ref a)] fun _ => none) →
      wpAny (model l.prog w) (callerA.deeper (envOfC d.name d.scope s₁.heap.objs.size fa cd)) (execs d.body (envOfC d.name d.scope s₁.heap.objs.size fa cd))
        (fun f s' => f = .ret (.bool true) ∧ OldK s₁.heap s'.heap ∧ s'.os = s₁.os ∧ AllBare s'.gens) (fun _ _ => False) s) :
    WalkO q loose XP YP l.row.toRowW d [] (fun f vs => PySem.call f vs) := by
  intro w s₀ s₁ mg mb G Y fa o pm cd doc dV kV ho hd hcd hD hmg hg args vals as hpre hlay hrd hwl hlo
  obtain rfl : dV = .none := Dflts.none hD hdf
  obtain rfl : kV = .none := Dflts.noKw hD
  obtain ⟨a, vs, ns, rfl, rfl, hobj, hints, hlen⟩ := script_of hn hpre hwl
  refine enter_call ?_
  refine call_cells_ret (o := o) (by rw [depth_caller]; decide) ho (fd_plain hd) G.T.nolimit hcd (hbind pm cd doc (.ref a)) (fun y hy => ?_) (fun h₁ tk F X => ?_) hco hgen hk
  · obtain rfl : y = (x, Value.ref a) := List.mem_singleton.mp hy
    rcases hx with e | e
    · exact .inl e
    · exact .inr ⟨e, cellsFrom_some _ _ _ (.inl e)⟩
  · refine wpAny_mono (body w s₀ s₁ { s₁ with heap := h₁, toks := tk } mg mb fa o pm cd doc a vs ns G Y ho (fd_plain hd) hcd hmg hobj hints hlen hg rfl F X) (fun f s' hq => ?_) (fun _ _ hq => hq)
    obtain ⟨rfl, h2, h3, h4⟩ := hq
    exact ⟨.inl ⟨.bool true, .bool true, [], rfl, fun _ => rfl, .bool true, post_true l _, fun _ => ⟨List.Pairwise.nil, fun _ hm => (nomatch hm)⟩⟩, h2, h3, h4⟩
/-- the same from a codeAny of the CALL (for a layer whose function contracts speak of calls) -/
theorem attach_call {l : OpenLaw} {n : Nat} {q : Program} {loose : List Str} {XP : (Str → Option Value) → Heap → Prop} {YP : World → Heap → Prop} {d : DefRec}
    (hn : l.most = some n) (hdf : d.params.defaults = [])
    (call : ∀ (w : World) (s₀ s₁ : Shared) (mg mb : Str → Option Value) (fa : Addr) (o : Obj) (pm cd doc : Value) (a : Addr) (vs : List Value) (ns : List Int),
      Ground q loose [] XP w s₀ mg mb s₁.heap → YP w s₁.heap →
      s₁.heap.get? fa = some o → o.data = .func (docDef d.name d.params d.body d.scope pm cd doc) → s₁.heap.CodeRec cd d.name → mg d.name = some (.ref fa) →
      s₁.heap.get? a = some { cls := .type "list", data := .seq vs.toArray } → IntsAre vs ns → ns.length ≤ n → s₁.gens = #[] →
      codeAny (model l.prog w) callerA (.call (.ref fa) ⟨[.ref a], []⟩) (fun r s' => r = .ok (.ret (.bool true)) ∧ OldK s₁.heap s'.heap ∧ s'.os = s₁.os ∧ AllBare s'.gens) s₁) :
    WalkO q loose XP YP l.row.toRowW d [] (fun f vs => PySem.call f vs) := by
  intro w s₀ s₁ mg mb G Y fa o pm cd doc dV kV ho hd hcd hD hmg hg args vals as hpre hlay hrd hwl hlo
  obtain rfl : dV = .none := Dflts.none hD hdf
  obtain rfl : kV = .none := Dflts.noKw hD
  obtain ⟨a, vs, ns, rfl, rfl, hobj, hints, hlen⟩ := script_of hn hpre hwl
  refine enter_call (codeAny_mono (call w s₀ s₁ mg mb fa o pm cd doc a vs ns G Y ho (fd_plain hd) hcd hmg hobj hints hlen hg) fun r s' hq => ?_)
  obtain ⟨rfl, h2, h3, h4⟩ := hq
  exact ⟨.inl ⟨.bool true, .bool true, [], rfl, fun _ => rfl, .bool true, post_true l _, fun _ => ⟨List.Pairwise.nil, fun _ hm => (nomatch hm)⟩⟩, h2, h3, h4⟩
/-- the same where the top left finished generators (o_head chose holds_openN): nothing may have changed at all and no generator may be left -/
theorem attachN {l : OpenLaw} {n : Nat} {q : Program} {loose : List Str} {XP : (Str → Option Value) → Heap → Prop} {YP : World → Heap → Prop} {d : DefRec} {x : Str}
    (hn : l.most = some n) (hdf : d.params.defaults = [])
    (hbind : ∀ pm cd doc v : Value, bindArgs (docDef d.name d.params d.body d.scope pm cd doc) ⟨[v], []⟩ = pure [(x, v)])
    (hx : d.scope.names.lookup x = some .local ∨ d.scope.names.lookup x = some .cell)
    (hk : d.scope.kind = .function) (hco : d.scope.isCoroutine = false) (hgen : d.scope.isGenerator = false)
    (body : ∀ (w : World) (s₀ s₁ s : Shared) (mg mb : Str → Option Value) (fa : Addr) (o : Obj) (pm cd doc : Value) (a : Addr) (vs : List Value) (ns : List Int),
      Ground q loose [] XP w s₀ mg mb s₁.heap → YP w s₁.heap →
      s₁.heap.get? fa = some o → o.data = .func (docDef d.name d.params d.body d.scope pm cd doc) → s₁.heap.CodeRec cd d.name → mg d.name = some (.ref fa) →
      s₁.heap.get? a = some { cls := .type "list", data := .seq vs.toArray } → IntsAre vs ns → ns.length ≤ n →
      s.gens = #[] → s.os = s₁.os →
      Fr s₁.heap s₁.heap.objs.size s.heap (bindL (envOfC d.name d.scope s₁.heap.objs.size fa cd).kindOf [(x, .ref a)] fun _ => none) →
      Cl s₁.heap.objs.size (cellsFrom (s₁.heap.objs.size + 1) d.scope.names []) s.heap (bindC (envOfC d.name d.scope s₁.heap.objs.size fa cd).kindOf [(x, .ref a)] fun _ => none) →
      wpAny (model l.prog w) (callerA.deeper (envOfC d.name d.scope s₁.heap.objs.size fa cd)) (execs d.body (envOfC d.name d.scope s₁.heap.objs.size fa cd))
        (fun f s' => f = .ret (.bool true) ∧ (∀ b o, s₁.heap.get? b = some o → s'.heap.get? b = some o) ∧ s'.os = s₁.os ∧ s'.gens = #[]) (fun _ _ => False) s) :
    WalkN q loose XP YP l.row.toRowW d [] (fun f vs => PySem.call f vs) := by
  intro w s₀ s₁ mg mb G Y fa o pm cd doc dV kV ho hd hcd hD hmg hg args vals as hpre hlay hrd hwl hlo
  obtain rfl : dV = .none := Dflts.none hD hdf
  obtain rfl : kV = .none := Dflts.noKw hD
  obtain ⟨a, vs, ns, rfl, rfl, hobj, hints, hlen⟩ := script_of hn hpre hwl
  refine enter_callW ?_
  refine call_cells_ret (o := o) (by rw [depth_caller]; decide) ho (fd_plain hd) G.T.nolimit hcd (hbind pm cd doc (.ref a)) (fun y hy => ?_) (fun h₁ tk F X => ?_) hco hgen hk
  · obtain rfl : y = (x, Value.ref a) := List.mem_singleton.mp hy
    rcases hx with e | e
    · exact .inl e
    · exact .inr ⟨e, cellsFrom_some _ _ _ (.inl e)⟩
  · refine wpAny_mono (body w s₀ s₁ { s₁ with heap := h₁, toks := tk } mg mb fa o pm cd doc a vs ns G Y ho (fd_plain hd) hcd hmg hobj hints hlen hg rfl F X) (fun f s' hq => ?_) (fun _ _ hq => hq)
    obtain ⟨rfl, h2, h3, h4⟩ := hq
    exact ⟨.inl ⟨.bool true, .bool true, [], rfl, fun _ => rfl, .bool true, post_true l _, fun _ => ⟨List.Pairwise.nil, fun _ hm => (nomatch hm)⟩⟩, h2, h3, h4⟩
/-! ### rules over ANY heap (no ledger) from facts about the written part K: the library's own take a ledger (News) for what they write -/
section
variable {prog : Program} {w : World} {A : Around} {E : Value → Shared → Prop} {s : Shared} {K : Frag}
/-- a def of the module, or a method (qual 'C.m'), entered: the frame is the next address; cells behind it -/
theorem call_fn {R : Result → Shared → Prop} {name qual : Str} {params : Arguments} {body : List Stmt} {scope : Scope} {dV kV doc pm cdv ct oc : Value} {an od : Option Addr} {osl : Array (Option Value)} {f : Addr} {args : Args} {binds : List (Str × Value)}
    (X : K.In s.heap) (hlim : s.heap.NoLimit) (ho : K.lookup f = some ⟨oc, od, .func (fnOf name qual params body scope dV kV doc pm an cdv ct), osl⟩) (hcd : codeIn K cdv qual = true) (hroom : A.depth < recursionLimit)
    (hbind : BindsTo s (fnOf name qual params body scope dV kV doc pm an cdv ct) args binds)
    (hkind : (binds.all fun y => scope.names.lookup y.1 == some .local || scope.names.lookup y.1 == some .cell) = true)
    (h : ∀ s₁, InCallC s s.heap.objs.size (bindL (envOfC qual scope s.heap.objs.size f cdv).kindOf binds fun _ => none) (cellsFrom (s.heap.objs.size + 1) scope.names [])
        (bindC (envOfC qual scope s.heap.objs.size f cdv).kindOf binds fun _ => none) s₁ →
      wpAny (model prog w) (A.deeper (envOfC qual scope s.heap.objs.size f cdv)) (execs body (envOfC qual scope s.heap.objs.size f cdv))
        (fun fl s' => R (.ok (.ret (match fl with | .ret v => v | _ => .none))) s')
        (fun e s' => wpAny (model prog w) (A.deeper (envOfC qual scope s.heap.objs.size f cdv)) (leaving (envOfC qual scope s.heap.objs.size f cdv) e) (fun _ s'' => R (.error e) s'') (fun e' s'' => R (.error e') s'') s') s₁)
    (hco : scope.isCoroutine = false) (hgen : scope.isGenerator = false) (hk : scope.kind = .function) : codeAny (model prog w) A (.call (.ref f) args) R s := by
  refine codeAny_call_function hroom (X _ _ ho) rfl hco hgen rfl (codeRec_of X hcd) (hbind _ _ _ _ ?_)
  refine wpAny_newFunctionEnv_cells hk (kindsX hkind _) fun env he s₁ x => ?_
  subst he
  exact ⟨hlim.keeps x.toInCall.keep, codeAny_func (h s₁ x)⟩
/-- C(..): dict at size, instance at size + 1, then __init__ -/
theorem make_obj {R : Result → Shared → Prop} {C fI : Addr} {rest : List Value} {kw : List (Str × Value)}
    (X : K.In s.heap) (hm : makesIn K C = true) (hi : findIn K (.ref C) "__init__" = some (some (.ref fI))) (hf : isFn K (.ref fI) = true)
    (h : codeAny (model prog w) (A.under (.builtin "type.__call__" ⟨.ref C :: rest, kw⟩)) (.call (.ref fI) ⟨.ref (s.heap.objs.size + 1) :: rest, kw⟩) (InitBack (s.heap.objs.size + 1) R)
      { s with heap := (s.heap.push emptyDict).push (instObj C s.heap.objs.size) }) : codeAny (model prog w) A (.call (.ref C) ⟨rest, kw⟩) R s := by
  obtain ⟨hh, g, d, t, os⟩ := s
  exact make_core (makes_of X hm) (looks_findIn X hi) (fun self => bind_fn X self (beq_iff_eq.mp hf)) (.inl rfl) h
/-- x.name where the instance's dict holds the name and the class does not -/
theorem get_field {x C : Addr} {ox : Obj} {es : List DictEntry} {n : Nat} {name : Str} {expr : Bool} {v : Value} {Q : Value → Shared → Prop}
    (X : K.In s.heap) (I : PySem.W.InstAt s.heap x ox C (some (dictOf es n))) (hg : plainGet K C name = true) (hh : hasDictIn K C = true) (ha : findIn K (.ref C) name = some none)
    (hl : getL name es = some (some v)) (hv : handedIn v = true) (h : Q v { s with toks := s.toks + 1 }) : wpAny (model prog w) A (getAttr (.ref x) name expr) Q E s :=
  get_value X I (plainGet_of hg).1 (findObj_own hh ha rfl hl) hv h
/-- x.m(..): the method found in the class -/
theorem get_method {x C f : Addr} {ox : Obj} {es : List DictEntry} {n : Nat} {name : Str} {pl : Sem Bool} {Q : Value × List Value → Shared → Prop}
    (X : K.In s.heap) (I : PySem.W.InstAt s.heap x ox C (some (dictOf es n))) (hg : plainGet K C name = true) (hf : findIn K (.ref C) name = some (some (.ref f))) (ht : isFn K (.ref f) = true)
    (hl : getL name es = some none) (h : Q (.ref f, [.ref x]) s) : wpAny (model prog w) A (getMethod (.ref x) name pl) Q E s :=
  method_fn X I (plainGet_of hg).1 (plainGet_of hg).2 hf (beq_iff_eq.mp ht) (by show (lookIn name (dictOf es n)).map _ = _; rw [lookIn_dict, hl]; rfl) h
/-! the whole heap as the ledger: makes every rule that writes through a ledger a rule over any heap -/
def noObjs (h : Heap) : Heap := { h with objs := #[] }
theorem noObjs_get (h : Heap) (b : Addr) : (noObjs h).get? b = none := by
  cases e : (noObjs h).get? b with
  | none => rfl
  | some o => exact absurd (Heap.lt_size e) (Nat.not_lt_zero _)
def ledger (h : Heap) (L d : Addr) : List (Addr × Obj) := (List.range h.objs.size).filterMap fun a => if a = L ∨ a = d then none else (h.get? a).map fun o => (a, o)
theorem mem_ledger {h : Heap} {L d a : Addr} {o : Obj} : (a, o) ∈ ledger h L d ↔ a ≠ L ∧ a ≠ d ∧ h.get? a = some o := by
  unfold ledger
  rw [List.mem_filterMap]
  constructor
  · rintro ⟨b, _, e⟩
    split at e
    · cases e
    · rename_i hb
      obtain ⟨o', ho, e'⟩ := Option.map_eq_some_iff.mp e
      cases e'
      exact ⟨fun q => hb (.inl q), fun q => hb (.inr q), ho⟩
  · rintro ⟨n1, n2, ho⟩
    refine ⟨a, List.mem_range.mpr (Heap.lt_size ho), ?_⟩
    rw [if_neg (show ¬ (a = L ∨ a = d) from fun q => q.elim n1 n2), ho] <;> rfl
theorem news_ledger {h : Heap} {L d : Addr} {od : Obj} (hne : d ≠ L) (ho : h.get? d = some od) : News (noObjs h) L h ([] ++ (d, od) :: ledger h L d) := by
  rintro ⟨a, o⟩ hp
  rcases List.mem_cons.mp hp with e | hp
  · cases e
    exact ⟨ho, hne, noObjs_get _ _⟩
  · obtain ⟨n1, n2, e⟩ := mem_ledger.mp hp
    exact ⟨e, n1, noObjs_get _ _⟩
theorem fr_all {h : Heap} {L : Addr} {m : Str → Option Value} (n : h.Ns L m) : Fr (noObjs h) L h m :=
  ⟨n, fun b o e => (by rw [noObjs_get] at e; cases e), Nat.zero_le _⟩
/-- Upd of the head entry (for append_K, setItem_K ..) -/
theorem upd_ledger {h : Heap} {L d : Addr} {o o' : Obj} : Upd d o o' ((d, o) :: ledger h L d) ((d, o') :: ledger h L d) :=
  .head fun ⟨_, _⟩ hp => (mem_ledger.mp hp).2.1
/-- x.name = v over any heap: L is any namespace of the heap (the frame's, say): its map stays, its object is not told; all else but the dict stays -/
theorem set_field {x C dx L : Addr} {ox : Obj} {m : Str → Option Value} {es es' : List DictEntry} {n n' : Nat} {name : Str} {v : Value} {Q : Unit → Shared → Prop}
    (X : K.In s.heap) (I : PySem.W.InstAt s.heap x ox C (some (dictOf es n))) (hd : ox.dict = some dx) (hL : s.heap.Ns L m) (hne : dx ≠ L)
    (hs : findIn K (.ref C) "__setattr__" = some (some (.builtin "object.__setattr__"))) (hp : plainOver K C = true) (ht : takerIn K C name = some none) (hh : hasDictIn K C = true) (hl : (getL name es).isSome = true)
    (e : (putL name (PyData.keyHash w.params name) (.str name (s.toks + 1)) v es, putN name es n) = (es', n')) (hz : es'.length ≤ 1000)
    (h : ∀ h' : Heap, h'.Ns L m → h'.get? dx = some (dictOf es' n') → (∀ b o, b ≠ dx → b ≠ L → s.heap.get? b = some o → h'.get? b = some o) → Q () { s with heap := h', toks := s.toks + 2 }) :
    wpAny (model prog w) A (setAttr (.ref x) name v) Q E s := by
  obtain ⟨e1, e2⟩ := Prod.mk.inj e
  have hdx : s.heap.get? dx = some (dictOf es n) := by
    have := I.dict
    rw [hd] at this
    exact this
  refine set_plain X I hs (osa_dict (s := { s with toks := s.toks + 1 }) (h₀ := noObjs s.heap) (L := L) (m := m) (od := dictOf es n) (od' := dictOf es' n') (es := es') (n := n') (pre := []) (post := ledger s.heap L dx)
    (fr_all hL) (news_ledger hne hdx) X I hd hp ht hh hl (fun _ q => nomatch q) (fun ⟨_, _⟩ q => (mem_ledger.mp q).2.1) (by rw [putName_dict, e1, e2]) rfl hz fun h' F' N' => ?_)
  exact h h' F'.ns (N'.get (List.Mem.head _)) fun b o n1 n2 ho => N'.get (List.Mem.tail _ (mem_ledger.mpr ⟨n2, n1, ho⟩))
end
end Att
namespace L2
open PySem PySem.Spec PyProof.Rows
theorem vals_ints : ∀ {vs : List Value} {ns : List Int}, IntsAre vs ns → Vals (ns.map V.int) vs
  | _, _, .nil => .nil
  | _, _, .cons n t h => .cons ⟨t, rfl⟩ (vals_ints h)
/-- nothing is tracked but the script, known to the object (or it is an object of the module) -/
def Only (H : Hp) : Prop := ∀ b, H b = none ∨ ∃ o xs, H b = some (.frz o (.lst xs))
/-- THE HEAD: the law's promise, at the heap behind the top. F, the promise of the law's def, may use that base is part of the heap (so K.In base, base.Ns mainGlobals mg stand in Mod) -/
theorem law_call {P : Program} {w : World} {K : PySem.W.Frag} {mg mb : Str → Option Value} {CX : CXT} {k : Nat} {fa a : Addr} {fd : FuncData} {x : Str} {sp : Sp} {s₁ : Shared} {vs : List Value} {ns : List Int}
    (KX : K.In s₁.heap) (hns : s₁.heap.Ns mainGlobals mg) (hb : s₁.heap.Ns builtinsNs mb) (hbb : ∀ x : Str, x ≠ "__name__" → mb x = bootBuiltins x) (hlim : s₁.heap.NoLimit) (hg : s₁.gens = #[])
    (ha : s₁.heap.get? a = some { cls := .type "list", data := .seq vs.toArray }) (hi : IntsAre vs ns) (hl : ns.length ≤ sizeLine) (hr : Room k callerA)
    (F : ∀ base : Heap, K.In base → base.Ns mainGlobals mg → FnOk P w K mg base CX k fa fd [x] sp) (hbind : ∀ (s : Shared) (u : Value), BindsTo s fd ⟨[u], []⟩ [(x, u)])
    (hsp : ∀ H : Hp, Only H → SqL K H a (ns.map V.int) → sp [.ref a] H (fun v _ => v = .bl true) fun _ _ _ => False)
    (hCX : ∀ H e s', CX [] H s₁ (fun _ _ _ => False) e s' → False) :
    codeAny (model P w) callerA (.call (.ref fa) ⟨[.ref a], []⟩) (fun r s' => r = .ok (.ret (.bool true)) ∧ OldK s₁.heap s'.heap ∧ s'.os = s₁.os ∧ AllBare s'.gens) s₁ := by
  have rv := vals_ints hi
  have lenV := hi.length
  -- from an abstract heap in which nothing but the script may be tracked
  have core : ∀ H : Hp, Only H → SqL K H a (ns.map V.int) → HOk P w H s₁.heap → (∀ b, H b ≠ none → b = a) → (H a ≠ none → K.lookup a = none) →
      codeAny (model P w) callerA (.call (.ref fa) ⟨[.ref a], []⟩) (fun r s' => r = .ok (.ret (.bool true)) ∧ OldK s₁.heap s'.heap ∧ s'.os = s₁.os ∧ AllBare s'.gens) s₁ := by
    intro H hO hS hok hA hK
    have base_of : ∀ {b : Addr} {o : Obj}, s₁.heap.get? b = some o → H b = none → (hidT s₁.heap H).get? b = some o := fun e n => hidT_get e n
    have noA : ∀ {b : Addr} {o : Obj} {es : Array DictEntry} {ep : Nat}, s₁.heap.get? b = some o → o.data = .dict es ep → H b = none := fun {b o es ep} e d => by
      cases q : H b with
      | none => rfl
      | some u =>
        have e' : b = a := hA b (by rw [q]; simp)
        subst e'
        rw [ha] at e; cases e
        have d' : Data.seq vs.toArray _ = Data.dict es ep := d
        cases d'
    have nsK : ∀ {b : Addr} {m : Str → Option Value}, s₁.heap.Ns b m → (hidT s₁.heap H).Ns b m := fun {b m} ⟨o, es, ep, e, d, r⟩ => ⟨o, es, ep, base_of e (noA e d), d, r⟩
    have hKb : K.In (hidT s₁.heap H) := fun b o e => base_of (KX b o e) (by
      cases q : H b with
      | none => rfl
      | some u =>
        have e' : b = a := hA b (by rw [q]; simp)
        subst e'
        rw [hK (by rw [q]; simp)] at e; cases e)
    have hM : Mod K mg (hidT s₁.heap H) := ⟨hKb, nsK hns, ⟨mb, nsK hb, hbb⟩, let ⟨mc, h1, h2⟩ := hlim; ⟨mc, nsK h1, h2⟩⟩
    have e0 : Env0 P w K mg (hidT s₁.heap H) callerA [] s₁ H := ⟨rfl, hM, fun b o e => of_hidT e, Nat.le_of_eq (hidT_size _ _), trivial, fun b hb => absurd (show b ∈ ([] : List Addr) from hb) (by simp), hok, .of_eq hg⟩
    refine codeAny_mono ((F _ hKb (nsK hns)).run callerA [] s₁ H ⟨[.ref a], []⟩ [.ref a] [.ref a] _ _ hr e0 (hbind s₁ (.ref a)) (.cons rfl .nil) (hsp H hO hS)) fun r s' h => ?_
    cases r with
    | error e => exact (hCX H e s' h).elim
    | ok fl =>
      cases fl with
      | next => exact False.elim h
      | brk => exact False.elim h
      | cont => exact False.elim h
      | ret u =>
        obtain ⟨v, H', os, bare, un, hok', r', q⟩ := h
        have q' : v = .bl true := q
        subst q'
        obtain rfl : u = Value.bool true := r'
        refine ⟨rfl, OldK.of_keep fun b o e => ?_, os, bare⟩
        cases q : H b with
        | none => exact un.keep b o e q (by intro z; exact absurd (show b ∈ ([] : List Addr) from z) (by simp)) (by simp)
        | some u =>
          rcases hO b with z | ⟨ob, xs, z⟩
          · rw [q] at z; cases z
          · have z2 := un.frzs b ob _ z
            obtain ⟨e1, _⟩ := hok b _ z
            obtain ⟨e2, _⟩ := hok' b _ z2
            rw [e] at e1; cases e1
            exact e2
  cases hk : K.lookup a with
  | some o =>
    -- the script is one of the module's own objects
    have e := KX a o hk
    rw [ha] at e
    cases e
    refine core (fun _ => none) (fun _ => .inl rfl) (.inr ⟨_, vs.toArray, _, hk, rfl, rfl, rfl, by rw [List.size_toArray, lenV]; exact hl, by simpa using rv⟩) (fun b u z => by have z' : (none : Option HO) = some u := z; cases z') (fun b z => absurd rfl z) fun z => absurd rfl z
  | none =>
    refine core (fun b => if b = a then some (.frz { cls := .type "list", data := .seq vs.toArray } (.lst (ns.map V.int))) else none) (fun b => ?_) (.inl (.inr ⟨{ cls := .type "list", data := .seq vs.toArray }, if_pos rfl⟩)) (fun b u z => ?_) (fun b z => ?_) fun _ => hk
    · by_cases hb : b = a
      · exact .inr ⟨_, _, if_pos hb⟩
      · exact .inl (if_neg hb)
    · by_cases hb : b = a
      · have z' := (if_pos hb).symm.trans z
        cases z'
        subst hb
        exact ⟨ha, by rw [List.length_map]; exact hl, vs, _, rv, ha⟩
      · have z' := (if_neg hb).symm.trans z
        cases z'
    · by_cases hb : b = a
      · exact hb
      · exact absurd (if_neg hb) z
end L2
namespace L2
open PySem PySem.Spec PyProof.Rows
abbrev KOf {K : PySem.W.Frag} {h : Heap} (_ : K.In h) : PySem.W.Frag := K
/-- the goal that k_head leaves (case hc), from the law's promise. F gives the function object fd (K's own) once, then the promise over every base -/
theorem walk_of {l : PySem.W.OpenLaw} {n k : Nat} {q : Program} {loose : List Str} {XP : (Str → Option Value) → Heap → Prop} {YP : World → Heap → Prop} {d : DefRec} {K : Params → PySem.W.Frag} {CX : World → CXT} {sp : World → Sp} {x : Str}
    (hn : l.most = some n) (hn2 : n ≤ sizeLine) (hdf : d.params.defaults = []) (hr : Room k callerA)
    (hY : ∀ (w : World) (h : Heap), YP w h → (K w.params).In h)
    (F : ∀ (w : World) (mg : Str → Option Value) (fa : Addr) (h : Heap), (K w.params).In h → h.Ns mainGlobals mg → mg d.name = some (.ref fa) →
      ∃ fd : FuncData, (∀ (s : Shared) (u : Value), BindsTo s fd ⟨[u], []⟩ [(x, u)]) ∧
        ∀ base : Heap, (K w.params).In base → base.Ns mainGlobals mg → FnOk l.prog w (K w.params) mg base (CX w) k fa fd [x] (sp w))
    (hsp : ∀ (w : World) (H : Hp) (a : Addr) (ns : List Int), ns.length ≤ n → Only H → SqL (K w.params) H a (ns.map V.int) → sp w [.ref a] H (fun v _ => v = .bl true) fun _ _ _ => False)
    (hCX : ∀ (w : World) (H : Hp) (s : Shared) (e : Value) (s' : Shared), CX w [] H s (fun _ _ _ => False) e s' → False) :
    PySem.W.WalkO q loose XP YP l.row.toRowW d [] (fun f vs => PySem.call f vs) := by
  refine Att.attach_call hn hdf fun w s₀ s₁ mg mb fa o pm cd doc a vs ns G Y ho hd hcd hmg hobj hints hlen hg => ?_
  have KX := hY w _ Y
  obtain ⟨fd, hb, hF⟩ := F w mg fa _ KX G.T.g hmg
  exact law_call KX G.T.g G.T.b G.T.builtins G.T.nolimit hg hobj hints (Nat.le_trans hlen hn2) hr hF hb (fun H hO hS => hsp w H a ns hlen hO hS) fun H e s' => hCX w H s₁ e s'
/-- the same where the promise hangs on the written part alone: (sp := My.sp_law), no hole under a binder -/
theorem walk_ofK {l : PySem.W.OpenLaw} {n k : Nat} {q : Program} {loose : List Str} {XP : (Str → Option Value) → Heap → Prop} {YP : World → Heap → Prop} {d : DefRec} {K : Params → PySem.W.Frag} {CX : CXT} {sp : PySem.W.Frag → Sp} {x : Str}
    (hn : l.most = some n) (hn2 : n ≤ sizeLine) (hdf : d.params.defaults = []) (hr : Room k callerA)
    (hY : ∀ (w : World) (h : Heap), YP w h → (K w.params).In h)
    (F : ∀ (w : World) (mg : Str → Option Value) (fa : Addr) (h : Heap), (K w.params).In h → h.Ns mainGlobals mg → mg d.name = some (.ref fa) →
      ∃ fd : FuncData, (∀ (s : Shared) (u : Value), BindsTo s fd ⟨[u], []⟩ [(x, u)]) ∧
        ∀ base : Heap, (K w.params).In base → base.Ns mainGlobals mg → FnOk l.prog w (K w.params) mg base CX k fa fd [x] (sp (K w.params)))
    (hsp : ∀ (K : PySem.W.Frag) (H : Hp) (a : Addr) (ns : List Int), ns.length ≤ n → Only H → SqL K H a (ns.map V.int) → sp K [.ref a] H (fun v _ => v = .bl true) fun _ _ _ => False)
    (hCX : ∀ (H : Hp) (s : Shared) (e : Value) (s' : Shared), CX [] H s (fun _ _ _ => False) e s' → False) :
    PySem.W.WalkO q loose XP YP l.row.toRowW d [] (fun f vs => PySem.call f vs) :=
  walk_of (K := K) (CX := fun _ => CX) (sp := fun w => sp (K w.params)) hn hn2 hdf hr hY F (fun w H a ns h1 h2 h3 => hsp (K w.params) H a ns h1 h2 h3) fun _ H s e s' => hCX H s e s'
end L2
/- THE LAST THEOREM (shape; LID, My.* are yours):
   My.Adr: a structure of the addresses that your layer names (classes, functions); My.Txt K t: a structure (Prop) of the equations over K;
   My.txt_mk : {K} {implicit addresses ..} (e1 : nsIn K mainGlobals "law" = some (some (.ref f))) (e2 : K.lookup f = some ⟨oc, od, .func (fnOf "law" "law" params body scope dV kV doc pm an cdv ct), sl⟩) (e3 : codeIn K cdv "law" = true) .. : ∃ t, My.Txt K t
set_option maxRecDepth 100000 in
set_option maxHeartbeats 0 in
theorem PySem.Challenge.cw_LID_holds : PySem.Challenge.rw_LID.Holds := by
  w_on; o_law; k_head; (case hw => w_witness2)
  k_fill
  refine L2.walk_of (l := PySem.Challenge.rw_LID) (n := 63) (k := 40) (x := "script") (CX := fun w => ..) (sp := fun _ => My.sp_law) rfl (by decide) rfl ⟨rfl, by decide, by decide⟩ (fun w h Y => PySem.W.kIn_of Y) ?F ?S ?C
  case F =>
    intro w mg fa h KX G hmg
    have T : ∃ t, My.Txt (L2.KOf KX) t := by
      dsimp only [L2.KOf]                          -- K must stand as «<heap const> w.params» for k_is
      refine' My.txt_mk ?e1 ?e2 ?e3 ..
      (case e1 => PySem.W.k_is)                    -- in the order: a name -> its address -> its object -> its parts
      (case e2 => PySem.W.k_is)
      ..
    obtain ⟨t, T⟩ := T
    have e0 := hmg.symm.trans (PySem.W.mg_of KX G T.law)
    cases e0                                       -- fa is the law's own address
    exact ⟨_, fun s u => .of_eq rfl, fun base kb nb => My.law_fn T kb nb⟩     -- if «.of_eq rfl» comes too early: refine' ⟨_, ?b, fun base kb nb => My.law_fn T kb nb⟩; exact fun s u => .of_eq rfl
  case S => exact fun w H a ns hl hO hS => ..
  case C => exact ..
(the tactic k_is has no namespace: write k_is) -/
/-! SHORT WORDS over the layer: a def of the text, its body, what a loop and a test want. -/
namespace L2
open PySem PySem.Spec PyProof.Rows
/-! ### the text by places -/
/-- the j-th statement of a class's body -/
def inClass (s : Stmt) (j : Nat) : Stmt := match s with
  | .ClassDef _ _ _ body _ _ _ _ _ _ _ => body.getD j (.Pass ⟨0, 0, 0, 0⟩)
  | _ => .Pass ⟨0, 0, 0, 0⟩
def defArgs (s : Stmt) : Arguments := match s with
  | .FunctionDef _ a _ _ _ _ _ _ _ _ => a
  | _ => { posonlyargs := [], args := [], vararg := none, kwonlyargs := [], kw_defaults := [], kwarg := none, defaults := [] }
def defBody (s : Stmt) : List Stmt := match s with
  | .FunctionDef _ _ b _ _ _ _ _ _ _ => b
  | _ => []
def defScope (s : Stmt) : Scope := match s with
  | .FunctionDef _ _ _ _ _ _ sc _ _ _ => sc
  | _ => { kind := .function, names := [], isGenerator := false, isCoroutine := false }
/-! ### no exception leaves a def -/
abbrev CX0 : CXT := fun _ _ _ _ _ _ => False
abbrev E0 : XK := fun _ _ _ => False
theorem pass0 {X : Cx} : Passes CX0 X E0 := fun _ _ _ _ _ _ _ h => h.elim
/-! ### a def (or method) of the text as it stands behind the top -/
structure Fun (K : PySem.W.Frag) (x qual : Str) (st : Stmt) (f : Addr) (fd : FuncData) : Prop where
  ex : ∃ (oc : Value) (od : Option Addr) (kV doc pm : Value) (an : Option Addr) (cdv ct : Value) (osl : Array (Option Value)),
    fd = PySem.W.fnOf x qual (defArgs st) (defBody st) (defScope st) .none kV doc pm an cdv ct ∧ K.lookup f = some ⟨oc, od, .func fd, osl⟩ ∧ PySem.W.codeIn K cdv qual = true
  kp : PySem.W.keepIn K (.ref f) = true
section
variable {P : Program} {w : World} {K : PySem.W.Frag} {mg : Str → Option Value} {base : Heap}
/-- THE RULE for a def: its body as a term of rules, and the reading of that term -/
theorem Fun.ok {x qual : Str} {st : Stmt} {f : Addr} {fd : FuncData} {N ps : List Str} {k : Nat} {sp : Sp} (F : Fun K x qual st f fd) (S : FnScope N ps (defScope st)) (len : ∀ vs H Q E, sp vs H Q E → vs.length = ps.length)
    (hbody : ∀ (cdv : Value) (A : Around) (outer : List Env) (s : Shared) (H : Hp) (vs : List V) (Q : VK) (E : XK), Room k (A.deeper (envOfC qual (defScope st) s.heap.objs.size f cdv)) → sp vs H Q E →
      ∃ t, PSs (cxOf CX0 P w K mg base N qual (defScope st) f cdv A outer s H E).nox (defBody st) t ∧ t { nx := fun _ H' => Q .non H', rt := Q } (start N vs) H) : FnOk P w K mg base CX0 (k + 1) f fd ps sp := by
  obtain ⟨oc, od, kV, doc, pm, an, cdv, ct, osl, rfl, lk, hcd⟩ := F.ex
  refine fn_of lk hcd S len fun A outer s H vs Q E hr hsp => ?_
  obtain ⟨t, h, q⟩ := hbody cdv A outer s H vs Q E hr hsp
  exact ⟨t, h.nox, q⟩
/-- how its arguments bind (no defaults): h is «fun _ _ _ _ _ _ us hl => match us, hl with | [_, _], _ => rfl», one _ a parameter -/
theorem Fun.binds {x qual : Str} {st : Stmt} {f : Addr} {fd : FuncData} {ps : List Str} (F : Fun K x qual st f fd)
    (h : ∀ (kV doc pm : Value) (an : Option Addr) (cdv ct : Value) (us : List Value), us.length = ps.length → bindArgs (PySem.W.fnOf x qual (defArgs st) (defBody st) (defScope st) .none kV doc pm an cdv ct) ⟨us, []⟩ = pure (ps.zip us)) : Binds K fd ps [] := by
  obtain ⟨oc, od, kV, doc, pm, an, cdv, ct, osl, rfl, lk, hcd⟩ := F.ex
  exact .all (h kV doc pm an cdv ct)
theorem fun_mk {x qual : Str} {st : Stmt} {f : Addr} {oc : Value} {od an : Option Addr} {osl : Array (Option Value)} {kV doc pm cdv ct : Value} (l : K.lookup f = some ⟨oc, od, .func (PySem.W.fnOf x qual (defArgs st) (defBody st) (defScope st) .none kV doc pm an cdv ct), osl⟩)
    (c : PySem.W.codeIn K cdv qual = true) (k : PySem.W.keepIn K (.ref f) = true) : Fun K x qual st f (PySem.W.fnOf x qual (defArgs st) (defBody st) (defScope st) .none kV doc pm an cdv ct) := ⟨⟨oc, od, kV, doc, pm, an, cdv, ct, osl, rfl, l, c⟩, k⟩
end
theorem hu_of {A : Around} {k : Nat} (hr : Room k A) : A.units + 1 < cLine := Nat.lt_of_le_of_lt (Nat.add_le_add_left (by decide : 1 ≤ 64) _) hr.units
theorem small1000 {n : Nat} (h : n ≤ 1000) : n < sizeLine := Nat.lt_of_le_of_lt h (by decide)
/-! ### expressions in short: the name that stands in the i-th slot -/
section
variable {X : Cx}
theorem pv (i : Nat) {x : Str} {pos : Pos} (hN : X.N[i]? = some x := by rfl) (hv : Vis X.env.scope x := by first | exact Or.inl rfl | exact Or.inr (Or.inl rfl) | exact Or.inr (Or.inr rfl)) (hd : (x == ("__debug__" : Str)) = false := by decide)
    (hcd : (x == ("__classdict__" : Str)) = false := by decide) : PE X (.Name x pos) (tVar i) := pe_var hN hv hd hcd
end
/-! ### tests -/
theorem iteF {A B : Prop} (h : B) : if false = true then A else B := by
  rw [if_neg Bool.false_ne_true]
  exact h
theorem iteT {A B : Prop} (h : A) : if true = true then A else B := by
  rw [if_pos rfl]
  exact h
theorem ite2 {c A B : Prop} [Decidable c] (h1 : c → A) (h2 : ¬ c → B) : if c then A else B := by
  by_cases h : c
  · rw [if_pos h]
    exact h1 h
  · rw [if_neg h]
    exact h2 h
theorem iteNS {c A B : Prop} [Decidable c] (hc : c) (h : B) : if (!decide c) = true then A else B := by
  rw [decide_eq_true hc]
  exact iteF h
/-! ### heaps -/
/-- all that was tracked is as it was -/
def Same (H H' : Hp) : Prop := ∀ b o, H b = some o → H' b = some o
theorem Same.refl (H : Hp) : Same H H := fun _ _ h => h
theorem Same.trans {H H1 H2 : Hp} (a : Same H H1) (b : Same H1 H2) : Same H H2 := fun c o h => b c o (a c o h)
theorem Same.free {H H' : Hp} (e : Same H H') {l : Addr} (h : H' l = Option.none) : H l = Option.none := by
  cases q : H l with
  | none => rfl
  | some o =>
    rw [e l o q] at h
    cases h
theorem Same.seq {K : PySem.W.Frag} {H H' : Hp} {a : Addr} {xs : List V} (e : Same H H') (h : SqL K H a xs) : SqL K H' a xs := by
  rcases h with (h | ⟨o, h⟩) | h
  · exact .inl (.inl (e _ _ h))
  · exact .inl (.inr ⟨o, e _ _ h⟩)
  · exact .inr h
end L2
set_option maxHeartbeats 4000000
namespace L2
open PySem PySem.Spec PyProof.Rows
theorem objThere {P : Program} {w : World} {H : Hp} {h : Heap} {a : Addr} {o : HO} (x : ObjOk P w H h a o) : ∃ ob, h.get? a = some ob := by
  induction o with
  | lst xs => obtain ⟨_, _, _, _, e⟩ := x; exact ⟨_, e⟩
  | tup xs => obtain ⟨_, _, _, ob, e, _⟩ := x; exact ⟨_, e⟩
  | dK kvs => obtain ⟨_, _, _, _, o, _, _, e, _⟩ := x; exact ⟨_, e⟩
  | dT kvs => obtain ⟨_, _, _, _, o, _, _, e, _⟩ := x; exact ⟨_, e⟩
  | set S n => obtain ⟨o, _, _, _, e, _⟩ := x; exact ⟨_, e⟩
  | ins C dx fs => obtain ⟨_, _, _, e, _⟩ := x; exact ⟨_, e⟩
  | own y => obtain ⟨_, e⟩ := x; exact ⟨_, e⟩
  | xd fs => obtain ⟨_, ⟨_, _, _, e, _⟩, _⟩ := x; exact ⟨_, e⟩
  | rng lo hi => obtain ⟨_, _, _, e⟩ := x; exact ⟨_, e⟩
  | frz ob u _ => obtain ⟨e, _⟩ := x; exact ⟨_, e⟩
  | tbl ps => exact ⟨_, (show h.get? a = some _ from x)⟩
  | met f y => exact ⟨_, (show h.get? a = some _ from x)⟩
  | ext φ => obtain ⟨_, e, _⟩ := x; exact e
/-- what lies in B stays, the frames at fs up to slots -/
structure UnB (fs : List Addr) (H H' : Hp) (h B h' : Heap) : Prop where
  keep : ∀ b o, h.get? b = some o → H b = none → b ∉ fs → B.get? b = some o
  slot : ∀ b o, h.get? b = some o → H b = none → b ∈ fs → ∃ sl, h'.get? b = some { o with slots := sl }
  free : ∀ b o, h.get? b = some o → H b = none → H' b = none
  there : ∀ b o, h.get? b = some o → b ∈ fs ∨ ∃ o', B.get? b = some o'
  tups : ∀ b xs, H b = some (.tup xs) → H' b = some (.tup xs)
  frzs : ∀ b o u, H b = some (.frz o u) → H' b = some (.frz o u)
  tbls : ∀ b ps, H b = some (.tbl ps) → ∃ more, H' b = some (.tbl (ps ++ more))
/-- how an exception lies behind a call -/
def CXE (P : Program) (w : World) : CXT := fun outer H s E e s' => ∃ (a : Addr) (cls a0 : Value) (H' : Hp) (B : Heap), e = .ref a ∧ s'.os = s.os ∧ AllBare s'.gens ∧ E cls none H' ∧ HOk P w H' B ∧ H' a = none ∧ s.heap.get? a = none ∧
  Heap.FlyingW B outer a cls a0 s'.heap ∧ UnB (frs outer) H H' s.heap B s'.heap
theorem UnB.un {fs : List Addr} {H H' : Hp} {h B h' h'' : Heap} (u : UnB fs H H' h B h') (hB : B.StaysIn h'') (hs : h'.UpToSlots h'') (hf : ∀ b ∈ fs, ∃ o, h'.get? b = some o ∧ ∀ vs, o.data ≠ .fields vs) : Un fs [] H H' h h'' where
  keep := fun b o e n hb _ => hB b o (u.keep b o e n hb)
  slot := fun b o e n hb _ => by
    obtain ⟨sl, e1⟩ := u.slot b o e n hb
    obtain ⟨o1, e2, nf⟩ := hf b hb
    rw [e1] at e2; cases e2
    obtain ⟨sl', e3⟩ := hs b _ e1 nf
    exact ⟨sl', e3⟩
  free := fun b o e n _ => u.free b o e n
  there := fun b o e _ => by
    rcases u.there b o e with hb | ⟨o', e'⟩
    · obtain ⟨o1, e2, nf⟩ := hf b hb
      obtain ⟨sl', e3⟩ := hs b _ e2 nf
      exact ⟨_, e3⟩
    · exact ⟨o', hB b o' e'⟩
  tups := u.tups
  frzs := u.frzs
  tbls := u.tbls
section
variable {X : Cx} {pins : List (Addr × Obj)} {σ : St} {H : Hp} {s s' : Shared} {E : XK}
/-- the raise in the body of a def -/
theorem raise_leaves {CX : CXT} {P : Program} {w : World} {K : PySem.W.Frag} {mg : Str → Option Value} {base : Heap} {N : List Str} {qual : Str} {scope : Scope} {f : Addr} {cd : Value} {A : Around} {outer : List Env} {s₀ : Shared} {H₀ : Hp}
    {pins : List (Addr × Obj)} {σ : St} {H : Hp} {s : Shared} {h' : Heap} {e : Addr} {cls : Value} {args : List Value}
    (I : Inv (cxOf (CXE P w) P w K mg base N qual scope f cd A outer s₀ H₀ E) pins σ H s) (hx : Heap.MadeExcOf s.heap h' e cls args) (hE : E cls none H) :
    (cxOf (CXE P w) P w K mg base N qual scope f cd A outer s₀ H₀ E).xe (.ref e) { s with heap := h' } := by
  have hst := I.stack
  have hlt := I.lt
  have hnoex : ∀ b : Addr, b ∉ ([] : List Addr) := fun b z => nomatch z
  show wpAny (model P w) (A.deeper (envOfC qual scope s₀.heap.objs.size f cd)) (leaving (envOfC qual scope s₀.heap.objs.size f cd) (.ref e)) (fun _ s'' => CXE P w outer H₀ s₀ E (.ref e) s'') (fun e' s'' => CXE P w outer H₀ s₀ E e' s'') { s with heap := h' }
  refine wpAny_leaves_madeW (base := PySem.W.hideAll s.heap (frs (envOfC qual scope s₀.heap.objs.size f cd :: outer))) (h := s.heap) (L := s₀.heap.objs.size) I.ok.frames rfl (fun b o q => PySem.W.of_hideAll _ q)
    (PySem.W.funFrames_hide hst fun env he b hb => List.mem_filterMap.mpr ⟨env, he, hb⟩) hx fun h'' t fly _ _ upto => ?_
  have hsub : ∀ b, b ∈ frs outer → b ∈ frs (envOfC qual scope s₀.heap.objs.size f cd :: outer) := fun b hb => by
    obtain ⟨env, he, hf⟩ := List.mem_filterMap.mp hb
    exact List.mem_filterMap.mpr ⟨env, .tail _ he, hf⟩
  have hnot : ∀ b o, s₀.heap.get? b = some o → b ∉ frs outer → b ∉ frs (envOfC qual scope s₀.heap.objs.size f cd :: outer) := fun b o q nb hb => by
    rcases List.mem_cons.mp (I.stkSub b hb) with z | z
    · exact absurd (Heap.lt_size q) (by rw [z]; exact Nat.lt_irrefl _)
    · exact nb z
  have hfree : ∀ b ∈ frs (envOfC qual scope s₀.heap.objs.size f cd :: outer), H b = none := I.stkFree
  have nohid : ∀ b u, H b = some u → b ∉ frs (envOfC qual scope s₀.heap.objs.size f cd :: outer) := fun b u q hb => by rw [hfree b hb] at q; cases q
  refine ⟨e, cls, .ref t, H, _, rfl, I.os, I.bare, hE, fun b u q => ?_, ?_, ?_, fly, ?_⟩
  · refine (I.hok b u q).stay (fun c v hc r => PySem.W.hideAll_get _ r ?_) (fun _ r => r) fun _ _ r => r
    rcases hc with z | z
    · rw [z]; exact nohid b u q
    · exact nohid c _ z
  · cases q : H e with
    | none => rfl
    | some u =>
      obtain ⟨ob, e1⟩ := objThere (I.hok e u q)
      rw [hx.new] at e1; cases e1
  · cases q : s₀.heap.get? e with
    | none => rfl
    | some o =>
      obtain ⟨o', e1⟩ := I.base.there e o q (hnoex e)
      rw [hx.new] at e1; cases e1
  · refine ⟨fun b o q n nb => PySem.W.hideAll_get _ (I.base.keep b o q n nb (hnoex b)) (hnot b o q nb), fun b o q n hb => ?_, fun b o q n => I.base.free b o q n (hnoex b), fun b o q => ?_, I.base.tups, I.base.frzs, I.base.tbls⟩
    · obtain ⟨sl, e1⟩ := I.base.slot b o q n hb (hnoex b)
      obtain ⟨_, ob, e2, nf⟩ := hst.mem (hsub b hb)
      rw [e1] at e2; cases e2
      have e3 := hx.keeps b _ e1
      obtain ⟨sl', e4⟩ := upto b _ e3 nf
      exact ⟨sl', e4⟩
    · by_cases hb : b ∈ frs outer
      · exact .inl hb
      · obtain ⟨o', e1⟩ := I.base.there b o q (hnoex b)
        exact .inr ⟨o', PySem.W.hideAll_get _ e1 (hnot b o q hb)⟩
/-- what flies behind a call lands in this body as before it -/
theorem fly_land {B h'' : Heap} {a : Addr} {cls a0 : Value} {H' : Hp} (I : Inv X pins σ H s) (hos : s'.os = s.os) (hb : AllBare s'.gens) (hok : HOk X.prog X.w H' B) (fly : Heap.FlyingW B X.stack a cls a0 s'.heap) (u : UnB (frs X.stack) H H' s.heap B s'.heap)
    (hB : B.StaysIn h'') (hs : s'.heap.UpToSlots h'') : Inv X pins σ H' { s' with heap := h'' } := by
  have un := u.un hB hs fun b hb => let ⟨_, o, e, nf⟩ := fly.2.2.1.mem hb; ⟨o, e, nf⟩
  exact I.call' (s' := { s' with heap := h'' }) (ch := []) hos un (hok.kept hB) hb fun b z => nomatch z
/-- an exception of a callee leaves this def too -/
theorem passE {P : Program} {w : World} {K : PySem.W.Frag} {mg : Str → Option Value} {base : Heap} {N : List Str} {qual : Str} {scope : Scope} {f : Addr} {cd : Value} {A : Around} {outer : List Env} {s₀ : Shared} {H₀ : Hp} {E E' : XK}
    (hE : ∀ cls H, E' cls none H → E cls none H) : Passes (CXE P w) (cxOf (CXE P w) P w K mg base N qual scope f cd A outer s₀ H₀ E) E' := by
  intro pins σ H s e s' I h
  obtain ⟨a, cls, a0, H', B, rfl, hos, hb, hE', hok, hna, hfr, fly, u⟩ := h
  have hnoex : ∀ b : Addr, b ∉ ([] : List Addr) := fun b z => nomatch z
  have hsub : ∀ b, b ∈ frs outer → b ∈ frs (envOfC qual scope s₀.heap.objs.size f cd :: outer) := fun b hb => by
    obtain ⟨env, he, hf⟩ := List.mem_filterMap.mp hb
    exact List.mem_filterMap.mpr ⟨env, .tail _ he, hf⟩
  have hnot : ∀ b o, s₀.heap.get? b = some o → b ∉ frs outer → b ∉ frs (envOfC qual scope s₀.heap.objs.size f cd :: outer) := fun b o q nb hb => by
    rcases List.mem_cons.mp (I.stkSub b hb) with z | z
    · exact absurd (Heap.lt_size q) (by rw [z]; exact Nat.lt_irrefl _)
    · exact nb z
  show wpAny (model P w) (A.deeper (envOfC qual scope s₀.heap.objs.size f cd)) (leaving (envOfC qual scope s₀.heap.objs.size f cd) (.ref a)) (fun _ s'' => CXE P w outer H₀ s₀ E (.ref a) s'') (fun e' s'' => CXE P w outer H₀ s₀ E e' s'') s'
  refine wpAny_leaves_onW (L := s₀.heap.objs.size) I.ok.frames rfl fly fun h'' fly' upto => ?_
  refine ⟨a, cls, a0, H', B, rfl, hos.trans I.os, hb, hE cls H' hE', hok, hna, ?_, fly', ?_⟩
  · cases q : s₀.heap.get? a with
    | none => rfl
    | some o =>
      obtain ⟨o', e1⟩ := I.base.there a o q (hnoex a)
      rw [hfr] at e1; cases e1
  · refine ⟨fun b o q n nb => u.keep b o (I.base.keep b o q n nb (hnoex b)) (I.base.free b o q n (hnoex b)) (hnot b o q nb), fun b o q n hb => ?_, fun b o q n => ?_, fun b o q => ?_, fun b xs q => u.tups b xs (I.base.tups b xs q), fun b o x q => u.frzs b o x (I.base.frzs b o x q), fun b ps q => ?_⟩
    · obtain ⟨sl, e1⟩ := I.base.slot b o q n hb (hnoex b)
      obtain ⟨sl', e2⟩ := u.slot b _ e1 (I.base.free b o q n (hnoex b)) (hsub b hb)
      obtain ⟨_, ob, e3, nf⟩ := fly.2.2.1.mem (hsub b hb)
      rw [e2] at e3; cases e3
      obtain ⟨sl'', e4⟩ := upto b _ e2 nf
      exact ⟨sl'', e4⟩
    · obtain ⟨o', e1⟩ := I.base.there b o q (hnoex b)
      exact u.free b o' e1 (I.base.free b o q n (hnoex b))
    · by_cases hb : b ∈ frs outer
      · exact .inl hb
      · obtain ⟨o', e1⟩ := I.base.there b o q (hnoex b)
        rcases u.there b o' e1 with z | z
        · exact absurd z (hnot b o q hb)
        · exact .inr z
    · obtain ⟨m1, e1⟩ := I.base.tbls b ps q
      obtain ⟨m2, e2⟩ := u.tbls b _ e1
      exact ⟨m1 ++ m2, by rw [e2, Array.append_assoc]⟩
/-- a def that never raises keeps its promise whatever is said of exceptions -/
theorem fn_any {P : Program} {w : World} {K : PySem.W.Frag} {mg : Str → Option Value} {base : Heap} {CX : CXT} {k : Nat} {f : Addr} {fd : FuncData} {ps : List Str} {sp : Sp} (F : FnOk P w K mg base CX0 k f fd ps sp) : FnOk P w K mg base CX k f fd ps sp :=
  ⟨F.len, fun A outer s H args us vs Q E hr e0 hb r hs => codeAny_mono (F.run A outer s H args us vs Q E hr e0 hb r hs) fun r s' h => by
    cases r with
    | error e => exact False.elim h
    | ok fl => cases fl <;> exact h⟩
end
end L2
set_option maxHeartbeats 4000000
namespace L2
open PySem PySem.Spec PyProof.Rows PySem.Builtin.ObjectAttr PySem.Builtin.Getset_descriptor
/-- the text's own exception class at D, as the top has made it -/
structure XCls (K : PySem.W.Frag) (D : Addr) : Prop where
  ga : PySem.W.findIn K (.ref D) "__getattribute__" = some (some (.builtin "BaseException.__getattribute__"))
  gt : PySem.W.findIn K (.ref D) "__getattr__" = some none
  cl : PySem.W.findIn K (.ref D) "__class__" = some (some (.builtin "object.__class__"))
  gg : PySem.W.specialIn K (.builtin "object.__class__") "__get__" = some (some (.builtin "getset_descriptor.__get__"))
  tk : PySem.W.takesIn K (.builtin "object.__class__") = some true
  mo : PySem.W.mroIn K D (.type "object") = some true
  sb : PySem.W.subIn K (.ref D) (.type "BaseException") = some true
  is : (PySem.W.clsIn K D).isSome = true
/-- an object of class cls with fields -/
def IsX (a : Addr) (cls : Value) : Heap → Prop := fun h => ∃ o vs, h.get? a = some o ∧ o.cls = cls ∧ o.data = .fields vs
section
variable {prog : Program} {w : World} {A : Around} {E : Value → Shared → Prop} {K : PySem.W.Frag} {x D : Addr} {s : Shared}
theorem xc_ty {M : Model} {h : Heap} {cls : Value} (I : IsX x cls h) : PySem.W.Looks M h (typeOf (.ref x)) cls := by
  obtain ⟨o, vs, h1, h2, _⟩ := I
  exact h2 ▸ (PySem.W.Looks.ld h1).andThen .now
theorem xc_get {R : Result → Shared → Prop} (X : K.In s.heap) (C : XCls K D) (I : IsX x (.ref D) s.heap) (hR : R (.ok (.ret (.ref D))) s) :
    codeAny (model prog w) A (.call (.builtin "getset_descriptor.__get__") ⟨[.builtin "object.__class__", .ref x, .ref D], []⟩) R s := by
  obtain ⟨hp, gs, dr, tt, os⟩ := s
  have T0 := xc_ty (M := model prog w) I
  have T1 := PySem.W.looks_mroIn (M := model prog w) X C.mo
  refine codeAny_call_builtin PySem.W.KF.slot_gs.plain PySem.W.KF.entry_gs (PySem.W.KF.slot_gs.check _ _ _ _ _ _ _ _ PySem.W.KF.type_class (PySem.W.KF.args_gs _ _ _) ?_)
  (unfold Builtin.«getset_descriptor.__get__»; unfold descrGet)
  rw [PySem.W.dga_obj]; refine wpAny_bind (wpAny_pure ?_)
  (unfold descrGetter descrCheckInstance; unfold descrNameAndClass isInstance)
  simp only [PySem.W.KF.owner_class]
  repeat lk
  refine ⟨Code.quiet_builtin _ (by decide +kernel), codeAny_builtin PySem.W.KF.entry_class ?_⟩
  (unfold Builtin.«object.__class__»; unfold shownTypeOf)
  repeat lk
  exact hR
theorem xc_find {M : Model} {h : Heap} (X : K.In h) (C : XCls K D) : PySem.W.Looks M h (find (.ref x) (.ref D) "__class__") (.bind (.builtin "getset_descriptor.__get__") (.builtin "object.__class__")) := by
  intro A' Q' E' s' kk qq
  obtain ⟨hp, gs, dr, tt, os⟩ := s'
  have T1 := (PySem.W.looks_findIn (M := M) X C.cl).keeps kk
  have T2 := (PySem.W.looks_specialIn (M := M) X C.gg).keeps kk
  have T3 := (PySem.W.looks_takesIn (M := M) X C.tk).keeps kk
  unfold find
  refine wpAny_bind (T1.at ?_)
  unfold getOf dataDescriptor?
  refine wpAny_bind (T2.at ?_)
  dsimp only
  refine wpAny_bind (wpAny_bind (T3.at ?_))
  rw [if_pos rfl]
  exact wpAny_pure (wpAny_bind (wpAny_rule (wpAny_pure qq)))
theorem xc_attr {Q : Option Value → Shared → Prop} (X : K.In s.heap) (C : XCls K D) (I : IsX x (.ref D) s.heap)
    (h : Q (some (.ref D)) { s with toks := s.toks + 1 }) : wpAny (model prog w) A (getAttr? (.ref x) "__class__") Q E s := by
  obtain ⟨hh, g, d, t, os⟩ := s
  have T0 := xc_ty (M := model prog w) I
  have T1 := PySem.W.looks_findIn (M := model prog w) X C.ga
  have T2 := PySem.W.looks_findIn (M := model prog w) X C.gt
  have TI : PySem.W.Looks (model prog w) hh (isInstance (.ref x) (.type "BaseException")) true := T0.andThen (PySem.W.looks_subIn X C.sb)
  have TF := xc_find (x := x) (M := model prog w) X C
  have hkd : builtinKind "BaseException.__getattribute__" = some .slot := by decide +kernel
  have hsp : splitId "BaseException.__getattribute__" = some ("BaseException", "__getattribute__") := by decide +kernel
  (unfold getAttr?; unfold getAttrBy? getAttrBy)
  refine wpAny_bind (wpAny_mkText (wpAny_bind (wpAny_attempt (wpAny_holding (wpAny_bind (T0.at (wpAny_bind (T1.at ?_))))))))
  show wpAny _ _ (getAttrByItsOwn (.ref x) _ (.ref D) (.builtin "BaseException.__getattribute__") false false) _ _ _
  unfold getAttrByItsOwn hookBefore
  refine wpAny_bind ?_
  show wpAny _ _ (typeLookup (.ref D) (Str.ofString "__getattr__")) _ _ _
  refine T2.at ?_
  refine wpAny_bind (wpAny_attempt (wpAny_holding ?_))
  show wpAny _ _ (boundAndCalled (.builtin "BaseException.__getattribute__") (.ref x) _) _ _ _
  unfold boundAndCalled
  refine wpAny_bind (wpAny_of_eq (F.attr_ValueError.ga.bind (.ref x)) ?_)
  have har := F.args_bexc_ga (.ref x) (Value.str "__class__" t)
  refine wpAny_call (codeAny_call_builtin F.attr_ValueError.ga.plain F.entry_bexc_ga ?_)
  simp only [checkBuiltinCall, hkd, hsp]
  refine wpAny_bind (TI.at ?_)
  simp only [Bool.not_true, Bool.false_eq_true, if_false, if_true]
  refine wpAny_of_eq har ?_
  show wpAny _ _ (Builtin.«object.__getattribute__» ⟨[.ref x, .str "__class__" t], []⟩) _ _ _
  unfold Builtin.«object.__getattribute__»
  refine wpAny_bind (wpAny_pure ?_)
  refine wpAny_bind (wpAny_pure ?_)
  refine wpAny_bind (T0.at ?_)
  refine wpAny_bind (TF.at ?_)
  show wpAny _ _ (holding [.builtin "object.__class__"] (call (.builtin "getset_descriptor.__get__") [.builtin "object.__class__", .ref x, .ref D]) >>= ret) _ _ _
  refine wpAny_bind (wpAny_holding (wpAny_call (xc_get X C I ?_)))
  exact wpAny_pure (PySem.W.handed_on rfl (wpAny_pure h))
theorem kitx_exc (C : XCls K D) : PySem.W.KitX K (.ref x) (.ref D) (IsX x (.ref D)) where
  ty := fun _ _ _ I => xc_ty I
  it := fun M h X _ => by
    obtain ⟨cd, hc⟩ := Option.isSome_iff_exists.mp C.is
    unfold PySem.W.clsIn at hc
    split at hc
    · rename_i ho
      intro A' Q' E' s' kk qq
      unfold isType loadHead
      exact wpAny_bind (wpAny_loadPart (kk _ _ (X _ _ ho)) (wpAny_pure qq))
    · cases hc
  ne := fun h tp dd its n sl X ht => by
    obtain ⟨cd, hc⟩ := Option.isSome_iff_exists.mp C.is
    refine Bool.eq_false_iff.mpr fun z => ?_
    have e0 : D = tp := Value.ref.inj (beq_iff_eq.mp z)
    subst e0
    unfold PySem.W.clsIn at hc
    split at hc
    · rename_i ho
      have z2 := (X _ _ ho).symm.trans ht
      cases z2
    · cases hc
  ca := fun X I k => xc_attr X C I k
/-- isinstance(e, c) of a caught exception -/
theorem xc_isi {c : Value} {b : Bool} {Q : Value → Shared → Prop} (X : K.In s.heap) (C : XCls K D) (I : IsX x (.ref D) s.heap) (e : PySem.W.kitOne K (.ref D) c = some b) (h : ∀ tk, Q (.bool b) { s with toks := tk }) :
    wpAny (model prog w) A (call (.builtin "isinstance") [.ref x, c]) Q E s := PySem.W.kia_one (kitx_exc C) X I e (fun z => nomatch z) h
end
end L2
set_option maxHeartbeats 4000000
namespace L2
open PySem PySem.Spec PyProof.Rows
theorem exc_obj {K : PySem.W.Frag} {h : Heap} {C : Addr} {bmB : List Value} {newId : String} (X : K.In h) (q : PySem.W.excIn K C bmB newId = true) :
    ∃ bm N nm qn bs hd sn sub ab col dd k0 k1 k2 k3 k5 mN, h.get? C = some (excClassObj nm qn C N bs bm hd sn sub ab col dd k0 k1 k2 k3 k5 newId) ∧ h.Ns N mN ∧ mN "__init__" = none ∧ OwnTail h bmB bm := by
  unfold PySem.W.excIn at q
  split at q
  · rename_i dd cd sl look
    split at q
    · rename_i C2 bm k0 k1 k2 k3 n k5 hmro hsl
      simp only [Bool.and_eq_true, beq_iff_eq, Bool.not_eq_true'] at q
      obtain ⟨⟨⟨⟨⟨rfl, rfl⟩, hde⟩, htl⟩, hns⟩, hin⟩ := q
      obtain ⟨nm, bs, mro, ns, qn, hd, sn, sub, ab, col, del⟩ := cd
      dsimp only at hmro hde hns hin
      subst hmro hde
      have es : sl = #[k0, k1, k2, k3, some (.builtin n), k5] := by
        obtain ⟨ls⟩ := sl
        have e1 : ls = [k0, k1, k2, k3, some (.builtin n), k5] := hsl
        rw [e1]
      subst es
      exact ⟨bm, ns, nm, qn, bs, hd, sn, sub, ab, col, dd, k0, k1, k2, k3, k5, _, X _ _ look, .of_isNs (PySem.W.isNs_of_in X hns), PySem.W.nsMap_none_of_in X hns hin, PySem.W.tail_of_in X htl⟩
    · cases q
  · cases q
section
variable {X : Cx}
/-- raise C(e, ..) -/
def tRaise (C : Addr) (E : XK) (t : TA) : TS := fun D σ H => t σ H fun vs H1 => vs.length ≤ sizeLine ∧ E (.ref C) none H1
/-- an exception that is made here reaches what is wanted -/
def Makes (X : Cx) (E : XK) : Prop := ∀ (pins : List (Addr × Obj)) (σ : St) (H : Hp) (s : Shared) (h' : Heap) (e : Addr) (cls : Value) (args : List Value), Inv X pins σ H s → Heap.MadeExcOf s.heap h' e cls args → E cls none H → X.xe (.ref e) { s with heap := h' }
theorem makesE {P : Program} {w : World} {K : PySem.W.Frag} {mg : Str → Option Value} {base : Heap} {N : List Str} {qual : Str} {scope : Scope} {f : Addr} {cd : Value} {A : Around} {outer : List Env} {s₀ : Shared} {H₀ : Hp} {E : XK} :
    Makes (cxOf (CXE P w) P w K mg base N qual scope f cd A outer s₀ H₀ E) E := fun _ _ _ _ _ _ _ _ I hx hE => raise_leaves (CX := CXE P w) I hx hE
theorem ps_raise {x : Str} {C : Addr} {B newId initId : String} {bmB : List Value} {e₀ : Expr} {rest : List Expr} {np cpos pos : Pos} {t : TA} {E : XK} (hg : Gl X x) (hm : X.mg x = some (.ref C)) (hq : PySem.W.excIn X.K C bmB newId = true)
    (FB : ExcBaseFacts B newId initId bmB) (hcalm : X.calm = true) (hxe : Makes X E) (ha : PA X (e₀ :: rest) t) (hd : (x == ("__debug__" : Str)) = false := by decide)
    (he : starEach (e₀ :: rest) X.env = (false, eval e₀ X.env) :: starEach rest X.env := by rfl) (hpl : (backTo cpos (starEach rest X.env)).any (·.1) = false := by rfl) :
    PS X (.Raise (some (.Call (.Name x np) (e₀ :: rest) [] cpos)) none pos) (tRaise C E t) := by
  intro pins s σ H D I h
  obtain ⟨bm, N, nm, qn, bs, hdd, sn, sub, ab, col, dd, k0, k1, k2, k3, k5, mN, hC, hN, hni, T⟩ := exc_obj (bmB := bmB) I.mod.kin hq
  refine wpAny_Raise_call_subT (C := C) (N := N) (bm := bm) (nm := nm) (q := qn) (bs := bs) (hdct := hdd) (sn := sn) (sub := sub) (ab := ab) (col := col) (dd := dd) (k0 := k0) (k1 := k1) (k2 := k2) (k3 := k3) (k5 := k5) FB (mN := mN) (T.hasType FB.hasBase) (I.ok.hd hcalm)
    (by rw [he]; show (false || (backTo cpos (starEach rest X.env)).any (·.1)) = false; rw [hpl]; rfl) hni (ld_glob I hg hm ⟨rfl, ?_⟩ hd)
  have h1 := ha cpos pins s σ H _ I h
  rw [he] at h1 ⊢
  refine Calls.evalArgs_plain (thn h1 fun us s1 ⟨vs, H1, I1, r1, q1⟩ => ?_)
  exact ⟨rfl, (by rw [← r1.length]; exact q1.1), I1.bk _ _ hC, hN.keeps I1.bk, T.keeps I1.bk, fun h' e hx => hxe pins σ H1 s1 h' e _ _ I1 hx q1.2⟩
/-- an object that is there is tracked from now on -/
theorem Inv.track {pins : List (Addr × Obj)} {σ : St} {H : Hp} {s : Shared} {a : Addr} {o : HO} (I : Inv X pins σ H s) (hs : X.s₀.heap.get? a = none) (hn : H a = none) (hL : a ≠ X.env.locals) (hc : ∀ x c, X.env.cells.lookup x = some c → c ≠ a)
    (hp : ∀ p ∈ X.pn ++ pins, p.1 ≠ a) (new : ObjOk X.prog X.w (upd H a o) s.heap a o) : Inv X pins σ (upd H a o) s := by
  have ne : ∀ b ob, X.s₀.heap.get? b = some ob → b ≠ a := fun b ob e z => by rw [z, hs] at e; cases e
  have nt : ∀ b u, H b = some u → b ≠ a := fun b u e z => by rw [z, hn] at e; cases e
  refine ⟨I.ok, I.os, I.bare, ⟨I.base.keep, I.base.slot, fun b ob e n hx => by rw [upd_ne (ne b ob e)]; exact I.base.free b ob e n hx, I.base.there, fun b xs e => ?_, fun b ob xs e => ?_, fun b ps e => ?_⟩, I.loc, I.cell, by rw [upd_ne hL.symm]; exact I.free, fun x c e => by rw [upd_ne (hc x c e)]; exact I.freeC x c e, fun p hp' => ?_, fun b u e => ?_, I.len⟩
  · have e1 := I.base.tups b xs e
    rw [upd_ne (nt b _ e1)]; exact e1
  · have e1 := I.base.frzs b ob xs e
    rw [upd_ne (nt b _ e1)]; exact e1
  · obtain ⟨more, e1⟩ := I.base.tbls b ps e
    exact ⟨more, by rw [upd_ne (nt b _ e1)]; exact e1⟩
  · obtain ⟨e, n, r⟩ := I.pin p hp'
    exact ⟨e, by rw [upd_ne (hp p hp')]; exact n, r⟩
  · by_cases z : b = a
    · subst z
      rw [upd_same] at e
      cases e
      exact new
    · rw [upd_ne z] at e
      exact (I.hok b u e).stay (fun _ _ _ q => q) (fun c q => by rw [upd_ne (nt c _ q)]; exact q) fun c xs q => by rw [upd_ne (nt c _ q)]; exact q
abbrev Cx.tryCx (X : Cx) (pn : List (Addr × Obj)) (xe : Value → Shared → Prop) : Cx := { X with pn := pn, xe := xe }
abbrev Cx.suite (X : Cx) (e : Addr) : Cx := { X with A := X.A.mark (some (.ref e)), calm := false, xe := fun _ _ => False }
theorem Cx.Ok.tryCx {pn : List (Addr × Obj)} {xe : Value → Shared → Prop} (ok : X.Ok) : (X.tryCx pn xe).Ok :=
  ⟨ok.mod, ok.kind, ok.glob, ok.blt, ok.above, ok.inj, ok.has, ok.cab, ok.hd, ok.frames, ok.stk, ok.exf, ok.bs, ok.bsz, ok.noex, ok.exfs, ok.funs, ok.frf⟩
theorem Cx.Ok.suite {e : Addr} (ok : X.Ok) : (X.suite e).Ok :=
  ⟨ok.mod, ok.kind, ok.glob, ok.blt, ok.above, ok.inj, ok.has, ok.cab, (fun z => nomatch z), ok.frames, ok.stk, ok.exf, ok.bs, ok.bsz, ok.noex, ok.exfs, ok.funs, ok.frf⟩
theorem Cx.Ok.unsuite {e : Addr} (ok : (X.suite e).Ok) (ok' : X.Ok) : X.Ok := ok'
theorem Inv.toTry {pins : List (Addr × Obj)} {σ : St} {H : Hp} {s : Shared} {xe : Value → Shared → Prop} (I : Inv X pins σ H s) : Inv (X.tryCx (X.pn ++ pins) xe) [] σ H s :=
  ⟨I.ok.tryCx, I.os, I.bare, I.base, I.loc, I.cell, I.free, I.freeC, fun p hp => I.pin p (by rw [List.append_nil] at hp; exact hp), I.hok, I.len⟩
theorem Inv.ofTry {pins : List (Addr × Obj)} {σ : St} {H : Hp} {s : Shared} {xe : Value → Shared → Prop} (ok : X.Ok) (I : Inv (X.tryCx (X.pn ++ pins) xe) [] σ H s) : Inv X pins σ H s :=
  ⟨ok, I.os, I.bare, I.base, I.loc, I.cell, I.free, I.freeC, fun p hp => I.pin p (by rw [List.append_nil]; exact hp), I.hok, I.len⟩
theorem Inv.ofTry' {pins q : List (Addr × Obj)} {σ : St} {H : Hp} {s : Shared} {xe : Value → Shared → Prop} (ok : X.Ok) (I : Inv (X.tryCx (X.pn ++ pins) xe) q σ H s) : Inv X pins σ H s :=
  ⟨ok, I.os, I.bare, I.base, I.loc, I.cell, I.free, I.freeC, fun p hp => I.pin p (List.mem_append_left _ hp), I.hok, I.len⟩
theorem Inv.toSuite {pins : List (Addr × Obj)} {σ : St} {H : Hp} {s : Shared} {e : Addr} (I : Inv X pins σ H s) : Inv (X.suite e) pins σ H s :=
  ⟨I.ok.suite, I.os, I.bare, I.base, I.loc, I.cell, I.free, I.freeC, I.pin, I.hok, I.len⟩
theorem Inv.ofSuite {pins : List (Addr × Obj)} {σ : St} {H : Hp} {s : Shared} {e : Addr} (ok : X.Ok) (I : Inv (X.suite e) pins σ H s) : Inv X pins σ H s :=
  ⟨ok, I.os, I.bare, I.base, I.loc, I.cell, I.free, I.freeC, I.pin, I.hok, I.len⟩
theorem SP.ofTry {pins : List (Addr × Obj)} {D : Ends} {f : Flow} {s : Shared} {xe : Value → Shared → Prop} (ok : X.Ok) (h : SP (X.tryCx (X.pn ++ pins) xe) [] D f s) : SP X pins D f s := by
  cases f with
  | next => obtain ⟨σ', H', I, q⟩ := h; exact ⟨σ', H', I.ofTry ok, q⟩
  | brk => obtain ⟨σ', H', I, q⟩ := h; exact ⟨σ', H', I.ofTry ok, q⟩
  | cont => obtain ⟨σ', H', I, q⟩ := h; exact ⟨σ', H', I.ofTry ok, q⟩
  | ret u => obtain ⟨v, σ', H', I, r, q⟩ := h; exact ⟨v, σ', H', I.ofTry ok, r, q⟩
/-- the name behind the suite is let go -/
theorem Inv.nameGoes {pins : List (Addr × Obj)} {σ : St} {H : Hp} {s : Shared} {i : Nat} {n : Str} {pos : Pos} {M : Model} {A : Around} {E : Value → Shared → Prop} {Q : Unit → Shared → Prop} (I : Inv X pins σ H s) (hN : X.N.Nodup) (hi : X.N[i]? = some n) (hl : X.env.kindOf n = some .local)
    (h : ∀ s', Inv X pins (σ.set i none) H s' → Q () s') : wpAny M A (do bindName X.env n .none; unbindBehindTheSuite X.env n pos) Q E s := by
  obtain ⟨m, hn, hloc⟩ := id I.loc
  have hcls : (X.env.scope.kind == .class || (X.env.scope.kind == .module && X.env.locals != X.env.globals)) = false := by rw [I.ok.kind]; rfl
  have hiσ : i < σ.length := by rw [I.len]; exact (List.getElem?_eq_some_iff.mp hi).1
  refine wpAny_nameGoes_keeps hl hn hcls fun h' v hn' hs => ?_
  have neL : ∀ b ob, X.s₀.heap.get? b = some ob → b ≠ X.env.locals := fun b ob e => Nat.ne_of_lt (Nat.lt_of_lt_of_le (Heap.lt_size e) I.ok.above)
  refine h _ ⟨I.ok, I.os, I.bare, ⟨fun b o e nn hb hx => ?_, fun b o e nn hb hx => ?_, I.base.free, fun b o e hx => ?_, I.base.tups, I.base.frzs, I.base.tbls⟩, ⟨_, hn', fun j y w' e1 e2 e3 => ?_⟩, fun y c e => ?_, I.free, I.freeC, fun p hp => ?_, fun b u e => ?_, by simpa using I.len⟩
  · exact (hs.2 b (neL b o e)).trans (I.base.keep b o e nn hb hx)
  · obtain ⟨sl, e1⟩ := I.base.slot b o e nn hb hx
    exact ⟨sl, (hs.2 b (neL b o e)).trans e1⟩
  · obtain ⟨o', e1⟩ := I.base.there b o e hx
    exact ⟨o', (hs.2 b (neL b o e)).trans e1⟩
  · by_cases hj : j = i
    · subst hj
      rw [List.getElem?_set_self hiσ] at e2
      cases e2
    · rw [List.getElem?_set_ne (Ne.symm hj)] at e2
      obtain ⟨u, r, l⟩ := hloc j y w' e1 e2 e3
      refine ⟨u, r, ?_⟩
      rcases l with ⟨k, e⟩ | ⟨k, c, e, z⟩
      · refine .inl ⟨k, ?_⟩
        have : y ≠ n := fun z => hj (nodup_ix hN e1 (z ▸ hi))
        simp [this, e]
      · exact .inr ⟨k, c, e, z.sameBut hs (I.cne y c e)⟩
  · obtain ⟨w', z⟩ := I.cell y c e
    exact ⟨w', z.sameBut hs (I.cne y c e)⟩
  · obtain ⟨e, nn, ne, nf, d⟩ := I.pin p hp
    exact ⟨(hs.2 p.1 ne).trans e, nn, ne, nf, d⟩
  · refine (I.hok b u e).stay (fun c w' hc q => (hs.2 c ?_).trans q) (fun _ q => q) fun _ _ q => q
    rintro rfl
    have hf := I.free
    rcases hc with z | z
    · rw [z, e] at hf; cases hf
    · rw [z] at hf; cases hf
end
end L2
set_option maxHeartbeats 4000000
namespace L2
open PySem PySem.Spec PyProof.Rows
/-! ### the closure of a comprehension -/
def clOf (env : Env) : List (Str × NameKind) → List (Str × Addr) → List (Str × Addr)
  | [], cs => cs
  | (n, k) :: r, cs => clOf env r (if k == .free then (n, (env.cells.lookup n).getD 0) :: cs else cs)
theorem closureFor_cl {scope : Scope} {env : Env} (h : ∀ y ∈ scope.names, y.2 = .free → ∃ c, env.cells.lookup y.1 = some c) : closureFor scope env = pure (clOf env scope.names []) := by
  have all : ∀ (l : List (Str × NameKind)) (cs : List (Str × Addr)), (∀ y ∈ l, y.2 = .free → ∃ c, env.cells.lookup y.1 = some c) →
      (forIn l cs fun (x : Str × NameKind) r => (if (x.2 == NameKind.free) = true then do let a ← cellOf env x.1; pure (ForInStep.yield ((x.1, a) :: r)) else pure (ForInStep.yield r) : Sem (ForInStep (List (Str × Addr))))) = pure (clOf env l cs) := by
    intro l
    induction l with
    | nil => intro cs _; rfl
    | cons x r ih =>
      intro cs hl
      obtain ⟨n, k⟩ := x
      rw [List.forIn_cons]
      by_cases hk : (k == NameKind.free) = true
      · obtain ⟨c, hc⟩ := hl (n, k) (.head _) (by simpa using hk)
        have e : cellOf env n = pure c := by unfold cellOf; rw [show env.cells.lookup n = some c from hc]
        simp only [hk, if_true, e, pure_bind]
        rw [ih _ fun y hy => hl y (.tail _ hy)]
        show _ = pure (clOf env r (if k == .free then _ else _))
        rw [if_pos hk, show env.cells.lookup n = some c from hc]
        rfl
      · simp only [hk, Bool.false_eq_true, if_false, pure_bind]
        rw [ih _ fun y hy => hl y (.tail _ hy)]
        show _ = pure (clOf env r (if k == .free then _ else _))
        rw [if_neg hk]
  unfold closureFor
  have := all scope.names [] h
  simp only [bind_pure] at this ⊢
  exact this
theorem mem_clOf {env : Env} : ∀ (l : List (Str × NameKind)) (cs : List (Str × Addr)) {p : Str × Addr}, p ∈ clOf env l cs → p ∈ cs ∨ ((p.1, NameKind.free) ∈ l ∧ p.2 = (env.cells.lookup p.1).getD 0)
  | [], cs, p, h => .inl h
  | (n, k) :: r, cs, p, h => by
    unfold clOf at h
    rcases mem_clOf r _ h with z | ⟨z1, z2⟩
    · split at z
      · rename_i hk
        have hk' : k = .free := by simpa using hk
        rcases List.mem_cons.mp z with rfl | z
        · exact .inr ⟨by rw [hk']; exact .head _, rfl⟩
        · exact .inl z
      · exact .inl z
    · exact .inr ⟨.tail _ z1, z2⟩
theorem clOf_grows {env : Env} : ∀ (l : List (Str × NameKind)) (cs : List (Str × Addr)) {p : Str × Addr}, p ∈ cs → p ∈ clOf env l cs
  | [], cs, p, h => h
  | (n, k) :: r, cs, p, h => by
    unfold clOf
    refine clOf_grows r _ ?_
    split
    · exact .tail _ h
    · exact h
theorem clOf_has {env : Env} : ∀ (l : List (Str × NameKind)) (cs : List (Str × Addr)) {x : Str}, (x, NameKind.free) ∈ l → (x, (env.cells.lookup x).getD 0) ∈ clOf env l cs
  | (n, k) :: r, cs, x, h => by
    unfold clOf
    rcases List.mem_cons.mp h with e | h
    · cases e
      refine clOf_grows r _ ?_
      rw [if_pos (by decide)]
      exact .head _
    · exact clOf_has r _ h
theorem lookup_of_mem {α : Type} : ∀ {l : List (Str × α)} {x : Str} {v : α}, (x, v) ∈ l → ∃ u, l.lookup x = some u
  | (n, k) :: r, x, v, h => by
    by_cases e : x = n
    · exact ⟨k, by rw [List.lookup_cons, e]; simp⟩
    · rcases List.mem_cons.mp h with z | z
      · cases z; exact absurd rfl e
      · obtain ⟨u, hu⟩ := lookup_of_mem z
        exact ⟨u, by rw [List.lookup_cons]; rw [show (x == n) = false from by simpa using e]; exact hu⟩
/-! ### the context of a comprehension's block -/
def cxComp (X : Cx) (N' : List Str) (scope : Scope) (C : Addr) (s : Shared) (H : Hp) (fp : List Addr) : Cx where
  prog := X.prog
  w := X.w
  K := X.K
  mg := X.mg
  base := X.base
  A := X.A
  N := N'
  s₀ := s
  H₀ := H
  env := compEnvC scope (clOf X.env scope.names []) C X.env
  outer := X.stack
  stack := X.stack
  ex := fp
  fn := fun _ => false
  calm := true
  pn := []
  xe := fun _ _ => False
/-- what is asked of the block's names: N' its own ones (ix: none) and those of the def around (ix: their slots) -/
structure CompScope (X : Cx) (N' : List Str) (ix : List (Option Nat)) (scope : Scope) : Prop where
  kind : scope.kind = .function
  nocell : ∀ y ∈ scope.names, y.2 ≠ .cell
  loc : ∀ y ∈ scope.names, y.2 = .local → scope.names.lookup y.1 = some .local
  nd : N'.Nodup
  len : ix.length = N'.length
  free : ∀ y ∈ scope.names, y.2 = .free → X.env.kindOf y.1 = some .cell
  out : ∀ (k j : Nat) (x : Str), N'[k]? = some x → ix[k]? = some (some j) → X.N[j]? = some x ∧ (x, NameKind.free) ∈ scope.names ∧ (relabel scope X.env).names.lookup x = some .cell
/-- the block's names at its start -/
def compSt (ix : List (Option Nat)) (σ : St) : St := ix.map fun o => o.bind fun j => (σ[j]?).join
theorem relabel_back {scope : Scope} {env : Env} {x : Str} {k : NameKind} (hc : ∀ y ∈ scope.names, y.2 ≠ .cell) (h : (relabel scope env).names.lookup x = some k) (hk : k = .cell ∨ k = .free) : (x, NameKind.free) ∈ scope.names := by
  have m := PySem.mem_of_lookup h
  unfold relabel at m
  obtain ⟨⟨n, k0⟩, h1, h2⟩ := List.mem_map.mp m
  dsimp only at h2
  split at h2
  · rename_i q
    cases h2
    have : k0 = .free := by
      simp only [Bool.and_eq_true, beq_iff_eq] at q
      exact q.1.1
    rw [this] at h1
    exact h1
  · cases h2
    rcases hk with rfl | rfl
    · exact absurd rfl (hc _ h1)
    · exact h1
section
variable {X : Cx} {N' : List Str} {ix : List (Option Nat)} {scope : Scope}
theorem cl_cells {pins : List (Addr × Obj)} {σ : St} {H : Hp} {s : Shared} (I : Inv X pins σ H s) (S : CompScope X N' ix scope) {x : Str} {c : Addr} (h : (clOf X.env scope.names []).lookup x = some c) : X.env.cells.lookup x = some c := by
  rcases mem_clOf _ _ (PySem.mem_of_lookup h) with z | ⟨z1, z2⟩
  · cases z
  · obtain ⟨c', hc⟩ := I.ok.has x (.inl (S.free _ z1 rfl))
    dsimp only at z2
    rw [hc] at z2
    rw [hc, z2]
    rfl
/-- the block begins -/
theorem inv_comp {pins : List (Addr × Obj)} {σ : St} {H : Hp} {s : Shared} {h' : Heap} {tk : Nat} {fp : List Addr} (I : Inv X pins σ H s) (hcalm : X.calm = true) (S : CompScope X N' ix scope) (hf : ∀ b ∈ fp, FpOk X pins H b) (hlt : ∀ b ∈ fp, b < s.heap.objs.size)
    (hns : h'.Ns s.heap.objs.size (fun _ => none)) (hk : ∀ b o, s.heap.get? b = some o → h'.get? b = some o) : Inv (cxComp X N' scope s.heap.objs.size s H fp) [] (compSt ix σ) H { s with heap := h', toks := tk } := by
  have noL : H s.heap.objs.size = none := I.hok.fresh (Nat.le_refl _)
  refine ⟨⟨I.ok.mod, S.kind, I.ok.glob, I.ok.blt, Nat.le_refl _, fun x y c h1 h2 => I.ok.inj x y c (cl_cells I S h1) (cl_cells I S h2), fun x hx => ?_, (fun x c z => nomatch z), fun _ => I.ok.hd hcalm, I.ok.frames, .inl rfl, fun b hb => ⟨Nat.ne_of_lt (hlt b hb), fun x c h => ?_⟩, I.bs, Nat.le_trans I.ok.bsz I.sz, fun b o q hb => ?_, fun b hb => ?_, I.stack, I.stkFree⟩,
    rfl, I.bare, Un.kept hk, ⟨_, hns, fun k x v h1 h2 h3 => ?_⟩, fun x c h => ?_, noL, fun x c h => I.freeC x c (cl_cells I S h), (fun p hp => absurd (show p ∈ ([] : List (Addr × Obj)) from hp) (by simp)), I.hok.kept hk, ?_⟩
  · have hx' : (relabel scope X.env).names.lookup x = some .cell ∨ (relabel scope X.env).names.lookup x = some .free := hx
    have m : (x, NameKind.free) ∈ scope.names := by
      rcases hx' with z | z
      · exact relabel_back S.nocell z (.inl rfl)
      · exact relabel_back S.nocell z (.inr rfl)
    exact lookup_of_mem (clOf_has (env := X.env) scope.names [] m)
  · exact (hf b hb).2.2.2.2.1 x c (cl_cells I S h)
  · rcases (hf b hb).2.2.2.1 with z | z
    · exact I.ok.noex b o q z
    · exact absurd (Nat.lt_of_lt_of_le (Heap.lt_size (I.ok.bs b o q).1) z) (Nat.lt_irrefl _)
  · intro z
    rcases List.mem_cons.mp (I.stkSub b z) with e | e
    · exact (hf b hb).2.1 e
    · exact (hf b hb).2.2.1 e
  · have e2 : (compSt ix σ)[k]? = some (some v) := h2
    unfold compSt at e2
    rw [List.getElem?_map] at e2
    cases e3 : ix[k]? with
    | none => rw [e3] at e2; cases e2
    | some o =>
      rw [e3] at e2
      cases o with
      | none => cases e2
      | some j =>
        obtain ⟨n1, n2, n3⟩ := S.out k j x h1 e3
        have e4 : σ[j]? = some (some v) := by
          have : (σ[j]?).join = some v := Option.some.inj e2
          cases e5 : σ[j]? with
          | none => rw [e5] at this; cases this
          | some w => rw [e5] at this; exact congrArg some this
        have kc := S.free _ n2 rfl
        obtain ⟨m, hn, hl⟩ := I.loc
        obtain ⟨u, r, l⟩ := hl j x v n1 e4 (.inr (.inl kc))
        refine ⟨u, r, ?_⟩
        rcases l with ⟨z, _⟩ | ⟨_, c, hc, hcell⟩
        · dsimp only at kc
          rw [kc] at z; cases z
        · obtain ⟨c', hc'⟩ := lookup_of_mem (clOf_has (env := X.env) scope.names [] n2)
          have ec := cl_cells I S hc'
          rw [hc] at ec
          cases ec
          exact .inr ⟨.inl n3, c, hc', hcell.keeps hk⟩
  · obtain ⟨v, q⟩ := I.cell x c (cl_cells I S h)
    exact ⟨v, q.keeps hk⟩
  · unfold compSt
    rw [List.length_map]
    exact S.len
end
end L2
set_option maxHeartbeats 4000000
namespace L2
open PySem PySem.Spec PyProof.Rows
/-- the tests of a comprehension -/
def PIfs (X : Cx) (ifs : List Expr) (t : TT) : Prop :=
  ∀ (pins : List (Addr × Obj)) (s : Shared) (σ : St) (H : Hp) (Q : Bool → Hp → Prop), Inv X pins σ H s → t σ H Q →
    wpAny (model X.prog X.w) X.A (forIn ifs true fun c r => if r = true then do let ok ← isTrue c X.env (eval c X.env); pure (ForInStep.yield ok) else pure (ForInStep.yield r)) (TP X pins σ Q) X.xe s
def tIf0 : TT := fun _ H Q => Q true H
theorem pifs_nil {X : Cx} : PIfs X [] tIf0 := fun pins s σ H Q I h => wpAny_pure ⟨H, I, h⟩
theorem pifs_one {X : Cx} {c : Expr} {t : TT} (h : PT X c t) : PIfs X [c] t := fun pins s σ H Q I q => wpAny_tests_one (h pins s σ H Q I q)
/-- [elt for tg in iter if ..] with k outer slots: σ₀ the block's names at the start of a turn; D the new list; W: the invariant by the turn and a measure -/
def tComp (ix : List (Option Nat)) (wi : TI) (g : TG) (ti : TT) (te : TE) : TE := fun σ H Q => wi σ H fun J H1 => ∀ D, H1 D = none → ∃ W : Nat → Nat → Hp → Prop, (∃ m, W 0 m (upd H1 D (.lst []))) ∧ ∀ i m H, W i m H →
  (J.stop i H ∧ Q (.ref D) H) ∨ (J.go i H ∧ ∀ x H', J.yld i H x H' → g x (compSt ix σ) H' fun σ2 H2 => (∀ (k : Nat) v, (compSt ix σ)[k]? = some (some v) → σ2[k]? = some (some v)) ∧ ti σ2 H2 fun b H3 =>
    if b = true then te σ2 H3 fun y H4 => ∃ zs, H4 D = some (.lst zs) ∧ zs.length < sizeLine ∧ ∃ m', m' < m ∧ W (i + 1) m' (upd H4 D (.lst (zs ++ [y]))) else ∃ m', m' < m ∧ W (i + 1) m' H3)
section
variable {X : Cx} {N' : List Str} {ix : List (Option Nat)} {scope : Scope} {elt tg iter : Expr} {ifs : List Expr} {pos : Pos} {wi : TI} {g : TG} {ti : TT} {te : TE}
/-- what is known behind the block -/
def CompEnd (X : Cx) (pins : List (Addr × Obj)) (σ : St) (Q : VK) (acc : Value) (C : Addr) (r : Result) (s' : Shared) : Prop :=
  ∃ D H', acc = .ref D ∧ (∃ f, r = .ok f) ∧ Inv X pins σ H' s' ∧ FpOk X pins H' C ∧ (∃ m, s'.heap.Ns C m) ∧ Q (.ref D) H'
theorem comp_loop {X' : Cx} {σ₀ : St} {H : Hp} {s : Shared} {Q : VK} {it D : Addr} {fp : List Addr} {tn : Nat → Heap → Prop} {J : It} {W : Nat → Nat → Hp → Prop} {m0 : Nat} (I : Inv X' [] σ₀ H s) (hcalm : X'.calm = true) (hxe : X'.xe = fun _ _ => False)
    (T : Turn X'.prog X'.w X'.K tg J fp it tn) (st : tn 0 s.heap) (hf : ∀ b ∈ fp, FpOk X' [] H b) (hg : PG X' tg g) (hi : PIfs X' ifs ti) (he : PE X' elt te) (w0 : W 0 m0 H)
    (turn : ∀ i m H, W i m H → (J.stop i H ∧ Q (.ref D) H) ∨ (J.go i H ∧ ∀ x H', J.yld i H x H' → g x σ₀ H' fun σ2 H2 => (∀ (k : Nat) v, σ₀[k]? = some (some v) → σ2[k]? = some (some v)) ∧ ti σ2 H2 fun b H3 =>
        if b = true then te σ2 H3 fun y H4 => ∃ zs, H4 D = some (.lst zs) ∧ zs.length < sizeLine ∧ ∃ m', m' < m ∧ W (i + 1) m' (upd H4 D (.lst (zs ++ [y]))) else ∃ m', m' < m ∧ W (i + 1) m' H3)) :
    codeAny (model X'.prog X'.w) X'.A (.compStart (.ListComp elt [⟨tg, iter, ifs, 0⟩] scope pos) 0 (.ref it) (.ref D) X'.env) (fun r s' => (∃ f, r = .ok f) ∧ ∃ H', Inv X' [] σ₀ H' s' ∧ Q (.ref D) H') s := by
  have stat : ∀ {H' : Hp}, (∀ b ∈ fp, H' b = none) → ∀ b ∈ fp, FpOk X' [] H' b := fun hn b hb => ⟨hn b hb, (hf b hb).2⟩
  have loop : codeAny (model X'.prog X'.w) X'.A (.compLoop (.ListComp elt [⟨tg, iter, ifs, 0⟩] scope pos) 0 (.ref it) (.ref D) X'.env) (fun r s' => (∃ f, r = .ok f) ∧ ∃ H', Inv X' [] σ₀ H' s' ∧ Q (.ref D) H') s := by
    refine codeAny_loop rfl (fun n s' => ∃ i H', Inv X' [] σ₀ H' s' ∧ tn i s'.heap ∧ (∀ b ∈ fp, H' b = none) ∧ W i n H') ?_ m0 ⟨0, H, I, st, fun b hb => (hf b hb).1, w0⟩
    rintro n s1 ⟨i, H1, I1, st1, fr1, w1⟩
    show wpAny _ X'.A ((compTurn (.ListComp elt [⟨tg, iter, ifs, 0⟩] scope pos) 0 (.ref it) (.ref D) X'.env).onRaise (fun x => do noteFrame x X'.env; theTreesLotGoes x)) _ _ s1
    refine wpAny_noted ?_
    have noE : ∀ {α : Type} {t : Sem α} {P : α → Shared → Prop} {F : Value → Shared → Prop} {s : Shared}, wpAny (model X'.prog X'.w) X'.A t P X'.xe s → wpAny (model X'.prog X'.w) X'.A t P F s := fun h => wpAny_mono h (fun _ _ x => x) fun e s' x => by rw [hxe] at x; exact x.elim
    rw [compTurn_list]
    refine wpAny_bind (wpAny_standAt (wpAny_bind ?_))
    rcases turn i n H1 w1 with ⟨stop, qn⟩ | ⟨go, step⟩
    · refine thn (T.done X' rfl rfl rfl hcalm i [] s1 σ₀ H1 _ I1 (stat fr1) st1 stop) fun r s2 ⟨hr, I2⟩ => ?_
      subst hr
      exact wpAny_pure ⟨⟨_, rfl⟩, H1, I2, qn⟩
    · refine thn (T.item X' rfl rfl rfl hcalm i [] s1 σ₀ H1 _ I1 (stat fr1) st1 go) fun r s2 ⟨u, hr, h2⟩ => ?_
      subst hr
      refine wpAny_bind (thn h2 fun _ s3 ⟨x, H3, I3, r3, y3, st3, fr3⟩ => ?_)
      have I3' := I3.pinned (stat fr3) (T.obj _ _ st3)
      refine wpAny_bind (noE (thn (hg _ s3 σ₀ H3 x u _ I3' r3 (step x H3 y3)) fun _ s4 ⟨σ4, H4, I4, hk4, q4⟩ => ?_))
      refine wpAny_bind (noE (thn (hi _ s4 σ4 H4 _ I4 q4) fun ok s5 ⟨H5, I5, q5⟩ => ?_))
      have again' : ∀ {s7 : Shared} {H7 : Hp} {m' : Nat}, Inv X' ([] ++ pinsAt fp s3.heap) σ4 H7 s7 → m' < n → W (i + 1) m' H7 → ∃ m, m < n ∧ ∃ i H', Inv X' [] σ₀ H' s7 ∧ tn i s7.heap ∧ (∀ b ∈ fp, H' b = none) ∧ W i m H' := fun {s7 H7 m'} I7 hm w7 => by
        refine ⟨m', hm, i + 1, H7, I7.unpinned.weak (by rw [I3.len, I7.len]) hk4, T.keep _ _ _ st3 fun b hb o e => (I7.pin (b, o) (List.mem_append_right _ (List.mem_append_right _ (mem_pinsAt hb e)))).1, fun b hb => ?_, w7⟩
        obtain ⟨o, e, d⟩ := T.obj _ _ st3 b hb
        exact (I7.pin (b, o) (List.mem_append_right _ (List.mem_append_right _ (mem_pinsAt hb e)))).2.1
      cases ok with
      | false =>
        obtain ⟨m', hm, w7⟩ := q5
        exact wpAny_pure ⟨rfl, again' I5 hm w7⟩
      | true =>
        refine wpAny_bind (wpAny_bind (noE (thn (he _ s5 σ4 H5 _ I5 q5) fun y s6 ⟨yv, H6, I6, r6, zs, hD, hz, m', hm, w7⟩ => ?_)))
        refine wpAny_bind (noE (thn (mt_append (X := X') _ s6 σ4 H6 (.ref D) [yv] (.ref D) [y] (fun v H7 => H7 = upd H6 D (.lst (zs ++ [yv]))) I6 rfl (.cons r6 .nil) ⟨D, zs, yv, rfl, rfl, hD, hz, rfl⟩) fun v s7 ⟨vv, H7, I7, _, e7⟩ => ?_))
        subst e7
        exact wpAny_pure (wpAny_pure ⟨rfl, again' I7 hm w7⟩)
  refine codeAny_compStart_list loop (T.self _ 0 s _ _ st loop)
theorem comp_block {pins : List (Addr × Obj)} {σ : St} {H : Hp} {s : Shared} {Q : VK} {it : Addr} {fp : List Addr} {tn : Nat → Heap → Prop} {J : It} {E : Value → Shared → Prop} (I : Inv X pins σ H s) (hcalm : X.calm = true) (S : CompScope X N' ix scope)
    (T : Turn X.prog X.w X.K tg J fp it tn) (st : tn 0 s.heap) (hf : ∀ b ∈ fp, FpOk X pins H b)
    (hg : ∀ C s H fp, PG (cxComp X N' scope C s H fp) tg g) (hi : ∀ C s H fp, PIfs (cxComp X N' scope C s H fp) ifs ti) (he : ∀ C s H fp, PE (cxComp X N' scope C s H fp) elt te)
    (h : ∀ D, H D = none → ∃ W : Nat → Nat → Hp → Prop, (∃ m, W 0 m (upd H D (.lst []))) ∧ ∀ i m H, W i m H →
      (J.stop i H ∧ Q (.ref D) H) ∨ (J.go i H ∧ ∀ x H', J.yld i H x H' → g x (compSt ix σ) H' fun σ2 H2 => (∀ (k : Nat) v, (compSt ix σ)[k]? = some (some v) → σ2[k]? = some (some v)) ∧ ti σ2 H2 fun b H3 =>
        if b = true then te σ2 H3 fun y H4 => ∃ zs, H4 D = some (.lst zs) ∧ zs.length < sizeLine ∧ ∃ m', m' < m ∧ W (i + 1) m' (upd H4 D (.lst (zs ++ [y]))) else ∃ m', m' < m ∧ W (i + 1) m' H3)) :
    wpAny (model X.prog X.w) X.A (newList []) (fun acc s3 => wpAny (model X.prog X.w) X.A (newFunctionEnv scope X.env.globals (clOf X.env scope.names []) [] X.env.qual none .none (some X.env)) (fun cenv s4 =>
      codeAny (model X.prog X.w) X.A (.compStart (.ListComp elt [⟨tg, iter, ifs, 0⟩] scope pos) 0 (.ref it) acc { cenv with scope := relabel scope X.env }) (CompEnd X pins σ Q acc cenv.locals) s4) E s3) E s := by
  refine wpAny_newList ?_
  have fresh0 : H s.heap.objs.size = none := I.hok.fresh (Nat.le_refl _)
  have I3 : Inv X pins σ (upd H s.heap.objs.size (.lst [])) { s with heap := s.heap.push { cls := .type "list", data := .seq ([] : List Value).toArray } } :=
    I.laid (t' := s.toks) (fun b u e => Heap.get?_push_of_some _ e) (Nat.le_refl _) ⟨by show 0 ≤ sizeLine; exact Nat.zero_le _, [], 0, .nil, Heap.get?_push_size _ rfl⟩
  obtain ⟨W, ⟨m0, w0⟩, turn⟩ := h s.heap.objs.size fresh0
  generalize hD : s.heap.objs.size = D at *
  have lt0 : ∀ b ∈ fp, b < s.heap.objs.size := fun b hb => by obtain ⟨o, e, _⟩ := T.obj 0 _ st b hb; exact Heap.lt_size e
  have hf3 : ∀ b ∈ fp, FpOk X pins (upd H D (.lst [])) b := fun b hb => by
    have nb : b ≠ D := by rw [← hD]; exact Nat.ne_of_lt (lt0 b hb)
    obtain ⟨f0, fr⟩ := hf b hb
    exact ⟨by rw [upd_ne nb]; exact f0, fr⟩
  have st3 : tn 0 (s.heap.push { cls := .type "list", data := .seq ([] : List Value).toArray }) := T.keep _ _ _ st fun b hb o e => Heap.get?_push_of_some _ e
  revert I3 st3
  generalize (s.heap.push { cls := .type "list", data := .seq ([] : List Value).toArray }) = h3
  intro I3 st3
  have lt3 : ∀ b ∈ fp, b < h3.objs.size := fun b hb => by obtain ⟨o, e, _⟩ := T.obj 0 _ st3 b hb; exact Heap.lt_size e
  refine wpAny_newFunctionEnv S.nocell (fun x hx => nomatch hx) (fun h4 hns hsb => ?_) S.kind
  have k4 : ∀ b o, h3.get? b = some o → h4.get? b = some o := fun b o e => (hsb.2 b (Nat.ne_of_lt (Heap.lt_size e))).trans (Heap.get?_push_of_some _ e)
  have J4 : Inv (cxComp X N' scope h3.objs.size { s with heap := h3 } (upd H D (.lst [])) fp) [] (compSt ix σ) (upd H D (.lst [])) { s with heap := h4, toks := s.toks + ([] : List (Str × Value)).length } :=
    inv_comp (s := { s with heap := h3 }) (tk := s.toks + ([] : List (Str × Value)).length) I3 hcalm S hf3 lt3 hns k4
  have st4 : tn 0 ({ s with heap := h4, toks := s.toks + ([] : List (Str × Value)).length } : Shared).heap := T.keep _ _ _ st3 fun b hb o e => k4 b o e
  have fr4 : ∀ b ∈ fp, upd H D (.lst []) b = none := fun b hb => (hf3 b hb).1
  revert J4 st4
  generalize ({ s with heap := h4, toks := s.toks + ([] : List (Str × Value)).length } : Shared) = s4
  intro J4 st4
  have hf4 : ∀ b ∈ fp, FpOk (cxComp X N' scope h3.objs.size { s with heap := h3 } (upd H D (.lst [])) fp) [] (upd H D (.lst [])) b := fun b hb =>
    ⟨fr4 b hb, Nat.ne_of_lt (lt3 b hb), J4.ok.exfs b hb, .inl hb, fun x c e => (J4.ok.exf b hb).2 x c e, fun p hp => nomatch hp⟩
  refine codeAny_mono (comp_loop (X' := cxComp X N' scope h3.objs.size { s with heap := h3 } (upd H D (.lst [])) fp) (Q := Q) (D := D) J4 rfl rfl T st4 hf4 (hg _ _ _ _) (hi _ _ _ _) (he _ _ _ _) w0 turn) fun r s' ⟨hr, H', J', q'⟩ => ?_
  refine ⟨D, H', rfl, hr, I3.call' J'.os J'.base J'.hok J'.bare fun b hb => ?_, ?_, ?_, q'⟩
  · obtain ⟨_, f1, _, f3, f4, f5⟩ := hf3 b hb
    exact ⟨f3, f1, f4, f5⟩
  · exact I3.fpOk (H' := H') (Nat.le_refl _) J'.free
  · obtain ⟨m, hn, _⟩ := J'.loc
    exact ⟨m, hn⟩
end
end L2
set_option maxHeartbeats 4000000
namespace L2
open PySem PySem.Spec PyProof.Rows
section
variable {X : Cx} {N' : List Str} {ix : List (Option Nat)} {scope : Scope} {elt tg iter : Expr} {ifs : List Expr} {pos : Pos} {wi : TI} {g : TG} {ti : TT} {te : TE}
theorem comp_closure {pins : List (Addr × Obj)} {σ : St} {H : Hp} {s : Shared} (I : Inv X pins σ H s) (S : CompScope X N' ix scope) : closureFor scope X.env = pure (clOf X.env scope.names []) :=
  closureFor_cl fun y hy e => I.ok.has y.1 (.inl (S.free y hy e))
/-- a comprehension as a value -/
theorem pe_comp (hcalm : X.calm = true) (S : CompScope X N' ix scope) (hit : PI X tg iter wi)
    (hg : ∀ C s H fp, PG (cxComp X N' scope C s H fp) tg g) (hi : ∀ C s H fp, PIfs (cxComp X N' scope C s H fp) ifs ti) (he : ∀ C s H fp, PE (cxComp X N' scope C s H fp) elt te)
    (hs : ∀ x, foldedSetIterable iter X.env x = pure x := by intro _; rfl) : PE X (.ListComp elt [⟨tg, iter, ifs, 0⟩] scope pos) (tComp ix wi g ti te) := by
  intro pins s σ H Q I h
  rw [eval_ListComp]
  refine wpAny_comprehension_free (use := none) rfl hs (comp_closure I S) S.kind S.loc (thn (hit pins s σ H _ I h) fun v s1 h1 => thn h1 fun itv s2 h2 => ?_)
  obtain ⟨it, fp, tn, J, H2, rfl, I2, T, st2, f2, q2⟩ := h2
  refine thn (comp_block (E := X.xe) (elt := elt) (iter := iter) (pos := pos) I2 hcalm S T st2 f2 hg hi he q2) fun acc s3 h3 => thn h3 fun cenv s4 h4 => codeAny_mono h4 fun r s' hr => ?_
  obtain ⟨D, H', rfl, ⟨f, rfl⟩, I', ⟨g0, g1, _, g3, g4, g5⟩, ⟨m, hm⟩, q'⟩ := hr
  exact ⟨m, hm, fun h' hsb => ⟨.ref D, H', I'.turned (t' := s'.toks) (fun b o hb e => (hsb.2 b hb).trans e) g0 g1 g3 g4 g5, rfl, q'⟩⟩
/-- name = [comprehension] -/
theorem ps_setComp {i : Nat} {y : Str} {py spos : Pos} (hN : X.N.Nodup) (hy : X.N[i]? = some y) (hly : Loc X.env.scope y) (hcalm : X.calm = true) (S : CompScope X N' ix scope) (hit : PI X tg iter wi)
    (hg : ∀ C s H fp, PG (cxComp X N' scope C s H fp) tg g) (hi : ∀ C s H fp, PIfs (cxComp X N' scope C s H fp) ifs ti) (he : ∀ C s H fp, PE (cxComp X N' scope C s H fp) elt te)
    (hsw : swapsWith (.ListComp elt [⟨tg, iter, ifs, 0⟩] scope pos) (some (.Name y py)) spos.line X.env = pure true := by rfl) (hs : ∀ x, foldedSetIterable iter X.env x = pure x := by intro _; rfl)
    (hf : X.fn y = true ∨ X.env.scope.names.lookup y = some .local := by first | exact .inl rfl | exact .inr rfl | assumption) :
    PS X (.Assign [.Name y py] (.ListComp elt [⟨tg, iter, ifs, 0⟩] scope pos) spos) (tAsg (tComp ix wi g ti te) (gName i)) := by
  intro pins s σ H D I h
  rw [exec_Assign_Name_used _ _ _ _ hsw]
  refine wpAny_bind (wpAny_standAt (wpAny_bind ?_))
  show wpAny _ X.A (do let _ ← comprehension (.ListComp elt [⟨tg, iter, ifs, 0⟩] scope pos) scope X.env _ (newList []) false (eval iter X.env) (some (assign (.Name y py) X.env))) _ _ s
  refine wpAny_bind (thn (wpAny_comprehension_free (use := some (assign (.Name y py) X.env)) (Q := fun _ s' => SP X pins D .next s') rfl hs (comp_closure I S) S.kind S.loc (thn (hit pins s σ H _ I h) fun v s1 h1 => thn h1 fun itv s2 h2 => ?_)) fun _ s' hq => wpAny_pure (wpAny_pure hq))
  obtain ⟨it, fp, tn, J, H2, rfl, I2, T, st2, f2, q2⟩ := h2
  refine thn (comp_block (E := X.xe) (Q := fun x H1 => gName i x σ H1 D.nx) (elt := elt) (iter := iter) (pos := pos) I2 hcalm S T st2 f2 hg hi he q2) fun acc s3 h3 => thn h3 fun cenv s4 h4 => codeAny_mono h4 fun r s' hr => ?_
  obtain ⟨A, H', rfl, ⟨f, rfl⟩, I', ⟨g0, g1, g2, g3, g4, g5⟩, ⟨m, hm⟩, q'⟩ := hr
  show wpAny _ X.A (assign (.Name y py) X.env (.ref A)) _ _ _
  refine wpAny_assign_Name (store_ok2 I' hN hy hly (v := .ref A) rfl (fun s5 I5 ⟨a, hsb, ha⟩ => ?_) hf)
  have na : cenv.locals ≠ a := by
    rcases ha with z | z
    · rw [z]; exact g1
    · exact (g4 y a z).symm
  exact ⟨m, hm.sameBut hsb na, fun h' hsb' => ⟨_, H', I5.turned (t' := s5.toks) (fun b o hb e => (hsb'.2 b hb).trans e) g0 g1 g3 g4 g5, q'⟩⟩
end
end L2
set_option maxHeartbeats 4000000
namespace L2
open PySem PySem.Spec PyProof.Rows PySem.Builtin.SmallTypes
/-- the iterator of a list (b) or of a tuple -/
def SqI (h : Heap) (b : Bool) (it a : Addr) (k : Nat) : Prop := match b with
  | true => h.IsListIter it a k
  | false => h.IsTupleIter it a k
def SqH (h : Heap) (b : Bool) (a : Addr) (its : Array Value) : Prop := match b with
  | true => h.IsList a its
  | false => h.IsTuple a its
theorem SqI.ext {h h' : Heap} {b : Bool} {it a c : Addr} {k : Nat} (x : SqI h b it a k) (e : Heap.ExtBut c h h') (n : it ≠ c) : SqI h' b it a k := by
  cases b with
  | true => exact Heap.IsListIter.at (h := h) x fun o q => e it o n q
  | false => exact Heap.IsTupleIter.at (h := h) x fun o q => e it o n q
theorem SqI.keep {h h' : Heap} {b : Bool} {it a : Addr} {k : Nat} (x : SqI h b it a k) (e : ∀ o, h.get? it = some o → h'.get? it = some o) : SqI h' b it a k := by
  cases b with
  | true => exact Heap.IsListIter.at (h := h) x e
  | false => exact Heap.IsTupleIter.at (h := h) x e
theorem SqH.ext {h h' : Heap} {b : Bool} {a c : Addr} {its : Array Value} (x : SqH h b a its) (e : Heap.ExtBut c h h') (n : a ≠ c) : SqH h' b a its := by
  cases b with
  | true => exact Heap.IsList.at (h := h) x fun o q => e a o n q
  | false =>
    obtain ⟨o, h1, h2⟩ := (show h.IsTuple a its from x)
    exact (show h'.IsTuple a its from ⟨o, e a o n h1, h2⟩)
theorem SqH.keep {h h' : Heap} {b : Bool} {a : Addr} {its : Array Value} (x : SqH h b a its) (e : ∀ o, h.get? a = some o → h'.get? a = some o) : SqH h' b a its := by
  cases b with
  | true => exact Heap.IsList.at (h := h) x e
  | false =>
    obtain ⟨o, h1, h2⟩ := (show h.IsTuple a its from x)
    exact (show h'.IsTuple a its from ⟨o, e o h1, h2⟩)
theorem SqI.obj {h : Heap} {b : Bool} {it a : Addr} {k : Nat} (x : SqI h b it a k) : ∃ o, h.get? it = some o ∧ ∃ vs, o.data = .fields vs := by
  cases b with
  | true => obtain ⟨o, h1, _, h3⟩ := (show h.IsListIter it a k from x); exact ⟨o, h1, _, h3⟩
  | false => obtain ⟨o, h1, _, h3⟩ := (show h.IsTupleIter it a k from x); exact ⟨o, h1, _, h3⟩
section
variable {prog : Program} {w : World} {A : Around} {E : Value → Shared → Prop} {s : Shared}
theorem tupIt_next {it t : Addr} {i : Nat} {its : Array Value} {x : Value} {Q : Value → Shared → Prop} (hi : s.heap.IsTupleIter it t i) (ht : s.heap.IsTuple t its) (hx : its[i]? = some x)
    (hq : ∀ h', h'.IsTupleIter it t (i + 1) → Heap.SameBut it s.heap h' → Q x { s with heap := h' }) : wpAny (model prog w) A (nextOf (.ref it)) Q E s := by
  obtain ⟨oi, e1, ec, ed⟩ := id hi
  obtain ⟨ot, e2, _, nt, et⟩ := ht
  (unfold nextOf; refine wpAny_bind (wpAny_callSpecial?_slot (name := Str.ofString "__next__") hi.typeIs F.slot_tuple_iterator_next (wpAny_call_entry F.slot_tuple_iterator_next hi.typeIs F.entry_tuple_iterator_next ?_ (F.args_tuple_iterator_next_1 _))))
  (show wpAny _ _ (field (.ref it) 0 >>= _) _ _ s; refine wpAny_bind (wpAny_field e1 ed (x := .ref t) rfl ?_))
  (show wpAny _ _ (if (Value.ref t == Value.none) = true then _ else _) _ _ s; rw [if_neg (show ¬ ((Value.ref t == Value.none) = true) from Bool.false_ne_true)])
  (show wpAny _ _ (field (.ref it) 1 >>= _) _ _ s; refine wpAny_bind (wpAny_field e1 ed (x := .int i 0) rfl ?_))
  (show wpAny _ _ (seqItems? (.ref t) >>= _) _ _ s; refine wpAny_bind (wpAny_seqItems e2 et ?_))
  simp only [Int.toNat_natCast, hx]
  refine wpAny_bind (wpAny_setField e1 ed (by simp) (wpAny_pure ⟨x, rfl, wpAny_pure (hq _ ?_ (Heap.SameBut.update ..))⟩))
  exact ⟨_, Heap.get?_update_self _ e1 (Obj.isFreed_of_fields (Obj.data_mapFields ed _)), (Obj.cls_mapFields ..).trans ec, by rw [Obj.data_mapFields ed]; simp [rawInt]⟩
theorem tupIt_end {it t : Addr} {i : Nat} {its : Array Value} {Q : Value → Shared → Prop} (hh : A.handled = none) (hi : s.heap.IsTupleIter it t i) (ht : s.heap.IsTuple t its) (hx : its[i]? = none)
    (hE : ∀ h' e, Heap.ExtBut it s.heap h' → (∃ o, h'.get? e = some o ∧ o.cls = .type "StopIteration") → E (.ref e) { s with heap := h' }) : wpAny (model prog w) A (nextOf (.ref it)) Q E s := by
  obtain ⟨oi, e1, ec, ed⟩ := id hi
  obtain ⟨ot, e2, _, nt, et⟩ := ht
  (unfold nextOf; refine wpAny_bind (wpAny_callSpecial?_slot (name := Str.ofString "__next__") hi.typeIs F.slot_tuple_iterator_next (wpAny_call_entry F.slot_tuple_iterator_next hi.typeIs F.entry_tuple_iterator_next ?_ (F.args_tuple_iterator_next_1 _))))
  (show wpAny _ _ (field (.ref it) 0 >>= _) _ _ s; refine wpAny_bind (wpAny_field e1 ed (x := .ref t) rfl ?_))
  (show wpAny _ _ (if (Value.ref t == Value.none) = true then _ else _) _ _ s; rw [if_neg (show ¬ ((Value.ref t == Value.none) = true) from Bool.false_ne_true)])
  (show wpAny _ _ (field (.ref it) 1 >>= _) _ _ s; refine wpAny_bind (wpAny_field e1 ed (x := .int i 0) rfl ?_))
  (show wpAny _ _ (seqItems? (.ref t) >>= _) _ _ s; refine wpAny_bind (wpAny_seqItems e2 et ?_))
  simp only [Int.toNat_natCast, hx]
  refine wpAny_bind (wpAny_rule (wpAny_bind (wpAny_setField e1 ed (by simp) ?_)))
  (show wpAny _ _ (newExc (.type "StopIteration") [] >>= _) _ _ _; refine wpAny_bind ?_)
  (simp only [newExc, newTuple]; refine wpAny_bind (wpAny_newObj_type ?_ (by size_fits)))
  refine wpAny_bind (m := firstArgMember _ _) (wpAny_of_eq (a := Value.none) (by rfl) ?_)
  refine wpAny_newObj_type ?_ (by size_fits)
  (simp only [raiseNew]; refine wpAny_bind (wpAny_handled ?_))
  rw [show A.in1.handled = none from hh]
  refine wpAny_bind (wpAny_pure (wpAny_throw ?_))
  exact hE _ _ (((Heap.SameBut.update ..).extBut.push _).push _) ⟨_, Heap.get?_push_size _ rfl, rfl⟩
theorem sq_next {b : Bool} {it a : Addr} {i : Nat} {its : Array Value} {x : Value} {Q : Value → Shared → Prop} (hi : SqI s.heap b it a i) (ha : SqH s.heap b a its) (hx : its[i]? = some x)
    (hq : ∀ h', SqI h' b it a (i + 1) → Heap.SameBut it s.heap h' → Q x { s with heap := h' }) : wpAny (model prog w) A (nextOf (.ref it)) Q E s := by
  cases b with
  | true => exact wpAny_nextOf_list_item hi ha hx hq
  | false => exact tupIt_next hi ha hx hq
theorem sq_end {b : Bool} {it a : Addr} {i : Nat} {its : Array Value} {Q : Value → Shared → Prop} (hh : A.handled = none) (hi : SqI s.heap b it a i) (ha : SqH s.heap b a its) (hx : its[i]? = none)
    (hE : ∀ h' e, Heap.ExtBut it s.heap h' → (∃ o, h'.get? e = some o ∧ o.cls = .type "StopIteration") → E (.ref e) { s with heap := h' }) : wpAny (model prog w) A (nextOf (.ref it)) Q E s := by
  cases b with
  | true => exact wpAny_nextOf_list_end hh hi ha hx hE
  | false => exact tupIt_end hh hi ha hx hE
theorem sq_iter {b : Bool} {a : Addr} {its : Array Value} {Q : Value → Shared → Prop} (ha : SqH s.heap b a its)
    (hq : ∀ h', (∀ c o, s.heap.get? c = some o → h'.get? c = some o) → h'.objs.size = s.heap.objs.size + 1 → SqI h' b s.heap.objs.size a 0 → Q (.ref s.heap.objs.size) { s with heap := h' }) : wpAny (model prog w) A (pyIter (.ref a)) Q E s := by
  cases b with
  | true => exact wpAny_pyIter_list ha (hq _ (fun _ _ e => Heap.get?_push_of_some _ e) (Heap.size_push ..) ⟨_, Heap.get?_push_size _ rfl, rfl, rfl⟩)
  | false => exact wpAny_pyIter_tuple ha (hq _ (fun _ _ e => Heap.get?_push_of_some _ e) (Heap.size_push ..) ⟨_, Heap.get?_push_size _ rfl, rfl, rfl⟩)
variable {z TI TO i1 i2 l1 l2 : Addr} {b1 b2 : Bool} {k1 k2 : Nat} {xs ys : Array Value} {x y a b : Value}
theorem zipS_item {Q : Value → Shared → Prop} (D : ZipApart z TI TO i1 i2 l1 l2) (hz : IsZip s.heap z TI TO .none) (hTI : IsPair s.heap TI (.ref i1) (.ref i2)) (hTO : IsPair s.heap TO a b)
    (h1 : SqI s.heap b1 i1 l1 k1) (h2 : SqI s.heap b2 i2 l2 k2) (hl1 : SqH s.heap b1 l1 xs) (hl2 : SqH s.heap b2 l2 ys) (hx : xs[k1]? = some x) (hy : ys[k2]? = some y)
    (hq : ∀ h', IsZip h' z TI TO (rawInt s.heap.objs.size) → IsPair h' TO x y → SqI h' b1 i1 l1 (k1 + 1) → SqI h' b2 i2 l2 (k2 + 1) → IsPair h' s.heap.objs.size x y → h'.objs.size = s.heap.objs.size + 1 →
      (∀ c o, c ≠ z → c ≠ TO → c ≠ i1 → c ≠ i2 → s.heap.get? c = some o → h'.get? c = some o) → Q (.ref s.heap.objs.size) { s with heap := h' }) :
    wpAny (model prog w) A (Builtin.«zip.__next__» ⟨[.ref z], []⟩) (fun fin s' => ∃ v, fin = .done (.ret v) ∧ Q v s') E s := by
  (show wpAny _ _ (field (.ref z) 2 >>= _) _ _ _; refine wpAny_bind (wpAny_field hz rfl (x := .bool false) rfl ?_))
  (show wpAny _ _ (field (.ref z) 3 >>= _) _ _ _; refine wpAny_bind (wpAny_field hz rfl (x := .ref TI) rfl (wpAny_bind (wpAny_seqItems hTI rfl ?_))))
  (show wpAny _ _ (ownedTupleIsFree (.ref z) >>= _) _ _ _; refine wpAny_bind ?_)
  (unfold ownedTupleIsFree; refine wpAny_bind (wpAny_field hz rfl (x := .none) rfl (wpAny_pure ?_)))
  (simp only [if_true]; refine wpAny_bind (wpAny_rule (wpAny_bind (wpAny_field hz rfl (x := .ref TO) rfl ?_))))
  refine wpAny_bind (wpAny_setField_rec hz (by simp) fun g1 z1 s1 => ?_)
  replace z1 : IsZip g1 z TI TO .ellipsis := z1
  (refine wpAny_bind ?_; simp only [List.zipIdx_cons, List.zipIdx_nil, List.forIn_cons, List.forIn_nil])
  (refine wpAny_bind (wpAny_bind (wpAny_onRaise ?_)); show wpAny _ _ (nextOf (.ref i1) >>= _) _ _ _)
  refine wpAny_bind (sq_next (h1.ext s1.extBut D.i1z) (hl1.ext s1.extBut D.l1z) hx fun g2 p2 s2 => wpAny_pure ?_)
  have t2 : IsPair g2 TO a b := s2.extBut _ _ D.TOi1 (s1.extBut _ _ D.TOz hTO)
  refine wpAny_bind (wpAny_seqItems t2 rfl (wpAny_bind (wpAny_updateSeq_pair t2 fun g3 t3 s3 => ?_)))
  replace t3 : IsPair g3 TO x b := t3
  (refine wpAny_bind (wpAny_letGo (wpAny_pure ?_)); refine wpAny_bind (wpAny_bind (wpAny_onRaise ?_)); show wpAny _ _ (nextOf (.ref i2) >>= _) _ _ _)
  refine wpAny_bind (sq_next (((h2.ext s1.extBut D.i2z).ext s2.extBut D.i12.symm).ext s3.extBut D.TOi2.symm) (((hl2.ext s1.extBut D.l2z).ext s2.extBut D.l2i1).ext s3.extBut D.l2TO) hy fun g4 p4 s4 => wpAny_pure ?_)
  have t4 : IsPair g4 TO x b := s4.extBut _ _ D.TOi2 t3
  refine wpAny_bind (wpAny_seqItems t4 rfl (wpAny_bind (wpAny_updateSeq_pair t4 fun g5 t5 s5 => ?_)))
  replace t5 : IsPair g5 TO x y := t5
  (refine wpAny_bind (wpAny_letGo (wpAny_pure (wpAny_pure ?_))); refine wpAny_bind (wpAny_seqItems t5 rfl (wpAny_bind (wpAny_newTuple ?_))))
  have ez : g5.objs.size = s.heap.objs.size := by rw [s5.1, s4.1, s3.1, s2.1, s1.1]
  have z5 : IsZip g5 z TI TO .ellipsis := s5.extBut _ _ D.TOz.symm (s4.extBut _ _ D.i2z.symm (s3.extBut _ _ D.TOz.symm (s2.extBut _ _ D.i1z.symm z1)))
  have kp : ∀ c o, c ≠ z → c ≠ TO → c ≠ i1 → c ≠ i2 → s.heap.get? c = some o → g5.get? c = some o := fun c o c1 c2 c3 c4 e => s5.extBut _ _ c2 (s4.extBut _ _ c4 (s3.extBut _ _ c2 (s2.extBut _ _ c3 (s1.extBut _ _ c1 e))))
  have p1 : SqI g5 b1 i1 l1 (k1 + 1) := ((p2.ext s3.extBut D.TOi1.symm).ext s4.extBut D.i12).ext s5.extBut D.TOi1.symm
  have p5 : SqI g5 b2 i2 l2 (k2 + 1) := p4.ext s5.extBut D.TOi2.symm
  have q1 : i1 < g5.objs.size := let ⟨_, e, _⟩ := p1.obj; Heap.lt_size e
  have q2 : i2 < g5.objs.size := let ⟨_, e, _⟩ := p5.obj; Heap.lt_size e
  (show wpAny _ _ (ownedTupleHandOut (.ref z) (.ref g5.objs.size) >>= _) _ _ _; refine wpAny_bind ?_; unfold ownedTupleHandOut)
  have z6 : IsZip (g5.push { cls := .type "tuple", data := .seq #[x, y] }) z TI TO .ellipsis := Heap.get?_push_of_some _ z5
  refine wpAny_bind (wpAny_setField_rec z6 (by simp) fun g7 z7 s7 => ?_)
  replace z7 : IsZip g7 z TI TO (rawInt g5.objs.size) := z7
  refine wpAny_setField_rec z7 (by simp) fun g8 z8 s8 => ?_
  replace z8 : IsZip g8 z TI TO (rawInt g5.objs.size) := z8
  have up : ∀ c o, c ≠ z → g5.get? c = some o → g8.get? c = some o := fun c o c1 e => s8.extBut _ _ c1 (s7.extBut _ _ c1 (Heap.get?_push_of_some _ e))
  have nT : g5.objs.size ≠ z := Nat.ne_of_gt (Heap.lt_size z5)
  have T8 : IsPair g8 g5.objs.size x y := s8.extBut _ _ nT (s7.extBut _ _ nT (Heap.get?_push_size _ rfl))
  have e8 : g8.objs.size = g5.objs.size + 1 := by rw [s8.1, s7.1, Heap.size_push]
  refine wpAny_pure ⟨_, rfl, ?_⟩
  rw [ez] at z8 T8 e8 ⊢
  exact hq g8 z8 (up _ _ D.TOz t5) (p1.keep fun o e => up _ o D.i1z e) (p5.keep fun o e => up _ o D.i2z e) T8 e8 fun c o c1 c2 c3 c4 e => up c o c1 (kp c o c1 c2 c3 c4 e)
theorem zipS_end {Q : Fin → Shared → Prop} (hh : A.handled = none) (D : ZipApart z TI TO i1 i2 l1 l2) (hz : IsZip s.heap z TI TO .none) (hTI : IsPair s.heap TI (.ref i1) (.ref i2)) (hTO : IsPair s.heap TO a b)
    (h1 : SqI s.heap b1 i1 l1 k1) (h2 : SqI s.heap b2 i2 l2 k2) (hl1 : SqH s.heap b1 l1 xs) (hl2 : SqH s.heap b2 l2 ys) (hend : xs[k1]? = none ∨ ys[k2]? = none)
    (hE : ∀ h' e, (∀ c o, c ≠ z → c ≠ TO → c ≠ i1 → c ≠ i2 → s.heap.get? c = some o → h'.get? c = some o) → (∃ o, h'.get? e = some o ∧ o.cls = .type "StopIteration") → E (.ref e) { s with heap := h' }) :
    wpAny (model prog w) A (Builtin.«zip.__next__» ⟨[.ref z], []⟩) Q E s := by
  (show wpAny _ _ (field (.ref z) 2 >>= _) _ _ _; refine wpAny_bind (wpAny_field hz rfl (x := .bool false) rfl ?_))
  (show wpAny _ _ (field (.ref z) 3 >>= _) _ _ _; refine wpAny_bind (wpAny_field hz rfl (x := .ref TI) rfl (wpAny_bind (wpAny_seqItems hTI rfl ?_))))
  (show wpAny _ _ (ownedTupleIsFree (.ref z) >>= _) _ _ _; refine wpAny_bind ?_)
  (unfold ownedTupleIsFree; refine wpAny_bind (wpAny_field hz rfl (x := .none) rfl (wpAny_pure ?_)))
  (simp only [if_true]; refine wpAny_bind (wpAny_rule (wpAny_bind (wpAny_field hz rfl (x := .ref TO) rfl ?_))))
  refine wpAny_bind (wpAny_setField_rec hz (by simp) fun g1 z1 s1 => ?_)
  replace z1 : IsZip g1 z TI TO .ellipsis := z1
  (refine wpAny_bind ?_; simp only [List.zipIdx_cons, List.zipIdx_nil, List.forIn_cons, List.forIn_nil])
  (refine wpAny_bind (wpAny_bind (wpAny_onRaise ?_)); show wpAny _ _ (nextOf (.ref i1) >>= _) _ _ _)
  cases ex : xs[k1]? with
  | none =>
    refine wpAny_bind (sq_end hh (h1.ext s1.extBut D.i1z) (hl1.ext s1.extBut D.l1z) ex fun g2 e s2 ⟨oe, he, ce⟩ => ?_)
    have z2 : IsZip g2 z TI TO .ellipsis := s2 _ _ D.i1z.symm z1
    have nez : e ≠ z := fun q => by subst q; rw [z2] at he; cases he; simp at ce
    exact wpAny_setField_rec z2 (by simp) fun g3 _ s3 => hE g3 e (fun c o c1 _ c3 _ q => s3.extBut _ _ c1 (s2 _ _ c3 (s1.extBut _ _ c1 q))) ⟨oe, s3.extBut _ _ nez he, ce⟩
  | some x =>
    have ey : ys[k2]? = none := by rcases hend with q | q; rw [ex] at q; cases q; exact q
    refine wpAny_bind (sq_next (h1.ext s1.extBut D.i1z) (hl1.ext s1.extBut D.l1z) ex fun g2 p2 s2 => wpAny_pure ?_)
    have t2 : IsPair g2 TO a b := s2.extBut _ _ D.TOi1 (s1.extBut _ _ D.TOz hTO)
    refine wpAny_bind (wpAny_seqItems t2 rfl (wpAny_bind (wpAny_updateSeq_pair t2 fun g3 t3 s3 => ?_)))
    (refine wpAny_bind (wpAny_letGo (wpAny_pure ?_)); refine wpAny_bind (wpAny_bind (wpAny_onRaise ?_)); show wpAny _ _ (nextOf (.ref i2) >>= _) _ _ _)
    refine wpAny_bind (sq_end hh (((h2.ext s1.extBut D.i2z).ext s2.extBut D.i12.symm).ext s3.extBut D.TOi2.symm) (((hl2.ext s1.extBut D.l2z).ext s2.extBut D.l2i1).ext s3.extBut D.l2TO) ey fun g4 e s4 ⟨oe, he, ce⟩ => ?_)
    have z4 : IsZip g4 z TI TO .ellipsis := s4 _ _ D.i2z.symm (s3.extBut _ _ D.TOz.symm (s2.extBut _ _ D.i1z.symm z1))
    have nez : e ≠ z := fun q => by subst q; rw [z4] at he; cases he; simp at ce
    exact wpAny_setField_rec z4 (by simp) fun g5 _ s5 => hE g5 e (fun c o c1 c2 c3 c4 q => s5.extBut _ _ c1 (s4 _ _ c4 (s3.extBut _ _ c2 (s2.extBut _ _ c3 (s1.extBut _ _ c1 q))))) ⟨oe, s5.extBut _ _ nez he, ce⟩
end
end L2
set_option maxHeartbeats 4000000
namespace L2
open PySem PySem.Spec PyProof.Rows PySem.Builtin.SmallTypes
def itName : Bool → String
  | true => "list_iterator"
  | false => "tuple_iterator"
abbrev zg1 (h : Heap) (b1 : Bool) (l1 : Addr) : Heap := h.push { cls := .type (itName b1), data := .fields #[.ref l1, .int 0 0] }
abbrev zg2 (h : Heap) (b1 b2 : Bool) (l1 l2 : Addr) : Heap := (zg1 h b1 l1).push { cls := .type (itName b2), data := .fields #[.ref l2, .int 0 0] }
abbrev zg3 (h : Heap) (b1 b2 : Bool) (l1 l2 : Addr) : Heap := (zg2 h b1 b2 l1 l2).push { cls := .type "tuple", data := .seq #[.ref h.objs.size, .ref (zg1 h b1 l1).objs.size] }
abbrev zg4 (h : Heap) (b1 b2 : Bool) (l1 l2 : Addr) : Heap := (zg3 h b1 b2 l1 l2).push { cls := .type "tuple", data := .seq #[.none, .none] }
abbrev zg5 (h : Heap) (b1 b2 : Bool) (l1 l2 : Addr) : Heap := (zg4 h b1 b2 l1 l2).push { cls := .type "zip", data := .fields #[.none, .bool false, .bool false, .ref (zg2 h b1 b2 l1 l2).objs.size, .ref (zg3 h b1 b2 l1 l2).objs.size] }
theorem meetsZip (b1 b2 : Bool) (l1 l2 : Addr) (xs ys : Array Value) :
    Meets (Builtin.«zip.__new__» ⟨[.type "zip", .ref l1, .ref l2], []⟩) (fun _ R s => SqH s.heap b1 l1 xs ∧ SqH s.heap b2 l2 ys ∧
      R (.ok (.ret (.ref (zg4 s.heap b1 b2 l1 l2).objs.size))) { s with heap := zg5 s.heap b1 b2 l1 l2 }) :=
  .of_wp fun prog w A R s h => by
    obtain ⟨hp, g, d, tk, os⟩ := s; obtain ⟨q1, q2, h⟩ := h
    have hsub := sub_zip
    cases b1 with
    | true =>
      have g1 : Heap.IsList (Shared.heap ⟨hp, g, d, tk, os⟩) l1 xs := q1
      cases b2 with
      | true =>
        have g2 : Heap.IsList (Shared.heap ⟨hp.push { cls := .type "list_iterator", data := .fields #[.ref l1, .int 0 0] }, g, d, tk, os⟩) l2 ys := Heap.IsList.push (show hp.IsList l2 ys from q2) _
        wp_walk using wpAny_pyIter_list g1, wpAny_pyIter_list g2
        exact ⟨_, rfl, h⟩
      | false =>
        have g2 : Heap.IsTuple (Shared.heap ⟨hp.push { cls := .type "list_iterator", data := .fields #[.ref l1, .int 0 0] }, g, d, tk, os⟩) l2 ys := Heap.IsTuple.push (show hp.IsTuple l2 ys from q2) _
        wp_walk using wpAny_pyIter_list g1, wpAny_pyIter_tuple g2
        exact ⟨_, rfl, h⟩
    | false =>
      have g1 : Heap.IsTuple (Shared.heap ⟨hp, g, d, tk, os⟩) l1 xs := q1
      cases b2 with
      | true =>
        have g2 : Heap.IsList (Shared.heap ⟨hp.push { cls := .type "tuple_iterator", data := .fields #[.ref l1, .int 0 0] }, g, d, tk, os⟩) l2 ys := Heap.IsList.push (show hp.IsList l2 ys from q2) _
        wp_walk using wpAny_pyIter_tuple g1, wpAny_pyIter_list g2
        exact ⟨_, rfl, h⟩
      | false =>
        have g2 : Heap.IsTuple (Shared.heap ⟨hp.push { cls := .type "tuple_iterator", data := .fields #[.ref l1, .int 0 0] }, g, d, tk, os⟩) l2 ys := Heap.IsTuple.push (show hp.IsTuple l2 ys from q2) _
        wp_walk using wpAny_pyIter_tuple g1, wpAny_pyIter_tuple g2
        exact ⟨_, rfl, h⟩
theorem sqi_new {h : Heap} {b : Bool} {it a : Addr} (e : h.get? it = some { cls := .type (itName b), data := .fields #[.ref a, .int 0 0] }) : SqI h b it a 0 := by
  cases b with
  | true => exact (show h.IsListIter it a 0 from ⟨_, e, rfl, rfl⟩)
  | false => exact (show h.IsTupleIter it a 0 from ⟨_, e, rfl, rfl⟩)
section
variable {prog : Program} {w : World} {A : Around} {E : Value → Shared → Prop} {s : Shared}
theorem call_zipS {b1 b2 : Bool} {l1 l2 : Addr} {xs ys : Array Value} {Q : Value → Shared → Prop} (q1 : SqH s.heap b1 l1 xs) (q2 : SqH s.heap b2 l2 ys)
    (hq : ∀ h', IsZip h' (s.heap.objs.size + 4) (s.heap.objs.size + 2) (s.heap.objs.size + 3) .none → IsPair h' (s.heap.objs.size + 2) (.ref s.heap.objs.size) (.ref (s.heap.objs.size + 1)) → IsPair h' (s.heap.objs.size + 3) .none .none →
      SqI h' b1 s.heap.objs.size l1 0 → SqI h' b2 (s.heap.objs.size + 1) l2 0 → (∀ c o, s.heap.get? c = some o → h'.get? c = some o) → Q (.ref (s.heap.objs.size + 4)) { s with heap := h' }) :
    wpAny (model prog w) A (call (.type "zip") [.ref l1, .ref l2]) Q E s := by
  refine callType_new F.called_zip (by decide) (F.typeCall_zip_2 _ _) (F.newCall_zip_2 _ _) (fun obj => F.args_object_init_3 obj _ _) F.entry_zip_new (meetsZip b1 b2 l1 l2 xs ys) ⟨q1, q2, ?_⟩
  have n1 : (zg1 s.heap b1 l1).objs.size = s.heap.objs.size + 1 := Heap.size_push ..
  have n2 : (zg2 s.heap b1 b2 l1 l2).objs.size = s.heap.objs.size + 2 := by rw [Heap.size_push, n1]
  have n3 : (zg3 s.heap b1 b2 l1 l2).objs.size = s.heap.objs.size + 3 := by rw [Heap.size_push, n2]
  have n4 : (zg4 s.heap b1 b2 l1 l2).objs.size = s.heap.objs.size + 4 := by rw [Heap.size_push, n3]
  have p5 : (zg5 s.heap b1 b2 l1 l2).get? (zg4 s.heap b1 b2 l1 l2).objs.size = some _ := Heap.get?_push_size _ rfl
  have p4 : (zg5 s.heap b1 b2 l1 l2).get? (zg3 s.heap b1 b2 l1 l2).objs.size = some _ := Heap.get?_push_of_some _ (Heap.get?_push_size _ rfl)
  have p3 : (zg5 s.heap b1 b2 l1 l2).get? (zg2 s.heap b1 b2 l1 l2).objs.size = some _ := Heap.get?_push_of_some _ (Heap.get?_push_of_some _ (Heap.get?_push_size _ rfl))
  have p2 : (zg5 s.heap b1 b2 l1 l2).get? (zg1 s.heap b1 l1).objs.size = some _ := Heap.get?_push_of_some _ (Heap.get?_push_of_some _ (Heap.get?_push_of_some _ (Heap.get?_push_size _ rfl)))
  have p1 : (zg5 s.heap b1 b2 l1 l2).get? s.heap.objs.size = some _ := Heap.get?_push_of_some _ (Heap.get?_push_of_some _ (Heap.get?_push_of_some _ (Heap.get?_push_of_some _ (Heap.get?_push_size _ rfl))))
  rw [n2, n3, n4] at p5
  rw [n1, n2] at p3
  rw [n3] at p4
  rw [n1] at p2
  show _ ∧ _
  rw [n4]
  exact ⟨⟨_, p5, rfl⟩, hq _ p5 p3 p4 (sqi_new p1) (sqi_new p2) fun c o e => Heap.get?_push_of_some _ (Heap.get?_push_of_some _ (Heap.get?_push_of_some _ (Heap.get?_push_of_some _ (Heap.get?_push_of_some _ e))))⟩
variable {z TI TO i1 i2 l1 l2 : Addr} {b1 b2 : Bool} {k1 k2 : Nat} {xs ys : Array Value} {x y a b : Value}
theorem nextZip_item {Q : Option Value → Shared → Prop} (D : ZipApart z TI TO i1 i2 l1 l2) (hz : IsZip s.heap z TI TO .none) (hTI : IsPair s.heap TI (.ref i1) (.ref i2)) (hTO : IsPair s.heap TO a b)
    (h1 : SqI s.heap b1 i1 l1 k1) (h2 : SqI s.heap b2 i2 l2 k2) (hl1 : SqH s.heap b1 l1 xs) (hl2 : SqH s.heap b2 l2 ys) (hx : xs[k1]? = some x) (hy : ys[k2]? = some y)
    (hq : ∀ h', IsZip h' z TI TO (rawInt s.heap.objs.size) → IsPair h' TO x y → SqI h' b1 i1 l1 (k1 + 1) → SqI h' b2 i2 l2 (k2 + 1) → IsPair h' s.heap.objs.size x y →
      (∀ c o, c ≠ z → c ≠ TO → c ≠ i1 → c ≠ i2 → s.heap.get? c = some o → h'.get? c = some o) → Q (some (.ref s.heap.objs.size)) { s with heap := h' }) : wpAny (model prog w) A (pyNext (.ref z)) Q E s := by
  have ty : s.TypeIs (.ref z) "zip" := ⟨_, hz, rfl⟩
  (unfold pyNext; exact wpAny_bind (wpAny_attempt (wpAny_callSpecial?_slot (name := Str.ofString "__next__") ty F.slot_zip_next (wpAny_call_entry F.slot_zip_next ty F.entry_zip_next (zipS_item D hz hTI hTO h1 h2 hl1 hl2 hx hy fun h' a1 a2 a3 a4 a5 _ a7 => wpAny_pure (hq h' a1 a2 a3 a4 a5 a7)) (F.args_zip_next_1 _)))))
theorem nextZip_end {Q : Option Value → Shared → Prop} (hh : A.handled = none) (D : ZipApart z TI TO i1 i2 l1 l2) (hz : IsZip s.heap z TI TO .none) (hTI : IsPair s.heap TI (.ref i1) (.ref i2)) (hTO : IsPair s.heap TO a b)
    (h1 : SqI s.heap b1 i1 l1 k1) (h2 : SqI s.heap b2 i2 l2 k2) (hl1 : SqH s.heap b1 l1 xs) (hl2 : SqH s.heap b2 l2 ys) (hend : xs[k1]? = none ∨ ys[k2]? = none)
    (hq : ∀ h', (∀ c o, c ≠ z → c ≠ TO → c ≠ i1 → c ≠ i2 → s.heap.get? c = some o → h'.get? c = some o) → Q none { s with heap := h' }) : wpAny (model prog w) A (pyNext (.ref z)) Q E s := by
  have ty : s.TypeIs (.ref z) "zip" := ⟨_, hz, rfl⟩
  (unfold pyNext; refine wpAny_bind (wpAny_attempt (wpAny_callSpecial?_slot (name := Str.ofString "__next__") ty F.slot_zip_next (wpAny_call_entry F.slot_zip_next ty F.entry_zip_next (zipS_end hh D hz hTI hTO h1 h2 hl1 hl2 hend fun h' e hk ⟨o, ho, hc⟩ => ?_) (F.args_zip_next_1 _)))))
  exact wpAny_bind (wpAny_isInstance (T := "StopIteration") (b := true) ⟨o, ho, hc⟩ isSubtype_stop (wpAny_pure (hq _ hk)))
end
end L2
set_option maxHeartbeats 4000000
namespace L2
open PySem PySem.Spec PyProof.Rows
def SqB (K : PySem.W.Frag) (H : Hp) (b : Bool) (a : Addr) (xs : List V) : Prop := match b with
  | true => SqL K H a xs
  | false => SqT K H a xs
section
variable {X : Cx} {pins : List (Addr × Obj)} {σ : St} {H : Hp} {s : Shared}
theorem Inv.sqB {b : Bool} {a : Addr} {xs : List V} (I : Inv X pins σ H s) (h : SqB X.K H b a xs) : ∃ its : List Value, Vals xs its ∧ SqH s.heap b a its.toArray := by
  cases b with
  | true => obtain ⟨its, r, p, _⟩ := I.list h; exact ⟨its, r, p.isList⟩
  | false => obtain ⟨its, r, p, _⟩ := I.tuple h; exact ⟨its, r, p⟩
theorem Inv.sqB_inj {b : Bool} {a : Addr} {xs ys : List V} (I : Inv X pins σ H s) (h : SqB X.K H b a xs) (h' : SqB X.K H b a ys) : xs = ys := by
  cases b with
  | true => exact I.list_inj h h'
  | false => exact I.tuple_inj h h'
/-- several untracked records of ours have turned -/
theorem Inv.turnedL {h' : Heap} {t' : Nat} {ch : List Addr} (I : Inv X pins σ H s) (hf : ∀ b ∈ ch, FpOk X pins H b) (k : ∀ b o, b ∉ ch → s.heap.get? b = some o → h'.get? b = some o) : Inv X pins σ H { s with heap := h', toks := t' } := by
  have nt : ∀ b u, H b = some u → b ∉ ch := fun b u e z => by rw [(hf b z).1] at e; cases e
  have hL : X.env.locals ∉ ch := fun z => (hf _ z).2.1 rfl
  refine I.step (g' := s.gens) (d' := s.drawn) (ch := ch) (fun b hb => ⟨(hf b hb).2.2.2.1, (hf b hb).2.1, (hf b hb).2.2.2.2.1, (hf b hb).2.2.2.2.2⟩) (fun b o _ _ hc e _ => k b o hc e) (fun b o _ _ hc e _ => ⟨o.slots, k b o hc e⟩) (fun _ _ _ _ n => n)
    (fun b o hc e => ⟨o, k b o hc e⟩) (fun _ _ e => e) (fun _ _ _ e => e) (fun b ps e => ⟨#[], by rw [e]; simp⟩) (fun m hm => ?_) (fun b u e => ?_) I.bare
  · obtain ⟨o, es, ep, ho, r⟩ := hm
    exact ⟨o, es, ep, k _ o hL ho, r⟩
  · refine (I.hok b u e).stay (fun c v hc q => k c v ?_ q) (fun _ q => q) fun _ _ q => q
    rcases hc with z | z
    · rw [z]; exact nt b u e
    · exact nt c _ z
/-- an object younger than the state before is tracked -/
theorem Inv.trackNew {h' : Heap} {t' : Nat} {a : Addr} {o : HO} (I0 : Inv X pins σ H s) (I : Inv X pins σ H { s with heap := h', toks := t' }) (ha : s.heap.objs.size ≤ a) (new : ObjOk X.prog X.w (upd H a o) h' a o) : Inv X pins σ (upd H a o) { s with heap := h', toks := t' } := by
  refine I.track (Heap.get?_none_of_le (Nat.le_trans I0.sz ha)) (I0.hok.fresh ha) (Nat.ne_of_gt (Nat.lt_of_lt_of_le I0.lt ha)) (fun x c e z => ?_) (fun p hp z => ?_) new
  · obtain ⟨v, q⟩ := I0.cell x c e
    exact absurd (Nat.lt_of_lt_of_le q.lt (by rw [z]; exact ha)) (Nat.lt_irrefl _)
  · exact absurd (Nat.lt_of_lt_of_le (Heap.lt_size (I0.pin p hp).1) (by rw [z]; exact ha)) (Nat.lt_irrefl _)
end
/-- pairs of the items of two sequences, as they stand -/
def Itz (K : PySem.W.Frag) (b1 b2 : Bool) (l1 l2 : Addr) : It :=
  ⟨fun i H => ∃ xs ys x y, SqB K H b1 l1 xs ∧ SqB K H b2 l2 ys ∧ xs[i]? = some x ∧ ys[i]? = some y,
   fun i H v H' => ∃ p x y, v = .ref p ∧ H p = none ∧ H' = upd H p (.tup [x, y]) ∧ ∀ xs ys, SqB K H b1 l1 xs → SqB K H b2 l2 ys → xs[i]? = some x ∧ ys[i]? = some y,
   fun i H => ∃ xs ys, SqB K H b1 l1 xs ∧ SqB K H b2 l2 ys ∧ (xs.length ≤ i ∨ ys.length ≤ i)⟩
def zipTn (z TI TO i1 i2 l1 l2 : Addr) (b1 b2 : Bool) (i : Nat) (h : Heap) : Prop := IsZip h z TI TO .none ∧ IsPair h TI (.ref i1) (.ref i2) ∧ (∃ a b, IsPair h TO a b) ∧ SqI h b1 i1 l1 i ∧ SqI h b2 i2 l2 i
theorem turn_zip {P : Program} {w : World} {K : PySem.W.Frag} {es : List Expr} {x1 : Nat} {tp : Pos} {z TI TO i1 i2 l1 l2 : Addr} {b1 b2 : Bool} (D : ZipApart z TI TO i1 i2 l1 l2) :
    Turn P w K (.Tuple es x1 tp) (Itz K b1 b2 l1 l2) [z, TI, TO, i1, i2] z (zipTn z TI TO i1 i2 l1 l2 b1 b2) where
  mem := by simp
  obj := fun i h ⟨t1, t2, ⟨a, b, t3⟩, t4, t5⟩ c hc => by
    simp only [List.mem_cons, List.not_mem_nil, or_false] at hc
    rcases hc with rfl | rfl | rfl | rfl | rfl
    · exact ⟨_, t1, fun v q => by cases q⟩
    · exact ⟨_, t2, fun v q => by cases q⟩
    · exact ⟨_, t3, fun v q => by cases q⟩
    · obtain ⟨o, e, vs, d⟩ := t4.obj; exact ⟨o, e, fun v q => by rw [d] at q; cases q⟩
    · obtain ⟨o, e, vs, d⟩ := t5.obj; exact ⟨o, e, fun v q => by rw [d] at q; cases q⟩
  keep := fun i h h' ⟨t1, t2, ⟨a, b, t3⟩, t4, t5⟩ k => ⟨k z (by simp) _ t1, k TI (by simp) _ t2, ⟨a, b, k TO (by simp) _ t3⟩, t4.keep fun o e => k i1 (by simp) o e, t5.keep fun o e => k i2 (by simp) o e⟩
  item := by
    intro X hP hw hK hc i pins s σ H E I hf st hg
    subst hP hw hK
    obtain ⟨t1, t2, ⟨a, b, t3⟩, t4, t5⟩ := st
    obtain ⟨xs, ys, x, y, q1, q2, e1, e2⟩ := hg
    obtain ⟨us, r1, p1⟩ := I.sqB q1
    obtain ⟨vs, r2, p2⟩ := I.sqB q2
    obtain ⟨u, eu, ru⟩ := r1.get e1
    obtain ⟨v, ev, rv⟩ := r2.get e2
    refine nextZip_item (x := u) (y := v) D t1 t2 t3 t4 t5 p1 p2 (by simpa using eu) (by simpa using ev) fun h' a1 a2 a3 a4 a5 a7 => ?_
    refine ⟨_, rfl, wpAny_letOwnedTupleGo_zip a1 fun h'' c1 c2 => ?_⟩
    have nz : s.heap.objs.size ≠ z := Nat.ne_of_gt (Heap.lt_size t1)
    have I1 : Inv X pins σ H { s with heap := h'', toks := s.toks } := I.turnedL hf fun c o hc q => by
      simp only [List.mem_cons, List.not_mem_nil, or_false, not_or] at hc
      exact c2.extBut c o hc.1 (a7 c o hc.1 hc.2.2.1 hc.2.2.2.1 hc.2.2.2.2 q)
    have I2 := I.trackNew (t' := s.toks) (o := .tup [x, y]) I1 (Nat.le_refl _) ⟨by show 2 ≤ sizeLine; decide, [u, v], .cons ru (.cons rv .nil), ⟨_, c2.extBut _ _ nz a5, rfl, _, rfl⟩⟩
    have fr : H s.heap.objs.size = none := I.hok.fresh (Nat.le_refl _)
    refine ⟨.ref s.heap.objs.size, _, I2, rfl, ⟨s.heap.objs.size, x, y, rfl, fr, rfl, fun xs' ys' q1' q2' => ⟨by rw [I.sqB_inj q1' q1]; exact e1, by rw [I.sqB_inj q2' q2]; exact e2⟩⟩, ⟨c1, c2.extBut _ _ D.TIz (a7 TI _ D.TIz D.TITO D.TIi1 D.TIi2 t2), ⟨u, v, c2.extBut _ _ D.TOz a2⟩, a3.ext c2.extBut D.i1z, a4.ext c2.extBut D.i2z⟩, fun c hc => ?_⟩
    obtain ⟨o, eo⟩ : ∃ o, s.heap.get? c = some o := by
      simp only [List.mem_cons, List.not_mem_nil, or_false] at hc
      rcases hc with rfl | rfl | rfl | rfl | rfl
      · exact ⟨_, t1⟩
      · exact ⟨_, t2⟩
      · exact ⟨_, t3⟩
      · obtain ⟨o, e, _⟩ := t4.obj; exact ⟨o, e⟩
      · obtain ⟨o, e, _⟩ := t5.obj; exact ⟨o, e⟩
    rw [upd_ne (Nat.ne_of_lt (Heap.lt_size eo))]
    exact (hf c hc).1
  done := by
    intro X hP hw hK hc i pins s σ H E I hf st hg
    subst hP hw hK
    obtain ⟨t1, t2, ⟨a, b, t3⟩, t4, t5⟩ := st
    obtain ⟨xs, ys, q1, q2, hl⟩ := hg
    obtain ⟨us, r1, p1⟩ := I.sqB q1
    obtain ⟨vs, r2, p2⟩ := I.sqB q2
    have n1 := r1.length
    have n2 := r2.length
    refine nextZip_end (I.ok.hd hc) D t1 t2 t3 t4 t5 p1 p2 ?_ fun h' kk => ⟨rfl, I.turnedL (t' := s.toks) hf fun c o hc q => ?_⟩
    · rcases hl with z | z
      · exact .inl (by simp; omega)
      · exact .inr (by simp; omega)
    · simp only [List.mem_cons, List.not_mem_nil, or_false, not_or] at hc
      exact kk c o hc.1 hc.2.2.1 hc.2.2.2.1 hc.2.2.2.2 q
  self := fun _ _ _ _ _ st h => wpAny_pyIter_zip st.1 h
section
variable {X : Cx} {es : List Expr} {x1 : Nat} {tp : Pos}
def iZip (K : PySem.W.Frag) (ta : TA) : TI := fun σ H R => ta σ H fun vs H1 => ∃ b1 b2 l1 l2 xs ys, vs = [.ref l1, .ref l2] ∧ SqB K H1 b1 l1 xs ∧ SqB K H1 b2 l2 ys ∧ R (Itz K b1 b2 l1 l2) H1
theorem pi_zip {a b : Expr} {ta : TA} {p pos : Pos} (hg : Gl X "zip") (hm : X.mg "zip" = none) (ha : PA X [a, b] ta) (hs : starEach [a, b] X.env = [(false, eval a X.env), (false, eval b X.env)] := by rfl) (hs2 : starEach [b] X.env = [(false, eval b X.env)] := by rfl) :
    PI X (.Tuple es x1 tp) (.Call (.Name "zip" p) [a, b] [] pos) (iZip X.K ta) := by
  intro pins s σ H R I h
  refine Call_ (ld_blt I hg hm boot_zip (PyProof.Rows.callWith_type1 (thn (ha pos pins s σ H _ I h) fun us s1 ⟨vs, H1, I1, r1, q1⟩ => ?_) (by rw [hs, hs2]) (by rw [hs2]; rfl)))
  obtain ⟨b1, b2, l1, l2, xs, ys, rfl, q1, q2, q⟩ := q1
  obtain ⟨u, v, rfl, ru, rv⟩ := r1.two
  cases ru; cases rv
  obtain ⟨us1, _, p1⟩ := I1.sqB q1
  obtain ⟨us2, _, p2⟩ := I1.sqB q2
  have n1 : l1 < s1.heap.objs.size := by
    cases b1 with
    | true => obtain ⟨o, e, _⟩ := (show s1.heap.IsList l1 _ from p1); exact Heap.lt_size e
    | false => obtain ⟨o, e, _⟩ := (show s1.heap.IsTuple l1 _ from p1); exact Heap.lt_size e
  have n2 : l2 < s1.heap.objs.size := by
    cases b2 with
    | true => obtain ⟨o, e, _⟩ := (show s1.heap.IsList l2 _ from p2); exact Heap.lt_size e
    | false => obtain ⟨o, e, _⟩ := (show s1.heap.IsTuple l2 _ from p2); exact Heap.lt_size e
  refine call_zipS p1 p2 fun h' a1 a2 a3 a4 a5 kk => ?_
  refine wpAny_pyIter_zip a1 ?_
  have I2 : Inv X pins σ H1 { s1 with heap := h', toks := s1.toks } := I1.kept kk
  refine ⟨_, [s1.heap.objs.size + 4, s1.heap.objs.size + 2, s1.heap.objs.size + 3, s1.heap.objs.size, s1.heap.objs.size + 1], _, _, H1, rfl, I2, turn_zip (zipApart_new n1 n2), ⟨a1, a2, ⟨_, _, a3⟩, a4, a5⟩, fun c hc => ?_, q⟩
  have hge : s1.heap.objs.size ≤ c := by
    simp only [List.mem_cons, List.not_mem_nil, or_false] at hc
    rcases hc with rfl | rfl | rfl | rfl | rfl <;> omega
  exact I1.fpOk (H' := H1) hge (I1.hok.fresh hge)
end
end L2
set_option maxHeartbeats 4000000
namespace L2
open PySem PySem.Spec PyProof.Rows
section
variable {X : Cx}
/-! ### all, any of a list of bools -/
theorem vals_bools : ∀ {bs : List Bool} {us : List Value}, Vals (bs.map V.bl) us → us = bs.map Value.bool
  | [], _, .nil => rfl
  | b :: r, _, .cons x t => by rw [show _ = Value.bool b from x, vals_bools t]; rfl
theorem range_all {bs : List Bool} : (List.range bs.length).all (fun i => bs.getD i false) = bs.all id := by
  rw [Bool.eq_iff_iff, List.all_eq_true, List.all_eq_true]
  constructor
  · intro h b hb
    obtain ⟨i, hi, rfl⟩ := List.mem_iff_getElem.mp hb
    have := h i (List.mem_range.mpr hi)
    simpa [List.getD_eq_getElem?_getD, hi] using this
  · intro h i hi
    have hi' := List.mem_range.mp hi
    have := h _ (List.getElem_mem hi')
    simpa [List.getD_eq_getElem?_getD, hi'] using this
theorem range_any {bs : List Bool} : (List.range bs.length).any (fun i => bs.getD i false) = bs.any id := by
  rw [Bool.eq_iff_iff, List.any_eq_true, List.any_eq_true]
  constructor
  · rintro ⟨i, hi, h⟩
    have hi' := List.mem_range.mp hi
    exact ⟨_, List.getElem_mem hi', by simpa [List.getD_eq_getElem?_getD, hi'] using h⟩
  · rintro ⟨b, hb, h⟩
    obtain ⟨i, hi, rfl⟩ := List.mem_iff_getElem.mp hb
    exact ⟨i, List.mem_range.mpr hi, by simpa [List.getD_eq_getElem?_getD, hi] using h⟩
theorem bools_at {bs : List Bool} {i : Nat} {v : Value} (h : (bs.map Value.bool).toArray[i]? = some v) : v = .bool (bs.getD i false) := by
  have h' : (bs.map Value.bool)[i]? = some v := by simpa using h
  rw [List.getElem?_map] at h'
  cases e : bs[i]? with
  | none => rw [e] at h'; cases h'
  | some b =>
    rw [e] at h'
    rw [List.getD_eq_getElem?_getD, e]
    exact (Option.some.inj h').symm
theorem call_allB (hc : X.calm = true) : CallR X (.builtin "all") (fun xs H Q => ∃ (p : Addr) (bs : List Bool), xs = [.ref p] ∧ SqL X.K H p (bs.map V.bl) ∧ Q (.bl (bs.all id)) H) := by
  intro pins s σ H xs us Q I r h
  obtain ⟨p, bs, rfl, hq, q⟩ := h
  obtain ⟨u, rfl, ru⟩ := r.one
  cases ru
  obtain ⟨its, rv, pl, hz⟩ := I.list hq
  have e := vals_bools rv
  subst e
  have nl : p ≠ s.heap.objs.size := by obtain ⟨o, e, _⟩ := pl.isList; exact Nat.ne_of_lt (Heap.lt_size e)
  refine call_all_walk (wpAny_pyIter_list pl.isList ?_)
  refine ⟨s.heap.objs.size, _, _, _, _, _, fun i => bs.getD i false, rfl, Walks.list (A := X.A.in1) (I.ok.hd hc) s.heap.objs.size p nl (bs.map Value.bool).toArray, ⟨⟨_, Heap.get?_push_size _ rfl, rfl, rfl⟩, pl.isList.push _⟩, ?_, fun h' tk k => ?_⟩
  · intro i v s' Q' E' hP hq'
    rw [bools_at hP]
    exact wpAny_pure hq'
  · have e2 : (bs.map Value.bool).toArray.size = bs.length := by simp
    rw [e2, range_all]
    refine ⟨.bl _, H, I.kept (t' := tk) (h' := h') fun b o e => k b o ?_ (Heap.get?_push_of_some _ e), rfl, q⟩
    intro z
    have z' : b = s.heap.objs.size := by simpa using z
    exact absurd (Heap.lt_size e) (by rw [z']; exact Nat.lt_irrefl _)
theorem call_anyB (hc : X.calm = true) : CallR X (.builtin "any") (fun xs H Q => ∃ (p : Addr) (bs : List Bool), xs = [.ref p] ∧ SqL X.K H p (bs.map V.bl) ∧ Q (.bl (bs.any id)) H) := by
  intro pins s σ H xs us Q I r h
  obtain ⟨p, bs, rfl, hq, q⟩ := h
  obtain ⟨u, rfl, ru⟩ := r.one
  cases ru
  obtain ⟨its, rv, pl, hz⟩ := I.list hq
  have e := vals_bools rv
  subst e
  have nl : p ≠ s.heap.objs.size := by obtain ⟨o, e, _⟩ := pl.isList; exact Nat.ne_of_lt (Heap.lt_size e)
  refine call_any_walk (wpAny_pyIter_list pl.isList ?_)
  refine ⟨s.heap.objs.size, _, _, _, _, _, fun i => bs.getD i false, rfl, Walks.list (A := X.A.in1) (I.ok.hd hc) s.heap.objs.size p nl (bs.map Value.bool).toArray, ⟨⟨_, Heap.get?_push_size _ rfl, rfl, rfl⟩, pl.isList.push _⟩, ?_, fun h' tk k => ?_⟩
  · intro i v s' Q' E' hP hq'
    rw [bools_at hP]
    exact wpAny_pure hq'
  · have e2 : (bs.map Value.bool).toArray.size = bs.length := by simp
    rw [e2, range_any]
    refine ⟨.bl _, H, I.kept (t' := tk) (h' := h') fun b o e => k b o ?_ (Heap.get?_push_of_some _ e), rfl, q⟩
    intro z
    have z' : b = s.heap.objs.size := by simpa using z
    exact absurd (Heap.lt_size e) (by rw [z']; exact Nat.lt_irrefl _)
/-! ### xs.count(x), xs.index(x) of flat items -/
theorem count_eqU {x : V} : ∀ {xs : List V} {us : List Value}, Vals xs us → xs.all flatV = true → us.countP (eqU x) = xs.countP fun y => eqV y x
  | _, _, .nil, _ => rfl
  | y :: xs, u :: us, .cons r t, f => by
    rw [List.all_cons, Bool.and_eq_true] at f
    rw [List.countP_cons, List.countP_cons, eqU_of r f.1, count_eqU t f.2]
def rCount : V → List V → Hp → VK → Prop := fun x vs H Q => ∃ l xs y, x = .ref l ∧ vs = [y] ∧ H l = some (.lst xs) ∧ flatV y = true ∧ xs.all flatV = true ∧ Q (.int ((xs.countP fun z => eqV z y : Nat) : Int)) H
theorem mt_count : MtM X "list.count" rCount := by
  intro pins s σ H x vs v us Q I rx rv h
  obtain ⟨l, xs, y, rfl, rfl, hH, fy, fs, q⟩ := h
  cases rx
  obtain ⟨u, rfl, ru⟩ := rv.one
  obtain ⟨z, its, n, r, hl, e⟩ := I.lstM hH
  refine call_meets F.slot_list_count ⟨_, e, rfl⟩ F.entry_list_count (F.args_list_count_2 _ _) (SeqAt.list_countAt l its.toArray n none #[] u (eqU y)) ⟨e, fun w hw => mem_eqAt ru fy r fs w (by simpa using hw), ?_⟩
  refine ⟨.int _, H, I.tok _, ⟨_, rfl⟩, ?_⟩
  rw [show its.toArray.toList = its by simp, count_eqU r fs]
  exact q
def rIndex : V → List V → Hp → VK → Prop := fun x vs H Q => ∃ l xs y j, x = .ref l ∧ vs = [y] ∧ H l = some (.lst xs) ∧ flatV y = true ∧ xs.all flatV = true ∧ (∃ z, xs[j]? = some z ∧ eqV z y = true) ∧ (∀ m z, m < j → xs[m]? = some z → eqV z y = false) ∧ Q (.int (j : Nat)) H
theorem mt_index : MtM X "list.index" rIndex := by
  intro pins s σ H x vs v us Q I rx rv h
  obtain ⟨l, xs, y, j, rfl, rfl, hH, fy, fs, ⟨zj, ej, hj⟩, hno, q⟩ := h
  cases rx
  obtain ⟨u, rfl, ru⟩ := rv.one
  obtain ⟨z, its, n, r, hl, e⟩ := I.lstM hH
  have fl : ∀ (m : Nat) w, xs[m]? = some w → flatV w = true := fun m w em => List.all_eq_true.mp fs w (List.mem_of_getElem? em)
  obtain ⟨uj, euj, ruj⟩ := r.get ej
  obtain ⟨hlt, eget⟩ := List.getElem?_eq_some_iff.mp euj
  have hs63 : (sizeLine : Nat) < 2 ^ 62 := by decide
  refine call_meets F.slot_list_index ⟨_, e, rfl⟩ F.entry_list_index (F.args_list_index_2 _ _)
    (SeqAt.list_indexAt l its.toArray n none #[] u (eqU y) j (by simpa using hlt) (by omega) ?_ ?_) ⟨e, fun w hw => mem_eqAt ru fy r fs w (by simpa using hw), ⟨.int _, H, I.tok _, ⟨_, rfl⟩, q⟩⟩
  · show eqU y (its.toArray[j]'(by simpa using hlt)) = true
    rw [List.getElem_toArray, eget, eqU_of ruj (fl j zj ej)]
    exact hj
  · intro m hm hmj
    have hm' : m < xs.length := by rw [hl]; simpa using hm
    have em : xs[m]? = some xs[m] := List.getElem?_eq_getElem hm'
    obtain ⟨um, eum, rum⟩ := r.get em
    obtain ⟨hlt', eget'⟩ := List.getElem?_eq_some_iff.mp eum
    rw [List.getElem_toArray, eget', eqU_of rum (fl m _ em)]
    exact hno m _ hmj em
/-! ### // by any divisor below 2^64 -/
def CDivL (i j : Int) : Prop := 0 < j ∧ j < 18446744073709551616
theorem op_fdivL : OpR X (binaryOp .FloorDiv) (rI CDivL fun i j => .int (i / j)) := opI fun i j _ _ _ _ _ hc q => by
  have hj : j.natAbs.log2 < 9000 := by
    have h0 : j.natAbs ≠ 0 := by have := hc.1; omega
    have h1 : j.natAbs < 2 ^ 64 := by
      have h2 := hc.1
      have h3 : j < 2 ^ 64 := hc.2
      omega
    have := (Nat.log2_lt h0).mpr h1
    omega
  have e : i / j = i.fdiv j := (Int.fdiv_eq_ediv_of_nonneg i (Int.le_of_lt hc.1)).symm
  rw [e] at q
  exact floordiv_int (by have := hc.1; omega) q (.inl (PyProof.noPylong_of_log2 hj))
/-! ### isinstance -/
def clsV : V → Option Value
  | .ty n => some (.type n)
  | .ref a => some (.ref a)
  | _ => none
theorem clsV_rel {c : V} {u w : Value} (r : RelV c u) (h : clsV c = some w) : u = w := by
  cases c with
  | ty n => cases h; exact r
  | ref a => cases h; exact r
  | _ => cases h
/-- isinstance(x, c), c one class -/
def rIsi (K : PySem.W.Frag) : List V → Hp → VK → Prop := fun xs H Q => ∃ x c t w b, xs = [x, c] ∧ clsV c = some w ∧ TyOf K H x t ∧ PySem.W.kitOne K t w = some b ∧ Q (.bl b) H
theorem call_isi : CallR X (.builtin "isinstance") (rIsi X.K) := by
  intro pins s σ H xs us Q I r h
  obtain ⟨x, c, t, w, b, rfl, hw, ty, e, q⟩ := h
  obtain ⟨u, v, rfl, ru, rv⟩ := r.two
  rw [clsV_rel rv hw]
  exact isinst_ok I ru ty e fun tk => ⟨.bl b, H, I.tok tk, rfl, q⟩
/-- isinstance(e, c) of a caught exception -/
def rIsX (K : PySem.W.Frag) : List V → Hp → VK → Prop := fun xs H Q => ∃ a c D w b, xs = [.ref a, c] ∧ clsV c = some w ∧ H a = some (.ext (IsX a (.ref D))) ∧ XCls K D ∧ PySem.W.kitOne K (.ref D) w = some b ∧ Q (.bl b) H
theorem call_isX : CallR X (.builtin "isinstance") (rIsX X.K) := by
  intro pins s σ H xs us Q I r h
  obtain ⟨a, c, D, w, b, rfl, hw, hH, hx, e, q⟩ := h
  obtain ⟨u, v, rfl, ru, rv⟩ := r.two
  rw [clsV_rel rv hw]
  cases ru
  obtain ⟨p, _, _⟩ := I.hok a _ hH
  exact xc_isi I.kIn hx p e fun tk => ⟨.bl b, H, I.tok tk, rfl, q⟩
end
end L2
set_option maxHeartbeats 4000000
namespace L2
open PySem PySem.Spec PyProof.Rows
section
variable {X : Cx} {pins : List (Addr × Obj)} {σ : St} {H : Hp} {s : Shared}
/-- what isinstance asks of a value, by its sort -/
theorem tyof_kit {x : V} {u t : Value} (I : Inv X pins σ H s) (rx : RelV x u) (ty : TyOf X.K H x t) : ∃ φ : Heap → Prop, PySem.W.KitX X.K u t φ ∧ φ s.heap ∧ u ≠ .builtin "__main__.__loader__#opaque" := by
  cases ty with
  | non => cases (show u = Value.none from rx); exact ⟨_, PySem.W.kitx_none, True.intro, (fun z => nomatch z)⟩
  | bl y => cases (show u = Value.bool y from rx); exact ⟨_, PySem.W.kitx_bool, True.intro, (fun z => nomatch z)⟩
  | int i => obtain ⟨t, q⟩ := (show ∃ t, u = Value.int i t from rx); cases q; exact ⟨_, PySem.W.kitx_int, True.intro, (fun z => nomatch z)⟩
  | str y => obtain ⟨t, q⟩ := (show ∃ t, u = Value.str y t from rx); cases q; exact ⟨_, PySem.W.kitx_str, True.intro, (fun z => nomatch z)⟩
  | flt y => obtain ⟨t, q⟩ := (show ∃ t, u = Value.float y t from rx); cases q; exact ⟨_, PySem.W.kitx_float, True.intro, (fun z => nomatch z)⟩
  | @lst a xs ea =>
    cases (show u = Value.ref a from rx)
    obtain ⟨_, _, n, _, h1⟩ := (show ObjOk X.prog X.w H s.heap a (.lst xs) from I.hok a _ ea)
    exact ⟨_, PySem.W.kitx_list, ⟨_, h1, rfl⟩, (fun z => nomatch z)⟩
  | @frz a ob xs ea =>
    cases (show u = Value.ref a from rx)
    obtain ⟨_, _, _, n, _, h1⟩ := (show ObjOk X.prog X.w H s.heap a (.frz ob (.lst xs)) from I.hok a _ ea)
    exact ⟨_, PySem.W.kitx_list, ⟨_, h1, rfl⟩, (fun z => nomatch z)⟩
  | @tup a xs ea =>
    cases (show u = Value.ref a from rx)
    obtain ⟨_, _, _, p⟩ := (show ObjOk X.prog X.w H s.heap a (.tup xs) from I.hok a _ ea)
    obtain ⟨o, h1, h2, _⟩ := p
    exact ⟨_, PySem.W.kitx_tuple, ⟨o, h1, h2⟩, (fun z => nomatch z)⟩
  | @dK a kvs ea =>
    cases (show u = Value.ref a from rx)
    obtain ⟨_, _, vs, _, p⟩ := (show ObjOk X.prog X.w H s.heap a (.dK kvs) from I.hok a _ ea)
    obtain ⟨o, es, ep, h1, h2, _⟩ := p
    exact ⟨_, PySem.W.kitx_dict, ⟨o, h1, h2.1⟩, (fun z => nomatch z)⟩
  | @dT a kvs ea =>
    cases (show u = Value.ref a from rx)
    obtain ⟨_, _, xs, _, o, es, ep, h1, h2, _⟩ := (show ObjOk X.prog X.w H s.heap a (.dT kvs) from I.hok a _ ea)
    exact ⟨_, PySem.W.kitx_dict, ⟨o, h1, h2.1⟩, (fun z => nomatch z)⟩
  | @ins a C dx fs ea cl ha hn htk hm =>
    cases (show u = Value.ref a from rx)
    obtain ⟨mA, O, _⟩ := ins_get I.hok ea
    obtain ⟨od, J, _⟩ := O.look
    exact ⟨_, PySem.W.kitx_own (cl.get _) cl.hd ha hn htk hm, J, (fun z => nomatch z)⟩
theorem cls_all : ∀ {cs : List V} {us ws : List Value}, Vals cs us → cs.map clsV = ws.map some → us = ws
  | [], _, [], .nil, _ => rfl
  | c :: cs, _, w :: ws, .cons r t, e => by
    rw [List.map_cons, List.map_cons] at e
    injection e with e1 e2
    rw [clsV_rel r e1, cls_all t e2]
/-- isinstance(x, (c, ..)) -/
def rIsT (K : PySem.W.Frag) : List V → Hp → VK → Prop := fun xs H Q => ∃ x p cs t ws b, xs = [x, .ref p] ∧ H p = some (.tup cs) ∧ cs.map clsV = ws.map some ∧ TyOf K H x t ∧ PySem.W.kitAny K t ws = some b ∧ Q (.bl b) H
theorem call_isT : CallR X (.builtin "isinstance") (rIsT X.K) := by
  intro pins s σ H xs us Q I r h
  obtain ⟨x, p, cs, t, ws, b, rfl, hp, hc, ty, e, q⟩ := h
  obtain ⟨u, v, rfl, ru, rv⟩ := r.two
  cases rv
  obtain ⟨φ, Z, hφ, hne⟩ := tyof_kit I ru ty
  obtain ⟨_, its, rs, ⟨ob, h1, h2, n, h3⟩⟩ := (show ObjOk X.prog X.w H s.heap p (.tup cs) from I.hok p _ hp)
  have ei := cls_all rs hc
  subst ei
  obtain ⟨oc, od, dt, sl⟩ := ob
  dsimp only at h2 h3
  subst h2 h3
  exact PySem.W.kia_tup Z I.kIn hφ h1 e hne fun tk => ⟨.bl b, H, I.tok tk, rfl, q⟩
end
/-! ### equal data -/
inductive EqD (H : Hp) : Nat → V → V → Prop
  | flat {n : Nat} {v : V} (h : flatV v = true) : EqD H n v v
  | tup {n : Nat} {p q : Addr} {xs ys : List V} (h1 : H p = some (.tup xs)) (h2 : H q = some (.tup ys)) (hl : xs.length = ys.length) (hs : xs.length ≤ 1000) (h : ∀ (i : Nat) x y, xs[i]? = some x → ys[i]? = some y → EqD H n x y) : EqD H (n + 1) (.ref p) (.ref q)
  | lst {n : Nat} {p q : Addr} {xs ys : List V} (h1 : H p = some (.lst xs)) (h2 : H q = some (.lst ys)) (hl : xs.length = ys.length) (hs : xs.length ≤ 1000) (h : ∀ (i : Nat) x y, xs[i]? = some x → ys[i]? = some y → EqD H n x y) : EqD H (n + 1) (.ref p) (.ref q)
theorem EqD.same {H H' : Hp} (s : Same H H') : ∀ {n : Nat} {v u : V}, EqD H n v u → EqD H' n v u := by
  intro n v u h
  induction h with
  | flat h => exact .flat h
  | tup h1 h2 hl hs _ ih => exact .tup (s _ _ h1) (s _ _ h2) hl hs fun i x y a b => ih i x y a b
  | lst h1 h2 hl hs _ ih => exact .lst (s _ _ h1) (s _ _ h2) hl hs fun i x y a b => ih i x y a b
theorem same_new {H : Hp} {p : Addr} (h : H p = none) (o : HO) : Same H (upd H p o) := fun b u q => by rw [upd_ne (ne_of_none q h)]; exact q
/-! ### argument lists, in short -/
def plainE : Expr → Bool
  | .Starred .. => false
  | _ => true
theorem star_plain {e : Expr} {es : List Expr} {env : Env} (h : plainE e = true) : starEach (e :: es) env = (false, eval e env) :: starEach es env := by
  cases e <;> first | rfl | cases h
theorem pa_c {X : Cx} {e : Expr} {es : List Expr} {te : TE} {t : TA} (ha : PE X e te) (hr : PA X es t) (hn : plainE e = true := by rfl) : PA X (e :: es) (tCons te t) := pa_cons ha hr (star_plain hn)
end L2
set_option maxHeartbeats 4000000
namespace L2
open PySem PySem.Spec PyProof.Rows
/-- x == y is b, as an item of something that is compared; n deep -/
inductive EqB (K : PySem.W.Frag) (H : Hp) : Nat → V → V → Bool → Prop
  | flat {n : Nat} {x y : V} (hx : flatV x = true) (hy : flatV y = true) : EqB K H n x y (eqV x y)
  | same {n : Nat} {p : Addr} : EqB K H n (.ref p) (.ref p) true
  | tup {n : Nat} {a b : Addr} {xs ys : List V} (e : Nat → Bool) (hn : a ≠ b) (h1 : SqT K H a xs) (h2 : SqT K H b ys) (he : ∀ j x y, xs[j]? = some x → ys[j]? = some y → EqB K H n x y (e j)) : EqB K H (n + 1) (.ref a) (.ref b) ((List.range (min xs.length ys.length)).all e && xs.length == ys.length)
  | lst {n : Nat} {a b : Addr} {xs ys : List V} (e : Nat → Bool) (hn : a ≠ b) (hl : xs.length = ys.length) (h1 : SqL K H a xs) (h2 : SqL K H b ys) (he : ∀ j x y, xs[j]? = some x → ys[j]? = some y → EqB K H n x y (e j)) : EqB K H (n + 1) (.ref a) (.ref b) ((List.range xs.length).all e)
  | lsn {n : Nat} {a b : Addr} {xs ys : List V} (hl : xs.length ≠ ys.length) (h1 : SqL K H a xs) (h2 : SqL K H b ys) : EqB K H (n + 1) (.ref a) (.ref b) false
theorem in1_units {A : Around} : A.in1.units = A.units + 1 := rfl
section
variable {X : Cx} {pins : List (Addr × Obj)} {σ : St} {H : Hp} {s : Shared}
theorem items_eqAt {A : Around} {n : Nat} {xs ys : List V} {us vs : List Value} {e : Nat → Bool} (rx : Vals xs us) (ry : Vals ys vs) (h : ∀ j x y u v, xs[j]? = some x → ys[j]? = some y → RelV x u → RelV y v → SeqAt.EqAt A s u v (e j)) :
    ∀ j (h1 : j < us.toArray.size) (h2 : j < vs.toArray.size), SeqAt.EqAt A s us.toArray[j] vs.toArray[j] (e j) := fun j h1 h2 => by
  have l1 := rx.length
  have l2 := ry.length
  have g1 : j < xs.length := by simp at h1; omega
  have g2 : j < ys.length := by simp at h2; omega
  obtain ⟨u, eu, ru⟩ := rx.get (List.getElem?_eq_getElem g1)
  obtain ⟨v, ev, rv⟩ := ry.get (List.getElem?_eq_getElem g2)
  have e1 : us.toArray[j] = u := by
    have := List.getElem?_eq_some_iff.mp eu
    obtain ⟨_, e⟩ := this
    simpa using e
  have e2 : vs.toArray[j] = v := by
    have := List.getElem?_eq_some_iff.mp ev
    obtain ⟨_, e⟩ := this
    simpa using e
  rw [e1, e2]
  exact h j _ _ u v (List.getElem?_eq_getElem g1) (List.getElem?_eq_getElem g2) ru rv
theorem EqB.eqAt (I : Inv X pins σ H s) {n : Nat} {x y : V} {b : Bool} (h : EqB X.K H n x y b) : ∀ (A : Around) (u v : Value), A.units + n < cLine → RelV x u → RelV y v → SeqAt.EqAt A s u v b := by
  induction h with
  | flat hx hy => exact fun A u v _ rx ry => eqAt_V rx ry hx hy
  | same => intro A u v _ rx ry; cases rx; cases ry; exact SeqAt.EqAt.same _
  | @tup n a b xs ys e hn h1 h2 he ih =>
    intro A u v hu rx ry
    cases rx; cases ry
    obtain ⟨us, r1, p1, _⟩ := I.tuple h1
    obtain ⟨vs, r2, p2, _⟩ := I.tuple h2
    refine SeqAt.EqAt.of_refs hn ?_
    have := SeqAt.RcAt.tuples (s := s) (A := A) (e := e) p1 p2 (by omega) (items_eqAt (n := n) r1 r2 fun j x y u v e1 e2 ru rv => ih j x y e1 e2 A.in1 u v (by rw [in1_units]; omega) ru rv)
    have l1 := r1.length
    have l2 := r2.length
    simpa [l1, l2] using this
  | @lst n a b xs ys e hn hl h1 h2 he ih =>
    intro A u v hu rx ry
    cases rx; cases ry
    obtain ⟨us, r1, p1, _⟩ := I.list h1
    obtain ⟨vs, r2, p2, _⟩ := I.list h2
    have l1 := r1.length
    have l2 := r2.length
    refine SeqAt.EqAt.of_refs hn ?_
    have := SeqAt.RcAt.lists (s := s) (A := A) (e := e) p1.isList p2.isList (by simp; omega) (by omega) (items_eqAt (n := n) r1 r2 fun j x y u v e1 e2 ru rv => ih j x y e1 e2 A.in1 u v (by rw [in1_units]; omega) ru rv)
    simpa [l1, l2] using this
  | @lsn n a b xs ys hl h1 h2 =>
    intro A u v hu rx ry
    cases rx; cases ry
    have hn : a ≠ b := fun z => by subst z; exact hl (by rw [I.list_inj h1 h2])
    obtain ⟨us, r1, p1, _⟩ := I.list h1
    obtain ⟨vs, r2, p2, _⟩ := I.list h2
    have l1 := r1.length
    have l2 := r2.length
    refine SeqAt.EqAt.of_refs hn ?_
    exact SeqAt.RcAt.lists_lengths (s := s) (A := A) p1.isList p2.isList (by simp; omega) (by omega)
/-- == or != (neg) of two lists -/
def rCmpL (K : PySem.W.Frag) (neg : Bool) : R2 := fun x y H Q => ∃ a b xs ys, x = .ref a ∧ y = .ref b ∧ SqL K H a xs ∧ SqL K H b ys ∧
  ((xs.length ≠ ys.length ∧ Q (.bl neg) H) ∨ (xs.length = ys.length ∧ ∃ (n : Nat) (e : Nat → Bool), n ≤ 32 ∧ (∀ j x y, xs[j]? = some x → ys[j]? = some y → EqB K H n x y (e j)) ∧ Q (.bl (neg != (List.range xs.length).all e)) H))
def rCmpT (K : PySem.W.Frag) (neg : Bool) : R2 := fun x y H Q => ∃ a b xs ys, x = .ref a ∧ y = .ref b ∧ SqT K H a xs ∧ SqT K H b ys ∧
  ∃ (n : Nat) (e : Nat → Bool), n ≤ 32 ∧ (∀ j x y, xs[j]? = some x → ys[j]? = some y → EqB K H n x y (e j)) ∧ Q (.bl (neg != ((List.range (min xs.length ys.length)).all e && xs.length == ys.length))) H
theorem op_eqL (hu : X.A.units + 64 < cLine) : OpR X (compareOp .Eq) (rCmpL X.K false) := by
  intro pins s σ H x y v u Q I rx ry h
  obtain ⟨a, b, xs, ys, rfl, rfl, h1, h2, h⟩ := h
  cases rx; cases ry
  obtain ⟨us, r1, p1, _⟩ := I.list h1
  obtain ⟨vs, r2, p2, _⟩ := I.list h2
  have l1 := r1.length
  have l2 := r2.length
  rcases h with ⟨hl, q⟩ | ⟨hl, n, e, hn, he, q⟩
  · exact SeqAt.RcAt.lists_lengths (s := s) (A := X.A) p1.isList p2.isList (by simp; omega) (by omega) _ _ _ _ ⟨.bl _, H, I, rfl, q⟩
  · refine SeqAt.RcAt.lists (s := s) (A := X.A) (e := e) p1.isList p2.isList (by simp; omega) (by omega) (items_eqAt (n := n) r1 r2 fun j x y u v e1 e2 ru rv => (he j x y e1 e2).eqAt I _ u v (by rw [in1_units]; omega) ru rv) _ _ _ _ ⟨.bl _, H, I, rfl, ?_⟩
    simpa [l1] using q
theorem op_neL (hu : X.A.units + 64 < cLine) : OpR X (compareOp .NotEq) (rCmpL X.K true) := by
  intro pins s σ H x y v u Q I rx ry h
  obtain ⟨a, b, xs, ys, rfl, rfl, h1, h2, h⟩ := h
  cases rx; cases ry
  obtain ⟨us, r1, p1, _⟩ := I.list h1
  obtain ⟨vs, r2, p2, _⟩ := I.list h2
  have l1 := r1.length
  have l2 := r2.length
  rcases h with ⟨hl, q⟩ | ⟨hl, n, e, hn, he, q⟩
  · exact SeqAt.RcNeAt.lists_lengths (s := s) (A := X.A) p1.isList p2.isList (by simp; omega) (by omega) _ _ _ _ ⟨.bl _, H, I, rfl, q⟩
  · refine SeqAt.RcNeAt.lists (s := s) (A := X.A) (e := e) p1.isList p2.isList (by simp; omega) (by omega) (items_eqAt (n := n) r1 r2 fun j x y u v e1 e2 ru rv => (he j x y e1 e2).eqAt I _ u v (by rw [in1_units]; omega) ru rv) _ _ _ _ ⟨.bl _, H, I, rfl, ?_⟩
    simpa [l1] using q
theorem op_eqT (hu : X.A.units + 64 < cLine) : OpR X (compareOp .Eq) (rCmpT X.K false) := by
  intro pins s σ H x y v u Q I rx ry h
  obtain ⟨a, b, xs, ys, rfl, rfl, h1, h2, n, e, hn, he, q⟩ := h
  cases rx; cases ry
  obtain ⟨us, r1, p1, _⟩ := I.tuple h1
  obtain ⟨vs, r2, p2, _⟩ := I.tuple h2
  have l1 := r1.length
  have l2 := r2.length
  refine SeqAt.RcAt.tuples (s := s) (A := X.A) (e := e) p1 p2 (by omega) (items_eqAt (n := n) r1 r2 fun j x y u v e1 e2 ru rv => (he j x y e1 e2).eqAt I _ u v (by rw [in1_units]; omega) ru rv) _ _ _ _ ⟨.bl _, H, I, rfl, ?_⟩
  simpa [l1, l2] using q
theorem op_neT (hu : X.A.units + 64 < cLine) : OpR X (compareOp .NotEq) (rCmpT X.K true) := by
  intro pins s σ H x y v u Q I rx ry h
  obtain ⟨a, b, xs, ys, rfl, rfl, h1, h2, n, e, hn, he, q⟩ := h
  cases rx; cases ry
  obtain ⟨us, r1, p1, _⟩ := I.tuple h1
  obtain ⟨vs, r2, p2, _⟩ := I.tuple h2
  have l1 := r1.length
  have l2 := r2.length
  refine SeqAt.RcNeAt.tuples (s := s) (A := X.A) (e := e) p1 p2 (by omega) (items_eqAt (n := n) r1 r2 fun j x y u v e1 e2 ru rv => (he j x y e1 e2).eqAt I _ u v (by rw [in1_units]; omega) ru rv) _ _ _ _ ⟨.bl _, H, I, rfl, ?_⟩
  simpa [l1, l2] using q
end
/-- a def that is called: its promise, how it binds, where it stands -/
structure Cal (P : Program) (w : World) (K : PySem.W.Frag) (mg : Str → Option Value) (base : Heap) (CX : CXT) (k : Nat) (x : Str) (ps : List Str) (sp : Sp) : Prop where
  ex : ∃ (f : Addr) (fd : FuncData), FnOk P w K mg base CX k f fd ps sp ∧ Binds K fd ps [] ∧ PySem.W.keepIn K (.ref f) = true ∧ mg x = some (.ref f)
theorem pe_cal {X : Cx} {CX : CXT} {k j : Nat} {ps : List Str} {sp : Sp} {E : XK} {x : Str} {p pos : Pos} {e : Expr} {es : List Expr} {t : TA} (F : Cal X.prog X.w X.K X.mg X.base CX k x ps sp) (hr : Room j X.A) (hg : Gl X x) (hx : Passes CX X E) (ha : PA X (e :: es) t)
    (hk : k ≤ j := by decide) (hdb : (x == ("__debug__" : Str)) = false := by decide) (he : starEach (e :: es) X.env = (false, eval e X.env) :: starEach es X.env := by rfl) (hpl : (backTo pos (starEach es X.env)).any (·.1) = false := by rfl) :
    PE X (.Call (.Name x p) (e :: es) [] pos) (tCall sp [] E t) := by
  obtain ⟨f, fd, h1, h2, h3, h4⟩ := F.ex
  exact pe_call (h1.mono hk) hr hg h4 h3 h2 .nil hx ha hdb he hpl
end L2
set_option maxHeartbeats 4000000
namespace L2
open PySem PySem.Spec PyProof.Rows
/-- place and item of a list as it stands -/
def Ite (K : PySem.W.Frag) (l : Addr) : It :=
  ⟨fun i H => ∃ xs x, SqL K H l xs ∧ xs[i]? = some x,
   fun i H v H' => ∃ p x, v = .ref p ∧ H p = none ∧ H' = upd H p (.tup [.int i, x]) ∧ ∀ xs, SqL K H l xs → xs[i]? = some x,
   fun i H => ∃ xs, SqL K H l xs ∧ xs.length ≤ i⟩
def enmTn (e it l : Addr) (i : Nat) (h : Heap) : Prop := (∃ old, IsEnum h e it i old) ∧ h.IsListIter it l i
theorem turn_enum {P : Program} {w : World} {K : PySem.W.Frag} {es : List Expr} {x1 : Nat} {tp : Pos} {e it l : Addr} (ne : e ≠ it) : Turn P w K (.Tuple es x1 tp) (Ite K l) [e, it] e (enmTn e it l) where
  mem := by simp
  obj := fun i h ⟨⟨old, t1⟩, t2⟩ c hc => by
    simp only [List.mem_cons, List.not_mem_nil, or_false] at hc
    rcases hc with rfl | rfl
    · exact ⟨_, t1, fun v q => by cases q⟩
    · obtain ⟨o, h1, _, h3⟩ := t2; exact ⟨o, h1, fun v q => by rw [h3] at q; cases q⟩
  keep := fun i h h' ⟨⟨old, t1⟩, t2⟩ k => ⟨⟨old, k e (by simp) _ t1⟩, Heap.IsListIter.at (h := h) t2 fun o q => k it (by simp) o q⟩
  item := by
    intro X hP hw hK hc i pins s σ H E I hf st hg
    subst hP hw hK
    obtain ⟨⟨old, t1⟩, t2⟩ := st
    obtain ⟨xs, x, q1, e1⟩ := hg
    obtain ⟨us, r1, p1, _⟩ := I.list q1
    obtain ⟨u, eu, ru⟩ := r1.get e1
    refine wpAny_pyNext_enum_item t1 t2 p1.isList (x := u) (by simpa using eu) ne fun h' a1 a2 a3 a4 a5 => ?_
    refine ⟨_, rfl, wpAny_letOwnedTupleGo_enum a1 fun h'' c1 c2 => ?_⟩
    have nz : s.heap.objs.size ≠ e := Nat.ne_of_gt (Heap.lt_size t1)
    have I1 : Inv X pins σ H { s with heap := h'', toks := s.toks + 1 } := I.turnedL hf fun c o hc q => by
      simp only [List.mem_cons, List.not_mem_nil, or_false, not_or] at hc
      exact c2.extBut c o hc.1 (a5 c o hc.1 hc.2 q)
    have I2 := I.trackNew (t' := s.toks + 1) (o := .tup [.int i, x]) I1 (Nat.le_refl _) ⟨by show 2 ≤ sizeLine; decide, [.int i s.toks, u], .cons ⟨_, rfl⟩ (.cons ru .nil), ⟨_, c2.extBut _ _ nz a3, rfl, _, rfl⟩⟩
    have fr : H s.heap.objs.size = none := I.hok.fresh (Nat.le_refl _)
    refine ⟨.ref s.heap.objs.size, _, I2, rfl, ⟨s.heap.objs.size, x, rfl, fr, rfl, fun xs' q1' => by rw [I.list_inj q1' q1]; exact e1⟩, ⟨⟨_, c1⟩, Heap.IsListIter.at (h := h') a2 fun o q => c2.extBut it o (Ne.symm ne) q⟩, fun c hc => ?_⟩
    obtain ⟨o, eo⟩ : ∃ o, s.heap.get? c = some o := by
      simp only [List.mem_cons, List.not_mem_nil, or_false] at hc
      rcases hc with rfl | rfl
      · exact ⟨_, t1⟩
      · obtain ⟨o, h1, _⟩ := t2; exact ⟨o, h1⟩
    rw [upd_ne (Nat.ne_of_lt (Heap.lt_size eo))]
    exact (hf c hc).1
  done := by
    intro X hP hw hK hc i pins s σ H E I hf st hg
    subst hP hw hK
    obtain ⟨⟨old, t1⟩, t2⟩ := st
    obtain ⟨xs, q1, hl⟩ := hg
    obtain ⟨us, r1, p1, _⟩ := I.list q1
    have n1 := r1.length
    refine wpAny_pyNext_enum_end (I.ok.hd hc) t1 t2 p1.isList (by simp; omega) fun h' kk => ⟨rfl, I.turnedL (t' := s.toks) hf fun c o hc q => ?_⟩
    simp only [List.mem_cons, List.not_mem_nil, or_false, not_or] at hc
    exact kk c o hc.2 q
  self := fun _ _ _ _ _ st h => by
    obtain ⟨⟨old, t1⟩, _⟩ := st
    exact wpAny_pyIter_enum t1 h
section
variable {X : Cx} {es : List Expr} {x1 : Nat} {tp : Pos}
def iEnm (K : PySem.W.Frag) (ta : TA) : TI := fun σ H R => ta σ H fun vs H1 => ∃ l xs, vs = [.ref l] ∧ SqL K H1 l xs ∧ R (Ite K l) H1
theorem pi_enum {a : Expr} {ta : TA} {p pos : Pos} (hg : Gl X "enumerate") (hm : X.mg "enumerate" = none) (ha : PA X [a] ta) (hs : starEach [a] X.env = [(false, eval a X.env)] := by rfl) :
    PI X (.Tuple es x1 tp) (.Call (.Name "enumerate" p) [a] [] pos) (iEnm X.K ta) := by
  intro pins s σ H R I h
  refine Call_ (ld_blt I hg hm boot_enumerate (PyProof.Rows.callWith_type1 (thn (ha pos pins s σ H _ I h) fun us s1 ⟨vs, H1, I1, r1, q1⟩ => ?_) hs rfl))
  obtain ⟨l, xs, rfl, q1, q⟩ := q1
  cases r1 with
  | cons r rr =>
    cases rr
    cases r
    obtain ⟨us1, _, p1, _⟩ := I1.list q1
    refine call_enumerate_list p1.isList fun h' a1 a2 _ kk => ?_
    refine wpAny_pyIter_enum a1 ?_
    have I2 : Inv X pins σ H1 { s1 with heap := h', toks := s1.toks } := I1.kept kk
    refine ⟨_, [s1.heap.objs.size + 1, s1.heap.objs.size], _, _, H1, rfl, I2, turn_enum (Nat.succ_ne_self _), ⟨⟨_, a1⟩, a2⟩, fun c hc => ?_, q⟩
    have hge : s1.heap.objs.size ≤ c := by
      simp only [List.mem_cons, List.not_mem_nil, or_false] at hc
      rcases hc with rfl | rfl <;> omega
    exact I1.fpOk (H' := H1) hge (I1.hok.fresh hge)
/-- over a list that the body leaves as it is -/
theorem for_enum {K : PySem.W.Frag} {a : Addr} {xs : List V} {g : TG} {tb : TS} {D : Ends} {σ : St} {H : Hp} (Pv : Nat → St → Hp → Prop) (h0 : Pv 0 σ H) (hl : ∀ i σ H, i ≤ xs.length → Pv i σ H → SqL K H a xs)
    (hs : ∀ i x σ H p, xs[i]? = some x → Pv i σ H → H p = none → g (.ref p) σ (upd H p (.tup [.int i, x])) fun σ2 H2 => tb { D with nx := Pv (i + 1), ct := Pv (i + 1), bk := D.nx } σ2 H2) (hd : ∀ σ H, Pv xs.length σ H → D.nx σ H) :
    ∃ W : Nat → Nat → St → Hp → Prop, (∃ m, W 0 m σ H) ∧ ∀ i m σ H, W i m σ H →
      ((Ite K a).stop i H ∧ D.nx σ H) ∨ ((Ite K a).go i H ∧ ∃ N : St → Hp → Prop, (∀ σ' H', N σ' H' → ∃ m', m' < m ∧ W (i + 1) m' σ' H') ∧ ∀ x H', (Ite K a).yld i H x H' → g x σ H' fun σ2 H2 => tb { D with nx := N, ct := N, bk := D.nx } σ2 H2) := by
  refine ⟨fun i m σ H => m = xs.length - i ∧ i ≤ xs.length ∧ Pv i σ H, ⟨xs.length, by simp, Nat.zero_le _, h0⟩, ?_⟩
  rintro i m σ H ⟨rfl, hi, p⟩
  have q := hl i σ H hi p
  by_cases hlt : i < xs.length
  · refine .inr ⟨⟨xs, xs[i], q, by simp [hlt]⟩, Pv (i + 1), fun σ' H' p' => ⟨xs.length - (i + 1), by omega, rfl, hlt, p'⟩, fun x H' y => ?_⟩
    obtain ⟨c, x', rfl, hc, rfl, y⟩ := y
    exact hs i x' σ _ c (y xs q) p hc
  · have e : i = xs.length := by omega
    subst e
    exact .inl ⟨⟨xs, q, Nat.le_refl _⟩, hd σ H p⟩
/-- two sequences walked together that the body leaves as they are -/
theorem for_zip {K : PySem.W.Frag} {b1 b2 : Bool} {a b : Addr} {xs ys : List V} {g : TG} {tb : TS} {D : Ends} {σ : St} {H : Hp} (Pv : Nat → St → Hp → Prop) (h0 : Pv 0 σ H) (hl : ∀ i σ H, i ≤ min xs.length ys.length → Pv i σ H → SqB K H b1 a xs ∧ SqB K H b2 b ys)
    (hs : ∀ i x y σ H p, xs[i]? = some x → ys[i]? = some y → Pv i σ H → H p = none → g (.ref p) σ (upd H p (.tup [x, y])) fun σ2 H2 => tb { D with nx := Pv (i + 1), ct := Pv (i + 1), bk := D.nx } σ2 H2) (hd : ∀ σ H, Pv (min xs.length ys.length) σ H → D.nx σ H) :
    ∃ W : Nat → Nat → St → Hp → Prop, (∃ m, W 0 m σ H) ∧ ∀ i m σ H, W i m σ H →
      ((Itz K b1 b2 a b).stop i H ∧ D.nx σ H) ∨ ((Itz K b1 b2 a b).go i H ∧ ∃ N : St → Hp → Prop, (∀ σ' H', N σ' H' → ∃ m', m' < m ∧ W (i + 1) m' σ' H') ∧ ∀ x H', (Itz K b1 b2 a b).yld i H x H' → g x σ H' fun σ2 H2 => tb { D with nx := N, ct := N, bk := D.nx } σ2 H2) := by
  refine ⟨fun i m σ H => m = min xs.length ys.length - i ∧ i ≤ min xs.length ys.length ∧ Pv i σ H, ⟨min xs.length ys.length, by simp, Nat.zero_le _, h0⟩, ?_⟩
  rintro i m σ H ⟨rfl, hi, p⟩
  obtain ⟨q1, q2⟩ := hl i σ H hi p
  by_cases hlt : i < min xs.length ys.length
  · refine .inr ⟨⟨xs, ys, xs[i]'(by omega), ys[i]'(by omega), q1, q2, by simp, by simp⟩, Pv (i + 1), fun σ' H' p' => ⟨min xs.length ys.length - (i + 1), by omega, rfl, hlt, p'⟩, fun x H' y => ?_⟩
    obtain ⟨c, x', y', rfl, hc, rfl, y⟩ := y
    obtain ⟨e1, e2⟩ := y xs ys q1 q2
    exact hs i x' y' σ _ c e1 e2 p hc
  · have e : i = min xs.length ys.length := by omega
    subst e
    exact .inl ⟨⟨xs, ys, q1, q2, by omega⟩, hd σ H p⟩
end
end L2
set_option maxHeartbeats 4000000
namespace L2
open PySem PySem.Spec PyProof.Rows
def relabelD (scope D : Scope) : List (Str × NameKind) := scope.names.map fun (n, k) => if (k == .free && D.kind == .function && D.names.lookup n == some .cell) then (n, .cell) else (n, k)
def compOk (N N' : List Str) (ix : List (Option Nat)) (scope D : Scope) : Bool :=
  (scope.kind == .function) && (scope.names.all fun y => (y.2 == .local && scope.names.lookup y.1 == some .local) || (y.2 == .free && D.names.lookup y.1 == some .cell) || (y.2 != .local && y.2 != .free && y.2 != .cell)) && decide N'.Nodup && (ix.length == N'.length) &&
  ((List.range N'.length).all fun k => match ix[k]?, N'[k]? with
    | some (some j), some x => N[j]? == some x && scope.names.contains (x, .free) && (relabelD scope D).lookup x == some .cell
    | _, _ => true)
theorem comp_scope {X : Cx} {N' : List Str} {ix : List (Option Nat)} {scope : Scope} {N : List Str} {D : Scope} (h : compOk N N' ix scope D = true) (hN : X.N = N := by rfl) (hD : X.env.scope = D := by rfl) : CompScope X N' ix scope := by
  unfold compOk at h
  simp only [Bool.and_eq_true, decide_eq_true_eq] at h
  obtain ⟨⟨⟨⟨h1, h2⟩, h3⟩, h4⟩, h5⟩ := h
  have hall := List.all_eq_true.mp h2
  refine ⟨by simpa using h1, fun y hy => ?_, fun y hy e => ?_, h3, by simpa using h4, fun y hy e => ?_, fun k j x e1 e2 => ?_⟩
  · have := hall y hy
    intro z
    rw [z] at this
    simp at this
  · have := hall y hy
    rw [e] at this
    simpa using this
  · have := hall y hy
    rw [e] at this
    have q : D.names.lookup y.1 = some .cell := by simpa using this
    show X.env.scope.names.lookup y.1 = some .cell
    rw [hD]; exact q
  · have hk : k < N'.length := (List.getElem?_eq_some_iff.mp e1).1
    have := List.all_eq_true.mp h5 k (List.mem_range.mpr hk)
    rw [e1, e2] at this
    simp only [Bool.and_eq_true, beq_iff_eq] at this
    obtain ⟨⟨a1, a2⟩, a3⟩ := this
    refine ⟨by rw [hN]; exact a1, by simpa using a2, ?_⟩
    show (relabelD scope X.env.scope).lookup x = some .cell
    rw [hD]; exact a3
end L2
set_option maxHeartbeats 4000000
namespace L2
open PySem PySem.Spec PyProof.Rows
/-- try: body / except C as n: suite. The i-th name is n; E says what may be caught; the suite knows no name's value but n's -/
def tTryE (i k : Nat) (E : XK) (tb : TS) (th : Addr → TS) : TS := fun D σ H => tb D σ H ∧ ∀ (C a : Addr) (H1 : Hp), E (.ref C) none H1 → H1 a = none →
  th a { nx := fun σ' H' => D.nx (σ'.set i none) H', rt := D.rt, bk := fun σ' H' => D.bk (σ'.set i none) H', ct := fun σ' H' => D.ct (σ'.set i none) H' } ((List.replicate k none).set i (some (.ref a))) (upd H1 a (.ext (IsX a (.ref C))))
section
variable {X : Cx}
theorem ps_tryE {body : List Stmt} {b₀ : Stmt} {suite : List Stmt} {x n : Str} {C : Addr} {i : Nat} {E : XK} {tb : TS} {th : Addr → TS} {np hpos pos : Pos} (hN : X.N.Nodup) (hi : X.N[i]? = some n) (hl : X.env.scope.names.lookup n = some .local)
    (hfr : X.env.frame = some X.env.locals) (hstk : X.stack = X.env :: X.outer) (hg : Gl X x) (hm : X.mg x = some (.ref C)) (hcalm : X.calm = true) (hex : X.ex = []) (hx : ∀ cls H, E cls none H → (∃ D, cls = .ref D) ∧ PySem.W.exmOne X.K cls (.ref C) = some true)
    (hb : ∀ pn xe, Passes (CXE X.prog X.w) (X.tryCx pn xe) E → PSs (X.tryCx pn xe) body tb) (hs : ∀ e, PSs (X.suite e) (b₀ :: suite) (th e)) (hd : (x == ("__debug__" : Str)) = false := by decide) :
    PS X (.Try body [.ExceptHandler (some (.Name x np)) (some n) (b₀ :: suite) hpos] [] [] pos) (tTryE i X.N.length E tb th) := by
  intro pins s σ H D I ⟨h1, h2⟩
  refine wpAny_Try_except ?_
  refine wpAny_mono (hb (X.pn ++ pins) _ ?_ [] s σ H D I.toTry h1) (fun f s1 q => ?_) fun e s1 q => q
  · -- what an exception finds here
    intro pins' σ' H' s0 e s' J hcx
    obtain ⟨a, cls, a0, H1, B, rfl, hos, hbare, hE, hok, hna, hnew, fly, u⟩ := hcx
    obtain ⟨⟨D1, rfl⟩, hmatch⟩ := hx cls H1 hE
    have land : ∀ (h'' : Heap) (tk : Nat), B.StaysIn h'' → s'.heap.UpToSlots h'' → Inv X pins (List.replicate X.N.length none) H1 { s' with heap := h'', toks := tk } := fun h'' tk b1 b2 => by
      have J1 := (fly_land J hos hbare hok fly u b1 b2).tok tk
      exact (J1.ofTry' I.ok).weak (by rw [List.length_replicate]; exact J1.len.symm) fun k v e => by
        rw [List.getElem?_replicate] at e
        split at e <;> cases e
    have fly' : Heap.FlyingW B (X.env :: X.outer) a (.ref D1) a0 s'.heap := by rw [← hstk]; exact fly
    refine wpAny_looks_onW (L := X.env.locals) (by rw [I.ok.frames, hstk]) hfr fly' fun h4 held4 up4 => ?_
    refine wpAny_landsW held4 fun h5 fly5 up5 => ?_
    have J5 := land h5 s'.toks fly5.1 (up4.trans up5)
    obtain ⟨o5, vs5, e5, c5, d5, _⟩ := fly5.first
    refine wpAny_handleBy_cons (codeAny_handlers_test (ld_glob (X := X.suite a) (pins := pins) (σ := List.replicate X.N.length none) (H := H1) J5.toSuite hg hm ?_ hd)) (by intro q; cases q)
    refine (PySem.W.exm_one (M := model X.prog X.w) J5.kIn (xc_ty ⟨o5, vs5, e5, c5, d5⟩) hmatch).here ?_
    refine codeAny_handlers_suite_as ?_
    refine lands_againW fly5 fun h6 fly6 up6 => ?_
    have J6 := land h6 s'.toks fly6.1 ((up4.trans up5).trans up6)
    obtain ⟨o6, vs6, e6, c6, d6, _⟩ := fly6.first
    have ne0 : ∀ b ob, s0.heap.get? b = some ob → b ≠ a := fun b ob q z => by rw [z, hnew] at q; cases q
    have JT : Inv X pins (List.replicate X.N.length none) (upd H1 a (.ext (IsX a (.ref D1)))) { s' with heap := h6, toks := s'.toks } := by
      refine J6.track ?_ hna (fun z => ?_) (fun y c q z => ?_) (fun p hp z => ?_) ⟨⟨o6, vs6, e6, c6, d6⟩, ⟨o6, e6⟩, fun g1 g2 ⟨o, vs, y1, y2, y3⟩ k => ⟨o, vs, k o y1, y2, y3⟩⟩
      · cases q : X.s₀.heap.get? a with
        | none => rfl
        | some ob =>
          obtain ⟨ob', q1⟩ := J.base.there a ob q (by rw [show (X.tryCx _ _).ex = [] from hex]; intro z; cases z)
          exact absurd rfl (ne0 a ob' q1)
      · obtain ⟨m, ⟨ob, _, _, q, _⟩, _⟩ := J.loc
        exact ne0 _ ob q z.symm
      · obtain ⟨v, ob, q1, _⟩ := J.cell y c q
        exact ne0 c ob q1 z
      · exact ne0 p.1 p.2 (J.pin p (List.mem_append_left _ hp)).1 z
    refine store_ok (X := X) (i := i) (v := .ref a) JT hN hi (.inl hl) rfl (fun s7 J7 => ?_) (.inr hl)
    refine wpAny_mono (hs a pins s7 _ _ _ J7.toSuite (h2 D1 a H1 hE hna)) (fun f s8 q8 => ?_) fun _ _ z => z.elim
    cases f with
    | next =>
      obtain ⟨σ8, H8, J8, q⟩ := q8
      exact (J8.ofSuite I.ok).nameGoes hN hi hl fun s9 J9 => ⟨_, H8, J9, q⟩
    | brk =>
      obtain ⟨σ8, H8, J8, q⟩ := q8
      exact (J8.ofSuite I.ok).nameGoes hN hi hl fun s9 J9 => ⟨_, H8, J9, q⟩
    | cont =>
      obtain ⟨σ8, H8, J8, q⟩ := q8
      exact (J8.ofSuite I.ok).nameGoes hN hi hl fun s9 J9 => ⟨_, H8, J9, q⟩
    | ret v =>
      obtain ⟨v8, σ8, H8, J8, r8, q⟩ := q8
      exact (J8.ofSuite I.ok).nameGoes hN hi hl fun s9 J9 => ⟨v8, _, H8, J9, r8, q⟩
  · cases f with
    | next => exact wpAny_execs_nil (SP.ofTry I.ok q)
    | brk => exact SP.ofTry I.ok q
    | cont => exact SP.ofTry I.ok q
    | ret v => exact SP.ofTry I.ok q
end
end L2
set_option maxHeartbeats 4000000
namespace L2
open PySem PySem.Spec PyProof.Rows
section
variable {K : PySem.W.Frag} {c d : Addr} {b : Bool} {v : Value}
theorem cls_some (h : PySem.W.mroIn K c v = some b) : (PySem.W.clsIn K c).isSome = true := by
  unfold PySem.W.mroIn at h
  cases e : PySem.W.clsIn K c with
  | none => rw [e] at h; cases h
  | some x => rfl
theorem kit_of {t : Value} (h0 : (t == .ref d) = false) (h1 : (PySem.W.clsIn K d).isSome = true) (h2 : PySem.W.typeIn K (.ref d) = some (.type "type")) (h3 : PySem.W.subIn K t (.ref d) = some b) : PySem.W.kitOne K t (.ref d) = some b := by
  unfold PySem.W.kitOne
  rw [if_neg (by rw [h0]; decide)]
  show (if ((PySem.W.clsIn K d).isSome && PySem.W.typeIn K (.ref d) == some (.type "type")) = true then PySem.W.subIn K t (.ref d) else none) = some b
  rw [h1, h2, if_pos (by simp)]
  exact h3
theorem kit_self : PySem.W.kitOne K (.ref c) (.ref c) = some true := by
  unfold PySem.W.kitOne
  rw [if_pos (by simp)]
theorem kit_ne (hs : PySem.W.mroIn K c (.ref c) = some true) (h1 : (PySem.W.clsIn K d).isSome = true) (h2 : PySem.W.typeIn K (.ref d) = some (.type "type")) (h3 : PySem.W.mroIn K c (.ref d) = some false) : PySem.W.kitOne K (.ref c) (.ref d) = some false := by
  refine kit_of ?_ h1 h2 h3
  refine Bool.eq_false_iff.mpr fun z => ?_
  have e : c = d := Value.ref.inj (beq_iff_eq.mp z)
  subst e
  rw [hs] at h3
  cases h3
theorem kit_ty {T : String} (hm : PySem.W.kitMeta T = true) (h : PySem.W.mroIn K c (.type T) = some b) : PySem.W.kitOne K (.ref c) (.type T) = some b := by
  unfold PySem.W.kitOne
  rw [if_neg (by intro z; cases beq_iff_eq.mp z)]
  show (if PySem.W.kitMeta T = true then PySem.W.subIn K (.ref c) (.type T) else none) = some b
  rw [if_pos hm]
  exact h
theorem exm_of (h0 : PySem.W.subIn K (.ref d) (.type "BaseException") = some true) (h1 : (PySem.W.clsIn K d).isSome = true) (h2 : PySem.W.typeIn K (.ref d) = some (.type "type")) (h3 : PySem.W.mroIn K c (.ref d) = some b) : PySem.W.exmOne K (.ref c) (.ref d) = some b := by
  unfold PySem.W.exmOne
  rw [if_pos (by rw [h0]; simp)]
  show (if ((PySem.W.clsIn K d).isSome && PySem.W.typeIn K (.ref d) == some (.type "type")) = true then PySem.W.subIn K (.ref c) (.ref d) else none) = some b
  rw [h1, h2, if_pos (by simp)]
  exact h3
theorem meta_VE : PySem.W.kitMeta "ValueError" = true := by decide +kernel
end
end L2
set_option maxHeartbeats 4000000
namespace L2
open PySem PySem.Spec PyProof.Rows
/-- the rule for a def that may raise -/
theorem Fun.okE {P : Program} {w : World} {K : PySem.W.Frag} {mg : Str → Option Value} {base : Heap} {x qual : Str} {st : Stmt} {f : Addr} {fd : FuncData} {N ps : List Str} {k : Nat} {sp : Sp} (F : Fun K x qual st f fd) (S : FnScope N ps (defScope st))
    (len : ∀ vs H Q E, sp vs H Q E → vs.length = ps.length)
    (hbody : ∀ (cdv : Value) (A : Around) (outer : List Env) (s : Shared) (H : Hp) (vs : List V) (Q : VK) (E : XK), Room k (A.deeper (envOfC qual (defScope st) s.heap.objs.size f cdv)) → sp vs H Q E →
      ∃ t, PSs (cxOf (CXE P w) P w K mg base N qual (defScope st) f cdv A outer s H E) (defBody st) t ∧ t { nx := fun _ H' => Q .non H', rt := Q } (start N vs) H) : FnOk P w K mg base (CXE P w) (k + 1) f fd ps sp := by
  obtain ⟨oc, od, kV, doc, pm, an, cdv, ct, osl, rfl, lk, hcd⟩ := F.ex
  exact fn_of lk hcd S len fun A outer s H vs Q E hr hsp => hbody cdv A outer s H vs Q E hr hsp
/-- one statement, then the rest, by what holds between -/
theorem tSeq_by {t u : TS} {D : Ends} {σ : St} {H : Hp} (R : St → Hp → Prop) (h1 : ∀ D' : Ends, (∀ σ' H', R σ' H' → D'.nx σ' H') → D'.rt = D.rt → t D' σ H) (h2 : ∀ σ' H', R σ' H' → u D σ' H') : tSeq t u D σ H := h1 { D with nx := u D } h2 rfl
theorem boot_VE : bootBuiltins "ValueError" = some (.type "ValueError") := by decide +kernel
/-- the builtins' names are not the text's -/
structure Bn (mg : Str → Option Value) : Prop where
  len : mg "len" = none
  list : mg "list" = none
  isi : mg "isinstance" = none
  bool : mg "bool" = none
  int : mg "int" = none
  str : mg "str" = none
  tuple : mg "tuple" = none
  all : mg "all" = none
  any : mg "any" = none
  zip : mg "zip" = none
  range : mg "range" = none
  max : mg "max" = none
  min : mg "min" = none
  enumerate : mg "enumerate" = none
  sum : mg "sum" = none
  sorted : mg "sorted" = none
  verr : mg "ValueError" = none
/-- all but what stands at a is as it was -/
def KeepBut (a : Addr) (H H' : Hp) : Prop := ∀ b o, b ≠ a → H b = some o → H' b = some o
theorem KeepBut.refl {a : Addr} {H : Hp} : KeepBut a H H := fun _ _ _ h => h
theorem KeepBut.trans {a : Addr} {H H1 H2 : Hp} (x : KeepBut a H H1) (y : KeepBut a H1 H2) : KeepBut a H H2 := fun b o n h => y b o n (x b o n h)
theorem KeepBut.upd {a : Addr} {H H1 : Hp} {o : HO} (x : KeepBut a H H1) : KeepBut a H (L2.upd H1 a o) := fun b u n h => by rw [upd_ne n]; exact x b u n h
theorem KeepBut.new {a p : Addr} {H H1 : Hp} {o : HO} (x : KeepBut a H H1) (hp : H1 p = none) : KeepBut a H (L2.upd H1 p o) := fun b u n h => by
  have := x b u n h
  rw [upd_ne (ne_of_none this hp)]; exact this
/-- a record that came later changes -/
theorem KeepBut.young {a p : Addr} {H H1 : Hp} {o : HO} (x : KeepBut a H H1) (hp : H p = none) : KeepBut a H (L2.upd H1 p o) := fun b u n h => by
  rw [upd_ne (ne_of_none h hp)]; exact x b u n h
theorem KeepBut.of_same {a : Addr} {H H1 : Hp} (x : Same H H1) : KeepBut a H H1 := fun b o _ h => x b o h
theorem KeepBut.none {a p : Addr} {H H' : Hp} (k : KeepBut a H H') (n : p ≠ a) (h : H' p = Option.none) : H p = Option.none := by
  cases q : H p with
  | none => rfl
  | some o => rw [k p o n q] at h; cases h
theorem Same.young {p : Addr} {H H1 : Hp} {o : HO} (x : Same H H1) (hp : H p = none) : Same H (L2.upd H1 p o) := fun b u h => by
  rw [upd_ne (ne_of_none h hp)]; exact x b u h
/-- the drawing list at a -/
def Draw (H : Hp) (a c : Addr) (ns : List Int) (i x y z : Int) : Prop := H a = some (.lst [.ref c, .int i, .int x, .int y, .int z]) ∧ H c = some (.lst (ns.map V.int)) ∧ c ≠ a ∧ 0 ≤ i ∧ 0 ≤ y ∧ y < 1000000007
def DrawAt (H : Hp) (a c : Addr) : Prop := ∃ ns i x y z, Draw H a c ns i x y z
theorem DrawAt.new {H : Hp} {a c p : Addr} {o : HO} (d : DrawAt H a c) (hp : H p = none) : DrawAt (L2.upd H p o) a c := by
  obtain ⟨ns, i, x, y, z, h1, h2, r⟩ := d
  exact ⟨ns, i, x, y, z, by rw [upd_ne (ne_of_none h1 hp)]; exact h1, by rw [upd_ne (ne_of_none h2 hp)]; exact h2, r⟩
theorem DrawAt.upd {H : Hp} {a c p : Addr} {o : HO} (d : DrawAt H a c) (na : p ≠ a) (nc : p ≠ c) : DrawAt (L2.upd H p o) a c := by
  obtain ⟨ns, i, x, y, z, h1, h2, r⟩ := d
  exact ⟨ns, i, x, y, z, by rw [upd_ne na.symm]; exact h1, by rw [upd_ne nc.symm]; exact h2, r⟩
theorem DrawAt.same {H H' : Hp} {a c : Addr} (d : DrawAt H a c) (s : Same H H') : DrawAt H' a c := by
  obtain ⟨ns, i, x, y, z, h1, h2, r⟩ := d
  exact ⟨ns, i, x, y, z, s _ _ h1, s _ _ h2, r⟩
theorem DrawAt.there {H : Hp} {a c : Addr} (d : DrawAt H a c) : ∃ o, H a = some o := by
  obtain ⟨ns, i, x, y, z, h1, _⟩ := d
  exact ⟨_, h1⟩
/-- what is new is not the drawing list -/
theorem DrawAt.ne {H : Hp} {a c p : Addr} (d : DrawAt H a c) (hp : H p = none) : p ≠ a := by
  obtain ⟨o, e⟩ := d.there
  exact (ne_of_none e hp).symm
theorem DrawAt.nc {H : Hp} {a c p : Addr} (d : DrawAt H a c) (hp : H p = none) : p ≠ c := by
  obtain ⟨ns, i, x, y, z, _, h2, _⟩ := d
  exact (ne_of_none h2 hp).symm
theorem DrawAt.neT {H : Hp} {a c p : Addr} {xs : List V} (d : DrawAt H a c) (hp : H p = some (.tup xs)) : p ≠ a := by
  obtain ⟨_, _, _, _, _, h, _⟩ := d
  exact ne_of hp h (by intro z; cases z)
def spBegin (K : PySem.W.Frag) : Sp := fun vs H Q _ => ∃ (a : Addr) (ns : List Int), vs = [.ref a] ∧ SqL K H a (ns.map V.int) ∧ ns.length ≤ 63 ∧ ∀ l c H', H l = none → H c = none → Same H H' → DrawAt H' l c → Q (.ref l) H'
def spPick : Sp := fun vs H Q _ => ∃ (a c : Addr) (m : Int), vs = [.ref a, .int m] ∧ DrawAt H a c ∧ 0 < m ∧ m < 18446744073709551616 ∧ ∀ r H', 0 ≤ r → r < m → DrawAt H' a c → KeepBut a H H' → Q (.int r) H'
def spSome : Sp := fun vs H Q _ => ∃ a c : Addr, vs = [.ref a] ∧ DrawAt H a c ∧ ∀ r H', 0 ≤ r → r ≤ 400 → DrawAt H' a c → KeepBut a H H' → Q (.int r) H'
def spOdd : Sp := fun vs H Q _ => ∃ a c : Addr, vs = [.ref a] ∧ DrawAt H a c ∧ ∀ (r : Int) H', DrawAt H' a c → KeepBut a H H' → Q (.int r) H'
theorem cut_ints (ns : List Int) (lo hi : Option Int) : ∃ ms : List Int, cutV (ns.map V.int) lo hi = ms.map V.int ∧ ms.length ≤ ns.length := by
  unfold cutV
  rw [← List.map_drop, ← List.map_take]
  exact ⟨_, rfl, by rw [List.length_take, List.length_drop]; omega⟩
theorem at_int {xs : List V} (h : ∀ x ∈ xs, ∃ v, x = V.int v) {r : Int} (h0 : 0 ≤ r) (h1 : r < (xs.length : Int)) : ∃ v, atI xs r = some (.int v) := by
  have hk : r.toNat < xs.length := by omega
  obtain ⟨v, ev⟩ := h _ (List.getElem_mem hk)
  refine ⟨v, ?_⟩
  have := atI_nat (xs := xs) (j := r.toNat) (v := .int v) (by rw [List.getElem?_eq_getElem hk, ev])
  rw [show ((r.toNat : Nat) : Int) = r by omega] at this
  exact this
/-- an item by a place that is a number -/
theorem atI_some {xs : List V} {r : Int} {v : V} (h0 : 0 ≤ r) (h : xs[r.toNat]? = some v) : atI xs r = some v := by
  have := atI_nat (xs := xs) (j := r.toNat) (v := v) h
  rw [show ((r.toNat : Nat) : Int) = r by omega] at this
  exact this
/-- a list of tuples of numbers -/
def Rows (H : Hp) (a : Addr) (rs : List (List Int)) : Prop := ∃ ps : List Addr, H a = some (.lst (ps.map V.ref)) ∧ ps.length = rs.length ∧ ∀ (i : Nat) p r, ps[i]? = some p → rs[i]? = some r → H p = some (.tup (r.map V.int))
theorem Rows.same {H H' : Hp} {a : Addr} {rs : List (List Int)} (h : Rows H a rs) (s : Same H H') : Rows H' a rs := by
  obtain ⟨ps, h1, h2, h3⟩ := h
  exact ⟨ps, s _ _ h1, h2, fun i p r e1 e2 => s _ _ (h3 i p r e1 e2)⟩
theorem Rows.keep {H H' : Hp} {a l c : Addr} {rs : List (List Int)} (h : Rows H a rs) (n : a ≠ l) (d : DrawAt H l c) (k : KeepBut l H H') : Rows H' a rs := by
  obtain ⟨ps, h1, h2, h3⟩ := h
  exact ⟨ps, k _ _ n h1, h2, fun i p r e1 e2 => k _ _ (d.neT (h3 i p r e1 e2)) (h3 i p r e1 e2)⟩
theorem Rows.there {H : Hp} {a : Addr} {rs : List (List Int)} (h : Rows H a rs) : ∃ o, H a = some o := by
  obtain ⟨ps, h1, _⟩ := h
  exact ⟨_, h1⟩
theorem Rows.get {H : Hp} {a : Addr} {rs : List (List Int)} (h : Rows H a rs) : ∃ xs : List V, H a = some (.lst xs) ∧ xs.length = rs.length ∧ ∀ (i : Nat) x, xs[i]? = some x → ∃ p r, x = .ref p ∧ rs[i]? = some r ∧ H p = some (.tup (r.map V.int)) := by
  obtain ⟨ps, h1, h2, h3⟩ := h
  refine ⟨_, h1, by rw [List.length_map, h2], fun i x e => ?_⟩
  rw [List.getElem?_map] at e
  cases q : ps[i]? with
  | none => rw [q] at e; cases e
  | some p =>
    rw [q] at e
    have hi := (List.getElem?_eq_some_iff.mp q).1
    have hr : rs[i]? = some (rs[i]'(by omega)) := List.getElem?_eq_getElem (by omega)
    exact ⟨p, _, (Option.some.inj e).symm, hr, h3 i p _ q hr⟩
/-- one more row -/
theorem Rows.push {H : Hp} {a p : Addr} {rs : List (List Int)} {xs : List V} {r : List Int} (h : Rows H a rs) (hx : H a = some (.lst xs)) (hp : H p = none) : Rows (L2.upd (L2.upd H p (.tup (r.map V.int))) a (.lst (xs ++ [.ref p]))) a (rs ++ [r]) := by
  obtain ⟨ps, h1, h2, h3⟩ := h
  rw [hx] at h1
  cases h1
  refine ⟨ps ++ [p], by rw [upd_same, List.map_append]; rfl, by rw [List.length_append, List.length_append, h2]; rfl, fun i q r' e1 e2 => ?_⟩
  by_cases hi : i < ps.length
  · rw [List.getElem?_append_left hi] at e1
    rw [List.getElem?_append_left (by omega)] at e2
    have := h3 i q r' e1 e2
    rw [upd_ne (ne_of this hx (by intro z; cases z)), upd_ne (ne_of_none this hp)]
    exact this
  · have hi' : i = ps.length := by
      have := (List.getElem?_eq_some_iff.mp e1).1
      rw [List.length_append, List.length_singleton] at this
      omega
    subst hi'
    rw [List.getElem?_append_right (Nat.le_refl _), Nat.sub_self] at e1
    rw [h2, List.getElem?_append_right (Nat.le_refl _), Nat.sub_self] at e2
    cases e1
    cases e2
    rw [upd_ne (ne_of_none hx hp).symm, upd_same]
theorem Rows.nil {H : Hp} {a : Addr} (h : H a = some (.lst [])) : Rows H a [] := ⟨[], h, rfl, fun i p r e => by cases e⟩
/-- a lot with its day in lo .. lo + n - 1 and at most sc units -/
def LotIn (lo n sc : Int) (r : List Int) : Prop := ∃ d c u : Int, r = [d, c, u] ∧ lo ≤ d ∧ d < lo + n ∧ 1 ≤ c ∧ c ≤ sc ∧ 1 ≤ u ∧ u ≤ 1000000
def OutIn (lo n sc : Int) (r : List Int) : Prop := ∃ d c : Int, r = [d, c] ∧ lo ≤ d ∧ d < lo + n ∧ 1 ≤ c ∧ c ≤ sc
def spSpan : Sp := fun vs H Q _ => ∃ a c : Addr, vs = [.ref a] ∧ DrawAt H a c ∧ ∀ p lo n H', H p = none → 1 ≤ lo → 6 ≤ n → lo + n ≤ 1000 → DrawAt H' a c → KeepBut a H H' → H' p = some (.tup [.int lo, .int n]) → Q (.ref p) H'
def spLots : Sp := fun vs H Q _ => ∃ (a c p : Addr) (m lo n sc : Int), vs = [.ref a, .int m, .ref p, .int sc] ∧ DrawAt H a c ∧ 0 ≤ m ∧ m ≤ 900 ∧ H p = some (.tup [.int lo, .int n]) ∧ 1 ≤ n ∧ n ≤ 999 ∧ 1 ≤ sc ∧ sc ≤ 10000000000 ∧
  ∀ l rs H', H l = none → (∀ r ∈ rs, LotIn lo n sc r) → (rs.length : Int) ≤ m → DrawAt H' a c → KeepBut a H H' → Rows H' l rs → Q (.ref l) H'
def spOuts : Sp := fun vs H Q _ => ∃ (a c p : Addr) (m lo n sc : Int), vs = [.ref a, .int m, .ref p, .int sc] ∧ DrawAt H a c ∧ 0 ≤ m ∧ m ≤ 900 ∧ H p = some (.tup [.int lo, .int n]) ∧ 1 ≤ n ∧ n ≤ 999 ∧ 1 ≤ sc ∧ sc ≤ 10000000000 ∧
  ∀ l rs H', H l = none → (∀ r ∈ rs, OutIn lo n sc r) → (rs.length : Int) ≤ m → DrawAt H' a c → KeepBut a H H' → Rows H' l rs → Q (.ref l) H'
def spCase : Sp := fun vs H Q _ => ∃ (a c : Addr) (m : Int), vs = [.ref a, .int m] ∧ DrawAt H a c ∧ 0 ≤ m ∧ m ≤ 900 ∧
  ∀ (q l o : Addr) (tm lo n sc : Int) ls os H', H l = none → H o = none → l ≠ o → 0 ≤ tm → tm ≤ 400 → 1 ≤ lo → 6 ≤ n → lo + n ≤ 1000 → 1 ≤ sc → sc ≤ 10000000000 → (∀ r ∈ ls, LotIn lo n sc r) → (∀ r ∈ os, OutIn lo n sc r) → (ls.length : Int) ≤ m → (os.length : Int) ≤ m →
    DrawAt H' a c → KeepBut a H H' → Rows H' l ls → Rows H' o os → H' q = some (.tup [.ref l, .ref o, .int tm]) → Q (.ref q) H'
/-- t + u of two tuples -/
def rAddT : R2 := fun x y H Q => ∃ a b xs ys, x = .ref a ∧ y = .ref b ∧ H a = some (.tup xs) ∧ H b = some (.tup ys) ∧ xs.length + ys.length ≤ sizeLine ∧ ∀ p H', Same H H' → H' p = some (.tup (xs ++ ys)) → Q (.ref p) H'
theorem cat_tup0 {prog : Program} {w : World} {A : Around} {E : Value → Shared → Prop} {s : Shared} {t b : Addr} {vs ws : List Value} {Q : Value → Shared → Prop} (ht : IsTup s.heap t vs.toArray) (hb : IsTup s.heap b ws.toArray) (hv : vs = []) (h1 : Q (.ref b) s) : wpAny (model prog w) A (binaryOp .Add (.ref t) (.ref b)) Q E s := by
  obtain ⟨⟨cls, dd, data, sl⟩, ho, hc, n, hd⟩ := id ht
  obtain ⟨⟨cls2, dd2, data2, sl2⟩, ho2, hc2, n2, hd2⟩ := id hb
  simp only at hc hd hc2 hd2
  subst hc hd hc2 hd2
  exact concat_meets ⟨_, ho, rfl⟩ ⟨_, ho2, rfl⟩ noFill_tuple_add seq_tuple_add PySem.F.slot_tuple_add PySem.F.entry_tuple_add (PySem.F.args_tuple_add_2 _ _)
      (tuple_addW0 t b vs.toArray ws.toArray n n2 dd dd2 sl sl2 (by simp [hv])) ⟨ho, ho2, h1⟩
theorem op_addT {X : Cx} : OpR X (binaryOp .Add) rAddT := by
  intro pins s σ H x y v u Q I rx ry h
  obtain ⟨a, b, xs, ys, rfl, rfl, ha, hb, hz, q⟩ := h
  by_cases hx : xs = []
  · cases rx
    cases ry
    obtain ⟨its, r1, p1, _⟩ := I.tuple (SqT.of ha)
    obtain ⟨its2, r2, p2, _⟩ := I.tuple (SqT.of hb)
    exact cat_tup0 p1 p2 (r1.nil_iff.mpr hx) ⟨.ref b, H, I, rfl, q b H (Same.refl H) (by rw [hx]; exact hb)⟩
  · refine op_catT pins s σ H _ _ v u Q I rx ry ⟨a, b, xs, ys, rfl, rfl, SqT.of ha, SqT.of hb, hx, hz, fun e => q a H (Same.refl H) (by rw [e, List.append_nil]; exact ha), fun e p hp => q p _ (same_new hp _) upd_same⟩
end L2
set_option maxHeartbeats 4000000
namespace K17
open PySem L2
def top (i : Nat) : Stmt := PySem.Challenge.pw_drawback_k17_papers_judged.main.body.getD i (.Pass ⟨0, 0, 0, 0⟩)
abbrev s_begin : Stmt := top 35
abbrev n_begin : List Str := ["_law_script"]
abbrev p_begin : List Str := ["_law_script"]
theorem sc_begin : FnScope n_begin p_begin (defScope s_begin) := ⟨rfl, rfl, rfl, by decide +kernel, rfl, by decide +kernel, by decide +kernel⟩
abbrev s_pick : Stmt := top 33
abbrev n_pick : List Str := ["_law_draw", "_law_many", "_law_cell", "_law_got"]
abbrev p_pick : List Str := ["_law_draw", "_law_many"]
theorem sc_pick : FnScope n_pick p_pick (defScope s_pick) := ⟨rfl, rfl, rfl, by decide +kernel, rfl, by decide +kernel, by decide +kernel⟩
abbrev s_span : Stmt := top 36
abbrev n_span : List Str := ["_law_draw", "_law_span_here"]
abbrev p_span : List Str := ["_law_draw"]
theorem sc_span : FnScope n_span p_span (defScope s_span) := ⟨rfl, rfl, rfl, by decide +kernel, rfl, by decide +kernel, by decide +kernel⟩
abbrev s_some_term : Stmt := top 37
abbrev n_some_term : List Str := ["_law_draw"]
abbrev p_some_term : List Str := ["_law_draw"]
theorem sc_some_term : FnScope n_some_term p_some_term (defScope s_some_term) := ⟨rfl, rfl, rfl, by decide +kernel, rfl, by decide +kernel, by decide +kernel⟩
abbrev s_some_lots : Stmt := top 38
abbrev n_some_lots : List Str := ["_law_draw", "_law_most", "_law_days", "_law_scale", "_law_dear", "_law_found", "_law_k", "_law_day", "_law_count"]
abbrev p_some_lots : List Str := ["_law_draw", "_law_most", "_law_days", "_law_scale"]
theorem sc_some_lots : FnScope n_some_lots p_some_lots (defScope s_some_lots) := ⟨rfl, rfl, rfl, by decide +kernel, rfl, by decide +kernel, by decide +kernel⟩
abbrev s_some_outs : Stmt := top 39
abbrev n_some_outs : List Str := ["_law_draw", "_law_most", "_law_days", "_law_scale", "_law_found", "_law_k", "_law_day"]
abbrev p_some_outs : List Str := ["_law_draw", "_law_most", "_law_days", "_law_scale"]
theorem sc_some_outs : FnScope n_some_outs p_some_outs (defScope s_some_outs) := ⟨rfl, rfl, rfl, by decide +kernel, rfl, by decide +kernel, by decide +kernel⟩
abbrev s_case : Stmt := top 40
abbrev n_case : List Str := ["_law_draw", "_law_most", "_law_days", "_law_term", "_law_scale", "_law_lots"]
abbrev p_case : List Str := ["_law_draw", "_law_most"]
theorem sc_case : FnScope n_case p_case (defScope s_case) := ⟨rfl, rfl, rfl, by decide +kernel, rfl, by decide +kernel, by decide +kernel⟩
section
variable {P : Program} {w : World} {K : PySem.W.Frag} {mg : Str → Option Value} {base : Heap} {f : Addr} {fd : FuncData}
theorem ok_begin (F : Fun K "_law_begin" "_law_begin" s_begin f fd) (B : Bn mg) : FnOk P w K mg base CX0 1 f fd p_begin (spBegin K) := by
  refine F.ok sc_begin (fun vs H Q E h => ?_) (fun cdv A outer s H vs Q E hr h => ?_)
  · obtain ⟨a, ns, rfl, _⟩ := h; rfl
  obtain ⟨a, ns, rfl, hS, hl, q⟩ := h
  refine ⟨_, (pss_one (ps_ret (pe_lst (pa_c (pe_callTy call_list_of rfl B.list PyProof.Rows.boot_list (pa_c (pe_slice sl_list (pv 0) po_none (po_some pe_int)) pa_nil)) (pa_c pe_int (pa_c pe_int (pa_c pe_int (pa_c pe_int pa_nil)))))))), ?_⟩
  refine ⟨_, rfl, _, rfl, a, _, rfl, hS, fun p hp => ?_⟩
  obtain ⟨ms, em, hm⟩ := cut_ints ns none (some 63)
  refine ⟨p, _, rfl, .inl (SqL.of upd_same), fun c hc => ?_⟩
  refine ⟨by show 5 ≤ sizeLine; decide, fun l hl' => ?_⟩
  have s1 : Same H (L2.upd H p (.lst (cutV (ns.map V.int) none (some 63)))) := same_new hp _
  have s2 := s1.trans (same_new hc (.lst (cutV (ns.map V.int) none (some 63))))
  have s3 := s2.trans (same_new hl' (.lst [.ref c, .int 0, .int 0, .int 1, .int 0]))
  have ncl : c ≠ l := ne_of_none (upd_same (H := L2.upd H p _) (o := .lst (cutV (ns.map V.int) none (some 63)))) hl'
  refine q l c _ (s2.free hl') (s1.free hc) s3 ⟨ms, 0, 0, 1, 0, upd_same, ?_, ncl, by decide, by decide, by decide⟩
  rw [upd_ne ncl, upd_same, em]
theorem ok_pick (F : Fun K "_law_pick" "_law_pick" s_pick f fd) (B : Bn mg) : FnOk P w K mg base CX0 1 f fd p_pick spPick := by
  refine F.ok sc_pick (fun vs H Q E h => ?_) (fun cdv A outer s H vs Q E hr h => ?_)
  · obtain ⟨a, c, m, rfl, _⟩ := h; rfl
  obtain ⟨a, c, m, rfl, ⟨ns, i, x, y, z, d1, d2, nca, hi, hy, hy2⟩, hm, hm2, q⟩ := h
  refine ⟨_, (pss_cons (ps_if (PW.pt (pw_and (pt_cmpR op_lt (pe_ix ix_list (pv 0) pe_int (fun _ _ => rfl)) (pv 1) (nomark _)) (pw_and1 (pt_cmpR op_lt (pe_ix ix_list (pv 0) pe_int (fun _ _ => rfl)) (pe_callB call_len_seq rfl B.len PySem.boot_len (pa_c (pe_ix ix_list (pv 0) pe_int (fun _ _ => rfl)) pa_nil)) (nomark _))))) (pss_cons (ps_set (i := 2) sc_pick.nd rfl (Or.inl rfl) (pe_ix ix_list (pe_ix ix_list (pv 0) pe_int (fun _ _ => rfl)) (pe_ix ix_list (pv 0) pe_int (fun _ _ => rfl)) (fun _ _ => rfl)))
      (pss_cons (ps_asg (pe_op op_add (pe_ix ix_list (pv 0) pe_int (fun _ _ => rfl)) pe_int) (pg_sub (pv 0) pe_int set_list))
      (pss_cons (ps_asg pe_int (pg_sub (pv 0) pe_int set_list))
      (pss_one (ps_if (pt_cmpR op_ge (pv 2) (pe_op op_pow pe_int pe_int) (nomark _)) (pss_one (ps_asg (pv 2) (pg_sub (pv 0) pe_int set_list))) (pss_one (ps_asg (pe_op op_mod (pe_op op_add (pe_ix ix_list (pv 0) pe_int (fun _ _ => rfl)) (pv 2)) pe_int) (pg_sub (pv 0) pe_int set_list)))))))) pss_nil)
    (pss_cons (ps_if (pt_cmpR op_ge (pe_ix ix_list (pv 0) pe_int (fun _ _ => rfl)) (pv 1) (nomark _)) (pss_cons (ps_set (i := 3) sc_pick.nd rfl (Or.inl rfl) (pe_op op_mod (pe_ix ix_list (pv 0) pe_int (fun _ _ => rfl)) (pv 1)))
      (pss_cons (ps_asg (pe_op op_fdivL (pe_ix ix_list (pv 0) pe_int (fun _ _ => rfl)) (pv 1)) (pg_sub (pv 0) pe_int set_list))
      (pss_one (ps_ret (pv 3))))) pss_nil)
    (pss_cons (ps_asg (pe_op op_add (pe_ix ix_list (pv 0) pe_int (fun _ _ => rfl)) pe_int) (pg_sub (pv 0) pe_int set_list))
    (pss_cons (ps_asg (pe_op op_mod (pe_op op_add (pe_op op_add (pe_op op_pow (pe_ix ix_list (pv 0) pe_int (fun _ _ => rfl)) pe_int) (pe_op op_mul pe_int (pe_ix ix_list (pv 0) pe_int (fun _ _ => rfl)))) pe_int) pe_int) (pg_sub (pv 0) pe_int set_list))
    (pss_one (ps_ret (pe_op op_mod (pe_op op_fdivL (pe_ix ix_list (pv 0) pe_int (fun _ _ => rfl)) pe_int) (pv 1)))))))), ?_⟩
  refine (show ∀ (u : TS), (∀ (cv : Option V) (H1 : Hp) (i x y z : Int), Draw H1 a c ns i x y z → KeepBut a H H1 → u { nx := fun _ H' => Q .non H', rt := Q } [some (.ref a), some (.int m), cv, none] H1) → tSeq _ u _ _ _ from fun u hu => ?_) _ ?_
  · -- if draw[2] < many and draw[1] < len(draw[0])
    refine ⟨_, rfl, a, _, _, .int x, rfl, rfl, SqL.of d1, rfl, _, rfl, _, _, rfl, rfl, _, rfl, ?_⟩
    by_cases c1 : x < m
    · rw [decide_eq_true c1]
      refine iteT ⟨_, rfl, a, _, _, .int i, rfl, rfl, SqL.of d1, rfl, _, rfl, a, _, _, .ref c, rfl, rfl, SqL.of d1, rfl, c, _, rfl, .inl (SqL.of d2), _, _, rfl, rfl, _, rfl, ?_⟩
      rw [List.length_map]
      by_cases c2 : i < (ns.length : Int)
      · rw [decide_eq_true c2]
        have hk : i.toNat < ns.length := by omega
        have ei : ((i.toNat : Nat) : Int) = i := by omega
        have eat : atI (ns.map V.int) i = some (.int ns[i.toNat]) := by
          have := atI_nat (xs := ns.map V.int) (j := i.toNat) (v := .int ns[i.toNat]) (by rw [List.getElem?_map, List.getElem?_eq_getElem hk]; rfl)
          rw [ei] at this; exact this
        -- cell = draw[0][draw[1]]
        refine iteT ⟨_, rfl, a, _, _, .ref c, rfl, rfl, SqL.of d1, rfl, _, rfl, a, _, _, .int i, rfl, rfl, SqL.of d1, rfl, c, _, _, .int ns[i.toNat], rfl, rfl, SqL.of d2, eat, ?_⟩
        generalize ns[i.toNat] = v
        -- draw[1] = draw[1] + 1
        refine ⟨_, rfl, a, _, _, .int i, rfl, rfl, SqL.of d1, rfl, _, _, rfl, rfl, _, rfl, a, _, _, 1, rfl, rfl, d1, rfl, ?_⟩
        -- draw[2] = 0
        refine ⟨_, rfl, a, _, _, 2, rfl, rfl, upd_same, rfl, ?_⟩
        rw [upd_upd]
        have e2 : L2.upd H a (.lst [.ref c, .int (i + 1), .int 0, .int y, .int z]) c = some (.lst (ns.map V.int)) := by rw [upd_ne nca]; exact d2
        refine ⟨_, rfl, _, _, rfl, rfl, ⟨by decide, by decide, by decide⟩, _, _, rfl, rfl, _, rfl, ?_⟩
        refine ite2 (fun _ => ?_) (fun _ => ?_)
        · refine ⟨_, rfl, _, rfl, a, _, _, 2, rfl, rfl, upd_same, rfl, ?_⟩
          rw [upd_upd]
          exact hu _ _ (i + 1) v y z ⟨upd_same, by rw [upd_ne nca]; exact d2, nca, by omega, hy, hy2⟩ KeepBut.refl.upd
        · refine ⟨_, rfl, a, _, _, .int y, rfl, rfl, SqL.of upd_same, rfl, _, rfl, _, _, rfl, rfl, _, _, rfl, rfl, (by show (0 : Int) < 1000000007; decide), _, rfl, a, _, _, 3, rfl, rfl, upd_same, rfl, ?_⟩
          rw [upd_upd]
          exact hu _ _ (i + 1) 0 ((y + v) % 1000000007) z ⟨upd_same, by rw [upd_ne nca]; exact d2, nca, by omega, by omega, by omega⟩ KeepBut.refl.upd
      · rw [decide_eq_false c2]
        exact iteF (hu _ H i x y z ⟨d1, d2, nca, hi, hy, hy2⟩ KeepBut.refl)
    · rw [decide_eq_false c1]
      exact iteF (iteF (hu _ H i x y z ⟨d1, d2, nca, hi, hy, hy2⟩ KeepBut.refl))
  · -- the rest
    clear d1 d2 hi hy hy2 i x y z
    rintro cv H1 i x y z ⟨d1, d2, _, hi, hy, hy2⟩ kb
    refine ⟨_, rfl, a, _, _, .int x, rfl, rfl, SqL.of d1, rfl, _, rfl, _, _, rfl, rfl, _, rfl, ?_⟩
    by_cases c1 : m ≤ x
    · rw [decide_eq_true c1]
      refine iteT ⟨_, rfl, a, _, _, .int x, rfl, rfl, SqL.of d1, rfl, _, rfl, _, _, rfl, rfl, hm, ?_⟩
      refine ⟨_, rfl, a, _, _, .int x, rfl, rfl, SqL.of d1, rfl, _, rfl, _, _, rfl, rfl, ⟨hm, hm2⟩, _, rfl, a, _, _, 2, rfl, rfl, d1, rfl, ?_⟩
      refine ⟨_, rfl, ?_⟩
      exact q _ _ (Int.emod_nonneg _ (by omega)) (Int.emod_lt_of_pos _ hm) ⟨ns, i, x / m, y, z, upd_same, by rw [upd_ne nca]; exact d2, nca, hi, hy, hy2⟩ kb.upd
    · rw [decide_eq_false c1]
      refine iteF ?_
      refine ⟨_, rfl, a, _, _, .int z, rfl, rfl, SqL.of d1, rfl, _, _, rfl, rfl, _, rfl, a, _, _, 4, rfl, rfl, d1, rfl, ?_⟩
      refine ⟨_, rfl, a, _, _, .int y, rfl, rfl, SqL.of upd_same, rfl, _, _, rfl, rfl, ⟨by decide, by decide, by omega⟩, _, rfl, a, _, _, .int (z + 1), rfl, rfl, SqL.of upd_same, rfl, _, _, rfl, rfl, .inl ⟨by decide, by decide⟩, _, _, rfl, rfl, _, _, rfl, rfl, _, _, rfl, rfl, (by show (0 : Int) < 1000000007; decide), _, rfl, a, _, _, 3, rfl, rfl, upd_same, rfl, ?_⟩
      rw [upd_upd]
      have hy4 : 0 ≤ (y ^ (3 : Int).toNat + 40503 * (z + 1) + 17) % 1000000007 ∧ (y ^ (3 : Int).toNat + 40503 * (z + 1) + 17) % 1000000007 < 1000000007 := ⟨Int.emod_nonneg _ (by decide), Int.emod_lt_of_pos _ (by decide)⟩
      refine ⟨_, rfl, a, _, _, .int ((y ^ (3 : Int).toNat + 40503 * (z + 1) + 17) % 1000000007), rfl, rfl, SqL.of upd_same, rfl, _, _, rfl, rfl, ⟨by decide, by decide⟩, _, rfl, _, _, rfl, rfl, hm, ?_⟩
      exact q _ _ (Int.emod_nonneg _ (by omega)) (Int.emod_lt_of_pos _ hm) ⟨ns, i, x, (y ^ (3 : Int).toNat + 40503 * (z + 1) + 17) % 1000000007, z + 1, upd_same, by rw [upd_ne nca]; exact d2, nca, hi, hy4.1, hy4.2⟩ kb.upd
variable (B : Bn mg) (G_pick : Cal P w K mg base CX0 1 "_law_pick" p_pick spPick)
include B G_pick
theorem ok_some_term (F : Fun K "_law_some_term" "_law_some_term" s_some_term f fd) : FnOk P w K mg base CX0 2 f fd p_some_term spSome := by
  refine F.ok sc_some_term (fun vs H Q E h => ?_) (fun cdv A outer s H vs Q E hr h => ?_)
  · obtain ⟨a, c, rfl, _⟩ := h; rfl
  obtain ⟨a, c, rfl, d, q⟩ := h
  refine ⟨_, (pss_one (ps_ret (pe_ix ix_tup (pe_tup (pa_c pe_int (pa_c pe_int (pa_c pe_int (pa_c (pe_cal G_pick hr rfl pass0 (pa_c (pv 0) (pa_c pe_int pa_nil))) (pa_c (pe_cal G_pick hr rfl pass0 (pa_c (pv 0) (pa_c pe_int pa_nil))) (pa_c pe_int pa_nil))))))) (pe_cal G_pick hr rfl pass0 (pa_c (pv 0) (pa_c pe_int pa_nil))) (fun _ _ => rfl)))), ?_⟩
  refine ⟨_, rfl, a, c, 12, rfl, d, by decide, by decide, fun r1 H1 a1 c1 d1 kb1 => ?_⟩
  refine ⟨_, rfl, a, c, 60, rfl, d1, by decide, by decide, fun r2 H2 a2 c2 d2 kb2 => ?_⟩
  refine ⟨by show 6 ≤ sizeLine; decide, fun p hp => ?_⟩
  refine ⟨_, rfl, a, c, 6, rfl, d2.new hp, by decide, by decide, fun r3 H3 a3 c3 d3 kb3 => ?_⟩
  have ht := kb3 p _ (d2.ne hp) upd_same
  have hv : ∃ v, atI [V.int 0, .int 1, .int 3, .int r1, .int r2, .int 400] r3 = some (.int v) ∧ 0 ≤ v ∧ v ≤ 400 := by
    have : r3 = 0 ∨ r3 = 1 ∨ r3 = 2 ∨ r3 = 3 ∨ r3 = 4 ∨ r3 = 5 := by omega
    rcases this with rfl | rfl | rfl | rfl | rfl | rfl
    · exact ⟨0, rfl, by omega, by omega⟩
    · exact ⟨1, rfl, by omega, by omega⟩
    · exact ⟨3, rfl, by omega, by omega⟩
    · exact ⟨r1, rfl, by omega, by omega⟩
    · exact ⟨r2, rfl, by omega, by omega⟩
    · exact ⟨400, rfl, by omega, by omega⟩
  obtain ⟨v, ev, v0, v1⟩ := hv
  exact ⟨p, _, _, .int v, rfl, rfl, SqT.of ht, ev, q v H3 v0 v1 d3 ((kb1.trans (kb2.new hp)).trans kb3)⟩
theorem ok_span (F : Fun K "_law_span" "_law_span" s_span f fd) : FnOk P w K mg base CX0 2 f fd p_span spSpan := by
  refine F.ok sc_span (fun vs H Q E h => ?_) (fun cdv A outer s H vs Q E hr h => ?_)
  · obtain ⟨a, c, rfl, _⟩ := h; rfl
  obtain ⟨a, c, rfl, d, q⟩ := h
  refine ⟨_, (pss_cons (ps_set (i := 1) sc_span.nd rfl (Or.inl rfl) (pe_ix ix_tup (pe_tup (pa_c pe_int (pa_c pe_int (pa_c pe_int (pa_c pe_int pa_nil))))) (pe_cal G_pick hr rfl pass0 (pa_c (pv 0) (pa_c pe_int pa_nil))) (fun _ _ => rfl)))
    (pss_one (ps_ret (pe_tup (pa_c (pe_op op_add pe_int (pe_cal G_pick hr rfl pass0 (pa_c (pv 0) (pa_c (pe_op op_sub pe_int (pv 1)) pa_nil)))) (pa_c (pv 1) pa_nil)))))), ?_⟩
  refine ⟨by show 4 ≤ sizeLine; decide, fun p0 hp0 => ?_⟩
  refine ⟨_, rfl, a, c, 4, rfl, d.new hp0, by decide, by decide, fun r1 H1 a1 c1 d1 kb1 => ?_⟩
  have ht := kb1 p0 _ (d.ne hp0) upd_same
  have hv : ∃ v, atI [V.int 6, .int 20, .int 60, .int 999] r1 = some (.int v) ∧ 6 ≤ v ∧ v ≤ 999 := by
    have : r1 = 0 ∨ r1 = 1 ∨ r1 = 2 ∨ r1 = 3 := by omega
    rcases this with rfl | rfl | rfl | rfl
    · exact ⟨6, rfl, by omega, by omega⟩
    · exact ⟨20, rfl, by omega, by omega⟩
    · exact ⟨60, rfl, by omega, by omega⟩
    · exact ⟨999, rfl, by omega, by omega⟩
  obtain ⟨v, ev, v0, v1⟩ := hv
  refine ⟨p0, _, _, .int v, rfl, rfl, SqT.of ht, ev, ?_⟩
  refine ⟨_, rfl, _, rfl, _, _, rfl, rfl, a, c, 1000 - v, rfl, d1, by omega, by omega, fun r2 H2 a2 c2 d2 kb2 => ?_⟩
  refine ⟨_, _, rfl, rfl, _, rfl, by show 2 ≤ sizeLine; decide, fun p hp => ?_⟩
  have k : KeepBut a H H2 := ((KeepBut.refl.new hp0).trans kb1).trans kb2
  exact q p (1 + r2) v _ (k.none (d2.ne hp) hp) (by omega) (by omega) (by omega) (d2.new hp) (k.new hp) upd_same
theorem ok_some_lots (F : Fun K "_law_some_lots" "_law_some_lots" s_some_lots f fd) : FnOk P w K mg base CX0 2 f fd p_some_lots spLots := by
  refine F.ok sc_some_lots (fun vs H Q E h => ?_) (fun cdv A outer s H vs Q E hr h => ?_)
  · obtain ⟨a, c, p, m, lo, n, sc, rfl, _⟩ := h; rfl
  obtain ⟨a, c, p, m, lo, n, sc, rfl, d, m0, m1, hp, n0, n1, s0, s1, q⟩ := h
  refine ⟨_, (pss_cons (ps_set (i := 4) sc_some_lots.nd rfl (Or.inl rfl) (pe_ix ix_tup (pe_tup (pa_c pe_int (pa_c pe_int (pa_c pe_int (pa_c (pe_op op_pow pe_int pe_int) pa_nil))))) (pe_cal G_pick hr rfl pass0 (pa_c (pv 0) (pa_c pe_int pa_nil))) (fun _ _ => rfl)))
    (pss_cons (ps_set (i := 5) sc_some_lots.nd rfl (Or.inl rfl) (pe_lst pa_nil))
    (pss_cons (ps_for PassesOwn.never rfl (pi_range1 rfl B.range (pa_c (pe_cal G_pick hr rfl pass0 (pa_c (pv 0) (pa_c (pe_op op_add (pv 1) pe_int) pa_nil))) pa_nil)) (pg_name (i := 6) sc_some_lots.nd rfl (Or.inl rfl)) (pss_cons (ps_set (i := 7) sc_some_lots.nd rfl (Or.inl rfl) (pe_op op_add (pe_ix ix_tup (pv 2) pe_int (fun _ _ => rfl)) (pe_cal G_pick hr rfl pass0 (pa_c (pv 0) (pa_c (pe_ix ix_tup (pv 2) pe_int (fun _ _ => rfl)) pa_nil)))))
      (pss_cons (ps_set (i := 8) sc_some_lots.nd rfl (Or.inl rfl) (pe_op op_add pe_int (pe_cal G_pick hr rfl pass0 (pa_c (pv 0) (pa_c (pv 3) pa_nil)))))
      (pss_one (ps_expr (pe_bm PySem.F.plainAttrs_list PySem.F.slot_list_append PySem.F.type_list_append mt_append (pv 5) (pa_c (pe_tup (pa_c (pv 7) (pa_c (pv 8) (pa_c (pe_op op_add pe_int (pe_cal G_pick hr rfl pass0 (pa_c (pv 0) (pa_c (pv 4) pa_nil)))) pa_nil)))) pa_nil)))))))
    (pss_one (ps_ret (pv 5)))))), ?_⟩
  refine ⟨_, _, rfl, rfl, ⟨by decide, by decide, by decide⟩, by show 4 ≤ sizeLine; decide, fun p0 hp0 => ?_⟩
  refine ⟨_, rfl, a, c, 4, rfl, d.new hp0, by decide, by decide, fun r1 H1 a1 c1 d1 kb1 => ?_⟩
  have ht := kb1 p0 _ (d.ne hp0) upd_same
  have hv : ∃ v, atI [V.int 2, .int 5, .int 40, .int (10 ^ (6 : Int).toNat)] r1 = some (.int v) ∧ 1 ≤ v ∧ v ≤ 1000000 := by
    have : r1 = 0 ∨ r1 = 1 ∨ r1 = 2 ∨ r1 = 3 := by omega
    rcases this with rfl | rfl | rfl | rfl
    · exact ⟨2, rfl, by omega, by omega⟩
    · exact ⟨5, rfl, by omega, by omega⟩
    · exact ⟨40, rfl, by omega, by omega⟩
    · exact ⟨1000000, rfl, by omega, by omega⟩
  obtain ⟨dear, ev, v0, v1⟩ := hv
  refine ⟨p0, _, _, .int dear, rfl, rfl, SqT.of ht, ev, ?_⟩
  refine ⟨by show 0 ≤ sizeLine; decide, fun l hl => ?_⟩
  have k1 : KeepBut a H H1 := (KeepBut.refl.new hp0).trans kb1
  have fl : H l = none := k1.none (d1.ne hl) hl
  have dl := d1.new (o := .lst []) hl
  have pa : p ≠ a := d.neT hp
  refine ⟨_, rfl, _, rfl, _, _, rfl, rfl, a, c, m + 1, rfl, dl, by omega, by omega, fun r2 H2 a2 c2 d2 kb2 => ?_⟩
  have k2 : KeepBut a H H2 := (k1.new hl).trans kb2
  have hl2 := kb2 l _ (d1.ne hl) upd_same
  refine ⟨r2, rfl, by omega, by omega, for_range (n := r2.toNat) (fun i σ H3 => ∃ o6 o7 o8 rs, σ = [some (.ref a), some (.int m), some (.ref p), some (.int sc), some (.int dear), some (.ref l), o6, o7, o8] ∧ DrawAt H3 a c ∧ KeepBut a H H3 ∧ Rows H3 l rs ∧ rs.length = i ∧ ∀ r ∈ rs, LotIn lo n sc r) ⟨_, _, _, [], rfl, d2, k2, Rows.nil hl2, rfl, fun r hr => by cases hr⟩ ?_ ?_⟩
  · rintro i σ H3 hi ⟨o6, o7, o8, rs, rfl, d3, k3, hR, hlen, hall⟩
    -- day
    refine ⟨_, rfl, p, _, _, .int lo, rfl, rfl, SqT.of (k3 p _ pa hp), rfl, ?_⟩
    refine ⟨_, rfl, _, rfl, p, _, _, .int n, rfl, rfl, SqT.of (k3 p _ pa hp), rfl, a, c, n, rfl, d3, by omega, by omega, fun x1 H4 a4 c4 d4 kb4 => ⟨_, _, rfl, rfl, ?_⟩⟩
    -- count
    refine ⟨_, rfl, _, rfl, a, c, sc, rfl, d4, by omega, by omega, fun x2 H5 a5 c5 d5 kb5 => ⟨_, _, rfl, rfl, ?_⟩⟩
    -- found.append((day, count, 1 + pick(dear)))
    have nla : l ≠ a := d1.ne hl
    have R5 := (hR.keep nla d3 kb4).keep nla d4 kb5
    refine ⟨_, rfl, .inl ⟨rfl, ?_⟩, ?_⟩
    · obtain ⟨xs, e, _⟩ := R5.get
      exact ⟨_, SqL.of e⟩
    refine ⟨_, rfl, _, rfl, _, rfl, _, rfl, a, c, dear, rfl, d5, by omega, by omega, fun x3 H6 a6 c6 d6 kb6 => ⟨_, _, rfl, rfl, by show 3 ≤ sizeLine; decide, fun t ht => ?_⟩⟩
    have R6 := R5.keep nla d5 kb6
    obtain ⟨xs, ex, exl, _⟩ := R6.get
    refine ⟨l, xs, .ref t, rfl, rfl, by rw [upd_ne (ne_of_none ex ht)]; exact ex, small1000 (by omega), ?_⟩
    have k6 : KeepBut a H H6 := ((k3.trans kb4).trans kb5).trans kb6
    have dn := (d6.new (o := .tup [.int (lo + x1), .int (1 + x2), .int (1 + x3)]) ht).upd (o := .lst (xs ++ [.ref t])) nla (d1.nc hl)
    refine ⟨_, _, _, rs ++ [[lo + x1, 1 + x2, 1 + x3]], rfl, dn, (k6.new ht).young fl, R6.push (r := [lo + x1, 1 + x2, 1 + x3]) ex ht, by rw [List.length_append, hlen]; rfl, fun r hr => ?_⟩
    rcases List.mem_append.mp hr with z | z
    · exact hall r z
    · rw [List.mem_singleton.mp z]
      exact ⟨_, _, _, rfl, by omega, by omega, by omega, by omega, by omega, by omega⟩
  · rintro σ H3 ⟨o6, o7, o8, rs, rfl, d3, k3, hR, hlen, hall⟩
    exact ⟨_, rfl, q l rs H3 fl hall (by omega) d3 k3 hR⟩
theorem ok_some_outs (F : Fun K "_law_some_outs" "_law_some_outs" s_some_outs f fd) : FnOk P w K mg base CX0 2 f fd p_some_outs spOuts := by
  refine F.ok sc_some_outs (fun vs H Q E h => ?_) (fun cdv A outer s H vs Q E hr h => ?_)
  · obtain ⟨a, c, p, m, lo, n, sc, rfl, _⟩ := h; rfl
  obtain ⟨a, c, p, m, lo, n, sc, rfl, d, m0, m1, hp, n0, n1, s0, s1, q⟩ := h
  refine ⟨_, (pss_cons (ps_set (i := 4) sc_some_outs.nd rfl (Or.inl rfl) (pe_lst pa_nil))
    (pss_cons (ps_for PassesOwn.never rfl (pi_range1 rfl B.range (pa_c (pe_cal G_pick hr rfl pass0 (pa_c (pv 0) (pa_c (pe_op op_add (pv 1) pe_int) pa_nil))) pa_nil)) (pg_name (i := 5) sc_some_outs.nd rfl (Or.inl rfl)) (pss_cons (ps_set (i := 6) sc_some_outs.nd rfl (Or.inl rfl) (pe_op op_add (pe_ix ix_tup (pv 2) pe_int (fun _ _ => rfl)) (pe_cal G_pick hr rfl pass0 (pa_c (pv 0) (pa_c (pe_ix ix_tup (pv 2) pe_int (fun _ _ => rfl)) pa_nil)))))
      (pss_one (ps_expr (pe_bm PySem.F.plainAttrs_list PySem.F.slot_list_append PySem.F.type_list_append mt_append (pv 4) (pa_c (pe_tup (pa_c (pv 6) (pa_c (pe_op op_add pe_int (pe_cal G_pick hr rfl pass0 (pa_c (pv 0) (pa_c (pv 3) pa_nil)))) pa_nil))) pa_nil))))))
    (pss_one (ps_ret (pv 4))))), ?_⟩
  refine ⟨by show 0 ≤ sizeLine; decide, fun l hl => ?_⟩
  have nla : l ≠ a := d.ne hl
  have pa : p ≠ a := d.neT hp
  refine ⟨_, rfl, _, rfl, _, _, rfl, rfl, a, c, m + 1, rfl, d.new hl, by omega, by omega, fun r2 H2 a2 c2 d2 kb2 => ?_⟩
  have k2 : KeepBut a H H2 := (KeepBut.refl.new hl).trans kb2
  have hl2 := kb2 l _ nla upd_same
  refine ⟨r2, rfl, by omega, by omega, for_range (n := r2.toNat) (fun i σ H3 => ∃ o6 o7 rs, σ = [some (.ref a), some (.int m), some (.ref p), some (.int sc), some (.ref l), o6, o7] ∧ DrawAt H3 a c ∧ KeepBut a H H3 ∧ Rows H3 l rs ∧ rs.length = i ∧ ∀ r ∈ rs, OutIn lo n sc r) ⟨_, _, [], rfl, d2, k2, Rows.nil hl2, rfl, fun r hr => by cases hr⟩ ?_ ?_⟩
  · rintro i σ H3 hi ⟨o6, o7, rs, rfl, d3, k3, hR, hlen, hall⟩
    -- day
    refine ⟨_, rfl, p, _, _, .int lo, rfl, rfl, SqT.of (k3 p _ pa hp), rfl, ?_⟩
    refine ⟨_, rfl, _, rfl, p, _, _, .int n, rfl, rfl, SqT.of (k3 p _ pa hp), rfl, a, c, n, rfl, d3, by omega, by omega, fun x1 H4 a4 c4 d4 kb4 => ⟨_, _, rfl, rfl, ?_⟩⟩
    -- found.append((day, 1 + pick(scale)))
    have R5 := hR.keep nla d3 kb4
    refine ⟨_, rfl, .inl ⟨rfl, ?_⟩, ?_⟩
    · obtain ⟨xs, e, _⟩ := R5.get
      exact ⟨_, SqL.of e⟩
    refine ⟨_, rfl, _, rfl, _, rfl, a, c, sc, rfl, d4, by omega, by omega, fun x3 H6 a6 c6 d6 kb6 => ⟨_, _, rfl, rfl, by show 2 ≤ sizeLine; decide, fun t ht => ?_⟩⟩
    have R6 := R5.keep nla d4 kb6
    obtain ⟨xs, ex, exl, _⟩ := R6.get
    refine ⟨l, xs, .ref t, rfl, rfl, by rw [upd_ne (ne_of_none ex ht)]; exact ex, small1000 (by omega), ?_⟩
    have k6 : KeepBut a H H6 := (k3.trans kb4).trans kb6
    have dn := (d6.new (o := .tup [.int (lo + x1), .int (1 + x3)]) ht).upd (o := .lst (xs ++ [.ref t])) nla (d.nc hl)
    refine ⟨_, _, rs ++ [[lo + x1, 1 + x3]], rfl, dn, (k6.new ht).young hl, R6.push (r := [lo + x1, 1 + x3]) ex ht, by rw [List.length_append, hlen]; rfl, fun r hr => ?_⟩
    rcases List.mem_append.mp hr with z | z
    · exact hall r z
    · rw [List.mem_singleton.mp z]
      exact ⟨_, _, rfl, by omega, by omega, by omega, by omega⟩
  · rintro σ H3 ⟨o6, o7, rs, rfl, d3, k3, hR, hlen, hall⟩
    exact ⟨_, rfl, q l rs H3 hl hall (by omega) d3 k3 hR⟩
theorem ok_case (G_span : Cal P w K mg base CX0 2 "_law_span" p_span spSpan) (G_some_term : Cal P w K mg base CX0 2 "_law_some_term" p_some_term spSome) (G_some_lots : Cal P w K mg base CX0 2 "_law_some_lots" p_some_lots spLots) (G_some_outs : Cal P w K mg base CX0 2 "_law_some_outs" p_some_outs spOuts)
    (F : Fun K "_law_case" "_law_case" s_case f fd) : FnOk P w K mg base CX0 3 f fd p_case spCase := by
  refine F.ok sc_case (fun vs H Q E h => ?_) (fun cdv A outer s H vs Q E hr h => ?_)
  · obtain ⟨a, c, m, rfl, _⟩ := h; rfl
  obtain ⟨a, c, m, rfl, d, m0, m1, q⟩ := h
  refine ⟨_, (pss_cons (ps_set (i := 2) sc_case.nd rfl (Or.inl rfl) (pe_cal G_span hr rfl pass0 (pa_c (pv 0) pa_nil)))
    (pss_cons (ps_set (i := 3) sc_case.nd rfl (Or.inl rfl) (pe_cal G_some_term hr rfl pass0 (pa_c (pv 0) pa_nil)))
    (pss_cons (ps_set (i := 4) sc_case.nd rfl (Or.inl rfl) (pe_ix ix_tup (pe_tup (pa_c pe_int (pa_c pe_int (pa_c pe_int (pa_c (pe_op op_pow pe_int pe_int) pa_nil))))) (pe_cal G_pick hr rfl pass0 (pa_c (pv 0) (pa_c pe_int pa_nil))) (fun _ _ => rfl)))
    (pss_cons (ps_set (i := 5) sc_case.nd rfl (Or.inl rfl) (pe_cal G_some_lots hr rfl pass0 (pa_c (pv 0) (pa_c (pv 1) (pa_c (pv 2) (pa_c (pv 4) pa_nil))))))
    (pss_one (ps_ret (pe_tup (pa_c (pv 5) (pa_c (pe_cal G_some_outs hr rfl pass0 (pa_c (pv 0) (pa_c (pv 1) (pa_c (pv 2) (pa_c (pv 4) pa_nil))))) (pa_c (pv 3) pa_nil)))))))))), ?_⟩
  refine ⟨_, rfl, a, c, rfl, d, fun p lo n H1 hp lo1 n6 h1000 d1 kb1 e1 => ?_⟩
  have pa : p ≠ a := d.ne hp
  refine ⟨_, rfl, a, c, rfl, d1, fun tm H2 t0 t4 d2 kb2 => ?_⟩
  refine ⟨_, _, rfl, rfl, ⟨by decide, by decide, by decide⟩, by show 4 ≤ sizeLine; decide, fun p0 hp0 => ?_⟩
  refine ⟨_, rfl, a, c, 4, rfl, d2.new hp0, by decide, by decide, fun r3 H3 a3 c3 d3 kb3 => ?_⟩
  have ht := kb3 p0 _ (d2.ne hp0) upd_same
  have hv : ∃ v, atI [V.int 3, .int 12, .int 1000, .int (10 ^ (10 : Int).toNat)] r3 = some (.int v) ∧ 1 ≤ v ∧ v ≤ 10000000000 := by
    have : r3 = 0 ∨ r3 = 1 ∨ r3 = 2 ∨ r3 = 3 := by omega
    rcases this with rfl | rfl | rfl | rfl
    · exact ⟨3, rfl, by omega, by omega⟩
    · exact ⟨12, rfl, by omega, by omega⟩
    · exact ⟨1000, rfl, by omega, by omega⟩
    · exact ⟨10000000000, rfl, by omega, by omega⟩
  obtain ⟨sc, ev, v0, v1⟩ := hv
  refine ⟨p0, _, _, .int sc, rfl, rfl, SqT.of ht, ev, ?_⟩
  have k3 : KeepBut a H1 H3 := (kb2.new hp0).trans kb3
  have e3 := k3 p _ pa e1
  refine ⟨_, rfl, _, rfl, _, rfl, _, rfl, a, c, p, m, lo, n, sc, rfl, d3, m0, m1, e3, by omega, by omega, v0, v1, fun l ls H4 hl hls lsn d4 kb4 R4 => ?_⟩
  refine ⟨_, rfl, _, rfl, _, rfl, _, rfl, _, rfl, a, c, p, m, lo, n, sc, rfl, d4, m0, m1, kb4 p _ pa e3, by omega, by omega, v0, v1, fun o os H5 ho hos osn d5 kb5 R5 => ?_⟩
  refine ⟨_, rfl, by show 3 ≤ sizeLine; decide, fun t ht' => ?_⟩
  have k13 : KeepBut a H H3 := kb1.trans k3
  have nla : l ≠ a := d3.ne hl
  have noa : o ≠ a := d4.ne ho
  have nlo : l ≠ o := by obtain ⟨z, e⟩ := R4.there; exact ne_of_none e ho
  refine q t l o tm lo n sc ls os _ (k13.none nla hl) ((k13.trans kb4).none noa ho) nlo t0 t4 lo1 n6 h1000 v0 v1 hls hos lsn osn (d5.new ht') (((k13.trans kb4).trans kb5).new ht') ((R4.keep nla d4 kb5).same (same_new ht' _)) (R5.same (same_new ht' _)) upd_same
end
end K17
set_option maxHeartbeats 4000000
namespace L2
open PySem PySem.W PyProof.Rows
/-! the sort of fewer than 64 items, by a pure order of their places -/
/-- what comes of a run of askings that an order answers -/
def okW {α : Type} (n : Nat) (lt : Nat → Nat → Bool) (Q : α → Prop) : KasT α → Prop
  | .ret a => Q a
  | .ask i j k => i < n ∧ j < n ∧ okW n lt Q (k (lt i j))
theorem okW_mono {α : Type} {n : Nat} {lt : Nat → Nat → Bool} {Q Q' : α → Prop} (h : ∀ a, Q a → Q' a) : ∀ {t : KasT α}, okW n lt Q t → okW n lt Q' t
  | .ret a, q => h a q
  | .ask _ _ _, ⟨a, b, q⟩ => ⟨a, b, okW_mono h q⟩
theorem okW_bind {α β : Type} {n : Nat} {lt : Nat → Nat → Bool} {Q : β → Prop} {f : α → KasT β} : ∀ {t : KasT α}, okW n lt (fun a => okW n lt Q (f a)) t → okW n lt Q (t.bind f)
  | .ret a, q => q
  | .ask _ _ _, ⟨a, b, q⟩ => ⟨a, b, okW_bind q⟩
theorem okW_wp {α : Type} {n : Nat} {lt : Nat → Nat → Bool} {cmp : Nat → Nat → (Bool → Shared → Prop) → Shared → Prop} {s : Shared} (hc : ∀ i j C, i < n → j < n → C (lt i j) s → cmp i j C s) {Q : α → Shared → Prop} : ∀ {t : KasT α}, okW n lt (fun a => Q a s) t → t.kasWp cmp Q s
  | .ret _, q => q
  | .ask i j _, ⟨a, b, q⟩ => hc i j _ a b (okW_wp hc q)
/-- an order: lt answers "less", and not less goes on -/
structure Ordr (lt : Nat → Nat → Bool) : Prop where
  irr : ∀ i, lt i i = false
  tr : ∀ i j k, lt j i = false → lt k j = false → lt k i = false
  asy : ∀ i j, lt i j = true → lt j i = false
section
variable {n : Nat} {lt : Nat → Nat → Bool}
abbrev gA (p : Array Nat) (i : Nat) : Nat := p.getD i 0
abbrev leA (lt : Nat → Nat → Bool) (i j : Nat) : Prop := lt j i = false
def PermN (n : Nat) (p : Array Nat) : Prop := p.toList.Perm (List.range n)
def Up (lt : Nat → Nat → Bool) (p : Array Nat) (m : Nat) : Prop := ∀ i j, i ≤ j → j < m → leA lt (gA p i) (gA p j)
def Down (lt : Nat → Nat → Bool) (p : Array Nat) (m : Nat) : Prop := ∀ i j, i ≤ j → j < m → leA lt (gA p j) (gA p i)
theorem gA_eq (p : Array Nat) (i : Nat) : gA p i = (p[i]?).getD 0 := by simp [gA]
theorem PermN.size {p : Array Nat} (h : PermN n p) : p.size = n := by
  have := List.Perm.length_eq h
  simpa using this
theorem PermN.below {p : Array Nat} (h : PermN n p) (h0 : 0 < n) (i : Nat) : gA p i < n := by
  rw [gA_eq]
  cases e : p[i]? with
  | none => exact h0
  | some v =>
    have hm : v ∈ p.toList := by
      obtain ⟨hi, rfl⟩ := Array.getElem?_eq_some_iff.mp e
      simp
    exact List.mem_range.mp ((List.Perm.mem_iff h).mp hm)
theorem PermN.rev {p : Array Nat} (h : PermN n p) (i j : Nat) : PermN n (kas_rev p i j) := ((mirror_perm p i j _).toList).trans h
theorem PermN.bub {p : Array Nat} (h : PermN n p) (k d : Nat) : PermN n (bubble p k d) := ((bubble_perm p k d).toList).trans h
theorem gA_rev {p : Array Nat} {i j : Nat} (hj : j ≤ p.size) (k : Nat) : gA (kas_rev p i j) k = if i ≤ k ∧ k < j then gA p (i + j - 1 - k) else gA p k := by
  rw [gA_eq, gA_eq, gA_eq]
  unfold kas_rev
  rw [getElem?_mirror_all hj]
  split <;> rfl
theorem gA_bub {p : Array Nat} {src d : Nat} (hs : src < p.size) (hd : d ≤ src) (k : Nat) : gA (bubble p src d) k = if k = src - d then gA p src else if src - d < k ∧ k ≤ src then gA p (k - 1) else gA p k := by
  rw [gA_eq, gA_eq, gA_eq, gA_eq, getElem?_bubble hs d hd]
  split
  · rfl
  · split <;> rfl
variable (O : Ordr lt)
include O
theorem up_succ {p : Array Nat} {m : Nat} (h : Up lt p m) (h1 : 1 ≤ m) (c : leA lt (gA p (m - 1)) (gA p m)) : Up lt p (m + 1) := by
  intro i j hij hj
  by_cases e : j < m
  · exact h i j hij e
  · have : j = m := by omega
    subst this
    by_cases e2 : i = j
    · subst e2; exact O.irr _
    · exact O.tr _ _ _ (h i (j - 1) (by omega) (by omega)) c
theorem down_succ {p : Array Nat} {m : Nat} (h : Down lt p m) (h1 : 1 ≤ m) (c : leA lt (gA p m) (gA p (m - 1))) : Down lt p (m + 1) := by
  intro i j hij hj
  by_cases e : j < m
  · exact h i j hij e
  · have : j = m := by omega
    subst this
    by_cases e2 : i = j
    · subst e2; exact O.irr _
    · exact O.tr _ _ _ c (h i (j - 1) (by omega) (by omega))
theorem ok_asc {p : Array Nat} (hp : PermN n p) (h0 : 0 < n) : ∀ (f m : Nat), 1 ≤ m → m + f ≤ n → Up lt p m →
    okW n lt (fun r => m ≤ r ∧ r ≤ m + f ∧ Up lt p r ∧ (r = m + f ∨ lt (gA p r) (gA p (r - 1)) = true)) (kas_asc p f m)
  | 0, m, h1, hf, hu => ⟨Nat.le_refl _, Nat.le_refl _, hu, .inl rfl⟩
  | f + 1, m, h1, hf, hu => by
    refine ⟨hp.below h0 m, hp.below h0 (m - 1), ?_⟩
    by_cases c : lt (gA p m) (gA p (m - 1)) = true
    · show okW n lt _ (if lt (gA p m) (gA p (m - 1)) = true then KasT.ret m else kas_asc p f (m + 1))
      rw [if_pos c]
      exact ⟨Nat.le_refl _, by omega, hu, .inr c⟩
    · show okW n lt _ (if lt (gA p m) (gA p (m - 1)) = true then KasT.ret m else kas_asc p f (m + 1))
      rw [if_neg c]
      have c' : lt (gA p m) (gA p (m - 1)) = false := by simpa using c
      refine okW_mono (fun r ⟨a, b, u, d⟩ => ⟨by omega, by omega, u, ?_⟩) (ok_asc hp h0 f (m + 1) (by omega) (by omega) (up_succ O hu h1 c'))
      rcases d with d | d
      · exact .inl (by omega)
      · exact .inr d
/-- the last q + 1 of the first m are alike -/
def Alike (lt : Nat → Nat → Bool) (p : Array Nat) (m q : Nat) : Prop := ∀ i, m - (q + 1) ≤ i → i < m → leA lt (gA p i) (gA p (m - 1)) ∧ leA lt (gA p (m - 1)) (gA p i)
theorem rev_alike {p : Array Nat} {m q : Nat} (hs : m ≤ p.size) (hq : q + 1 ≤ m) (h : Alike lt p m q) (k : Nat) : leA lt (gA (kas_rev p (m - (q + 1)) m) k) (gA p k) ∧ leA lt (gA p k) (gA (kas_rev p (m - (q + 1)) m) k) := by
  rw [gA_rev hs]
  by_cases c : m - (q + 1) ≤ k ∧ k < m
  · rw [if_pos c]
    have a := h (m - (q + 1) + m - 1 - k) (by omega) (by omega)
    have b := h k c.1 c.2
    exact ⟨O.tr _ _ _ a.1 b.2, O.tr _ _ _ b.1 a.2⟩
  · rw [if_neg c]
    exact ⟨O.irr _, O.irr _⟩
theorem down_rev {p : Array Nat} {m q : Nat} (hs : m ≤ p.size) (hq : q + 1 ≤ m) (h : Alike lt p m q) (d : Down lt p m) : Down lt (kas_rev p (m - (q + 1)) m) m := fun i j hij hj =>
  O.tr _ _ _ (rev_alike O hs hq h j).1 (O.tr _ _ _ (d i j hij hj) (rev_alike O hs hq h i).2)
theorem ok_desc (h0 : 0 < n) : ∀ (f : Nat) (p : Array Nat) (m q : Nat), PermN n p → 1 ≤ m → m + f ≤ n → q + 1 ≤ m → Down lt p m → Alike lt p m q →
    okW n lt (fun r => PermN n r.1 ∧ 1 ≤ r.2.1 ∧ r.2.1 ≤ n ∧ m ≤ r.2.1 ∧ r.2.1 ≤ m + f ∧ r.2.2 + 1 ≤ r.2.1 ∧ Down lt r.1 r.2.1 ∧ Alike lt r.1 r.2.1 r.2.2) (kas_desc f p m q)
  | 0, p, m, q, hp, h1, hf, hq, d, al => ⟨hp, h1, by show m ≤ n; omega, Nat.le_refl _, Nat.le_refl _, hq, d, al⟩
  | f + 1, p, m, q, hp, h1, hf, hq, d, al => by
    have hs : m ≤ p.size := by rw [hp.size]; omega
    have one : ∀ p' : Array Nat, Alike lt p' (m + 1) 0 := fun p' i a b => by
      have : i = m := by omega
      subst this
      exact ⟨O.irr _, O.irr _⟩
    refine ⟨hp.below h0 m, hp.below h0 (m - 1), ?_⟩
    show okW n lt _ (if lt (gA p m) (gA p (m - 1)) = true then (if q > 0 then kas_desc f (kas_rev p (m - (q + 1)) m) (m + 1) 0 else kas_desc f p (m + 1) 0) else KasT.ask (p.getD (m - 1) 0) (p.getD m 0) fun d => if d = true then KasT.ret (p, m, q) else kas_desc f p (m + 1) (q + 1))
    by_cases c : lt (gA p m) (gA p (m - 1)) = true
    · rw [if_pos c]
      by_cases cq : q > 0
      · rw [if_pos cq]
        have d1 := down_rev O hs hq al d
        have e : leA lt (gA (kas_rev p (m - (q + 1)) m) m) (gA (kas_rev p (m - (q + 1)) m) (m - 1)) := by
          have a1 := (rev_alike O hs hq al m).1
          have a2 := (rev_alike O hs hq al (m - 1)).2
          exact O.tr _ _ _ a1 (O.tr _ _ _ (O.asy _ _ c) a2)
        refine okW_mono (fun r ⟨a, b, c, x, y, z⟩ => ⟨a, b, c, by omega, by omega, z⟩) (ok_desc h0 f _ (m + 1) 0 (hp.rev _ _) (by omega) (by omega) (by omega) (down_succ O d1 h1 e) (one _))
      · rw [if_neg cq]
        refine okW_mono (fun r ⟨a, b, c, x, y, z⟩ => ⟨a, b, c, by omega, by omega, z⟩) (ok_desc h0 f p (m + 1) 0 hp (by omega) (by omega) (by omega) (down_succ O d h1 (O.asy _ _ c)) (one _))
    · rw [if_neg c]
      have c' : lt (gA p m) (gA p (m - 1)) = false := by simpa using c
      refine ⟨hp.below h0 (m - 1), hp.below h0 m, ?_⟩
      by_cases c2 : lt (gA p (m - 1)) (gA p m) = true
      · show okW n lt _ (if lt (gA p (m - 1)) (gA p m) = true then KasT.ret (p, m, q) else kas_desc f p (m + 1) (q + 1))
        rw [if_pos c2]
        exact ⟨hp, h1, by show m ≤ n; omega, Nat.le_refl _, by show m ≤ m + (f + 1); omega, hq, d, al⟩
      · show okW n lt _ (if lt (gA p (m - 1)) (gA p m) = true then KasT.ret (p, m, q) else kas_desc f p (m + 1) (q + 1))
        rw [if_neg c2]
        have c2' : lt (gA p (m - 1)) (gA p m) = false := by simpa using c2
        refine okW_mono (fun r ⟨a, b, c, x, y, z⟩ => ⟨a, b, c, by omega, by omega, z⟩) (ok_desc h0 f p (m + 1) (q + 1) hp (by omega) (by omega) (by omega) (down_succ O d h1 c2') ?_)
        intro i a b
        by_cases e : i = m
        · subst e; exact ⟨O.irr _, O.irr _⟩
        · have := al i (by omega) (by omega)
          exact ⟨O.tr _ _ _ this.1 c', O.tr _ _ _ c2' this.2⟩
theorem up_rev {p : Array Nat} {m : Nat} (hs : m ≤ p.size) (d : Down lt p m) : Up lt (kas_rev p 0 m) m := by
  intro i j hij hj
  rw [gA_rev hs, gA_rev hs, if_pos ⟨Nat.zero_le _, by omega⟩, if_pos ⟨Nat.zero_le _, hj⟩]
  exact d _ _ (by omega) (by omega)
abbrev RunOk (n : Nat) (lt : Nat → Nat → Bool) (N : Nat) (r : Nat × Array Nat) : Prop := PermN n r.2 ∧ 1 ≤ r.1 ∧ r.1 ≤ N ∧ Up lt r.2 r.1
theorem ok_tail3 (h0 : 0 < n) {p : Array Nat} {m : Nat} (hp : PermN n p) (h1 : 1 ≤ m) (hm : m ≤ n) (d : Down lt p m) : okW n lt (RunOk n lt n) (kas_tail3 m n p) := by
  unfold kas_tail3
  have hs : m ≤ p.size := by rw [hp.size]; omega
  refine okW_bind (okW_mono (fun r ⟨a, b, u, _⟩ => ?_) (ok_asc O (hp.rev 0 m) h0 (n - m) m h1 (by omega) (up_rev O hs d)))
  exact ⟨hp.rev 0 m, by show 1 ≤ r; omega, by show r ≤ n; omega, u⟩
theorem ok_descPart (h0 : 0 < n) {p : Array Nat} {m : Nat} (hp : PermN n p) (hm : m + 1 ≤ n) (d : Down lt p (m + 1)) : okW n lt (RunOk n lt n) (kas_descPart m n p) := by
  unfold kas_descPart
  refine okW_bind (okW_mono (fun r ⟨a, b, c, x, y, z, dd, al⟩ => ?_) (ok_desc O h0 (n - (m + 1)) p (m + 1) 0 hp (by omega) (by omega) (by omega) d ?_))
  · intro i a b
    have : i = m := by omega
    subst this
    exact ⟨O.irr _, O.irr _⟩
  · by_cases cq : r.2.2 > 0
    · rw [if_pos cq]
      exact ok_tail3 O h0 (a.rev _ _) b c (down_rev O (by rw [a.size]; exact c) z al dd)
    · rw [if_neg cq]
      exact ok_tail3 O h0 a b c dd
theorem ok_count (h2 : 2 ≤ n) {p : Array Nat} (hp : PermN n p) : okW n lt (RunOk n lt n) (kas_count n p) := by
  unfold kas_count
  have h0 : 0 < n := by omega
  refine okW_bind (okW_mono (fun r ⟨a, b, u, e⟩ => ?_) (ok_asc O hp h0 (n - 1) 1 (by omega) (by omega) ?_))
  · intro i j hij hj
    have : i = j := by omega
    subst this
    exact O.irr _
  · by_cases c1 : (r == n) = true
    · rw [if_pos c1]
      have : r = n := by simpa using c1
      exact ⟨hp, a, by show r ≤ n; omega, u⟩
    · rw [if_neg c1]
      have rn : r ≠ n := by simpa using c1
      have lst : lt (gA p r) (gA p (r - 1)) = true := by
        rcases e with e | e
        · exact absurd (by omega) rn
        · exact e
      have hs : r ≤ p.size := by rw [hp.size]; omega
      by_cases c2 : r > 1
      · rw [if_pos c2]
        refine ⟨hp.below h0 0, hp.below h0 (r - 1), ?_⟩
        by_cases c3 : lt (gA p 0) (gA p (r - 1)) = true
        · show okW n lt _ (if lt (gA p 0) (gA p (r - 1)) = true then KasT.ret (r, p) else kas_descPart r n (kas_rev p 0 r))
          rw [if_pos c3]
          exact ⟨hp, a, by show r ≤ n; omega, u⟩
        · show okW n lt _ (if lt (gA p 0) (gA p (r - 1)) = true then KasT.ret (r, p) else kas_descPart r n (kas_rev p 0 r))
          rw [if_neg c3]
          have c3' : lt (gA p 0) (gA p (r - 1)) = false := by simpa using c3
          refine ok_descPart O h0 (hp.rev 0 r) (by omega) (down_succ O ?_ a ?_)
          · intro i j hij hj
            rw [gA_rev hs, gA_rev hs, if_pos ⟨Nat.zero_le _, hj⟩, if_pos ⟨Nat.zero_le _, by omega⟩]
            exact u _ _ (by omega) (by omega)
          · rw [gA_rev hs, gA_rev hs, if_neg (by omega), if_pos ⟨Nat.zero_le _, by omega⟩]
            have e0 : 0 + r - 1 - (r - 1) = 0 := by omega
            rw [e0]
            exact O.tr _ _ _ (O.asy _ _ lst) c3'
      · rw [if_neg c2]
        have r1 : r = 1 := by omega
        subst r1
        refine ok_descPart O h0 hp (by omega) (down_succ O ?_ (Nat.le_refl _) (O.asy _ _ lst))
        intro i j hij hj
        have : i = j := by omega
        subst this
        exact O.irr _
theorem ok_place (h0 : 0 < n) {p : Array Nat} {k : Nat} (hp : PermN n p) (u : Up lt p k) : ∀ (f l r : Nat), l ≤ r → r ≤ k → r - l ≤ f → (∀ i, i < l → leA lt (gA p i) (gA p k)) → (∀ i, r ≤ i → i < k → leA lt (gA p k) (gA p i)) →
    okW n lt (fun x => x ≤ k ∧ (∀ i, i < x → leA lt (gA p i) (gA p k)) ∧ ∀ i, x ≤ i → i < k → leA lt (gA p k) (gA p i)) (kas_place p k f l r)
  | 0, l, r, h1, h2, hf, a, b => ⟨by omega, a, fun i x y => b i (by omega) y⟩
  | f + 1, l, r, h1, h2, hf, a, b => by
    show okW n lt _ (if l ≥ r then KasT.ret l else _)
    by_cases c : l ≥ r
    · rw [if_pos c]
      exact ⟨by omega, a, fun i x y => b i (by omega) y⟩
    · rw [if_neg c]
      refine ⟨hp.below h0 k, hp.below h0 _, ?_⟩
      show okW n lt _ (if lt (gA p k) (gA p ((l + r) / 2)) = true then kas_place p k f l ((l + r) / 2) else kas_place p k f ((l + r) / 2 + 1) r)
      by_cases d : lt (gA p k) (gA p ((l + r) / 2)) = true
      · rw [if_pos d]
        refine ok_place h0 hp u f l _ (by omega) (by omega) (by omega) a fun i x y => ?_
        exact O.tr _ _ _ (O.asy _ _ d) (u _ i x y)
      · rw [if_neg d]
        have d' : lt (gA p k) (gA p ((l + r) / 2)) = false := by simpa using d
        refine ok_place h0 hp u f _ r (by omega) h2 (by omega) (fun i x => ?_) b
        exact O.tr _ _ _ (u i ((l + r) / 2) (by omega) (by omega)) d'
theorem ok_bin (h0 : 0 < n) : ∀ (f : Nat) (p : Array Nat) (k : Nat), PermN n p → f + k = n → Up lt p k → okW n lt (fun r => PermN n r ∧ Up lt r n) (kas_bin f p k)
  | 0, p, k, hp, hk, u => ⟨hp, by have : k = n := by omega
                                  subst this; exact u⟩
  | f + 1, p, k, hp, hk, u => by
    show okW n lt _ ((kas_place p k k 0 k).bind fun l => kas_bin f (bubble p k (k - l)) (k + 1))
    refine okW_bind (okW_mono (fun l ⟨hl, a, b⟩ => ?_) (ok_place O h0 hp u k 0 k (Nat.zero_le _) (Nat.le_refl _) (by omega) (fun i x => by omega) fun i x y => by omega))
    refine ok_bin h0 f _ (k + 1) (hp.bub _ _) (by omega) ?_
    have hs : k < p.size := by rw [hp.size]; omega
    have g := gA_bub (p := p) (src := k) (d := k - l) hs (by omega)
    have e : k - (k - l) = l := by omega
    rw [e] at g
    intro i j hij hj
    rw [g i, g j]
    by_cases ci : i = l
    · rw [if_pos ci]
      by_cases cj : j = l
      · rw [if_pos cj]; exact O.irr _
      · rw [if_neg cj, if_pos ⟨by omega, by omega⟩]
        exact b _ (by omega) (by omega)
    · rw [if_neg ci]
      by_cases cj : j = l
      · rw [if_pos cj, if_neg (by omega)]
        exact a i (by omega)
      · rw [if_neg cj]
        by_cases di : l < i ∧ i ≤ k
        · rw [if_pos di, if_pos ⟨by omega, by omega⟩]
          exact u _ _ (by omega) (by omega)
        · rw [if_neg di]
          by_cases dj : l < j ∧ j ≤ k
          · rw [if_pos dj]
            exact u _ _ (by omega) (by omega)
          · rw [if_neg dj]
            exact u _ _ hij (by omega)
theorem ok_sort (h2 : 2 ≤ n) : okW n lt (fun p => PermN n p ∧ Up lt p n) (kas_sort n) := by
  unfold kas_sort
  have h0 : 0 < n := by omega
  refine okW_bind (okW_mono (fun r ⟨a, b, c, u⟩ => ?_) (ok_count O h2 (p := List.toArray (List.range n)) (by unfold PermN; simp)))
  have e : max r.1 1 = r.1 := by omega
  rw [e]
  by_cases d : r.1 < n
  · rw [if_pos d]
    exact ok_bin O h0 (n - r.1) r.2 r.1 a (by omega) u
  · rw [if_neg d]
    have : r.1 = n := by omega
    rw [this] at u
    exact ⟨a, u⟩
end
end L2
set_option maxHeartbeats 4000000
namespace L2
open PySem PySem.Spec PyProof.Rows
/-! long displays of numbers -/
section
variable {X : Cx} {a b e : Expr} {es : List Expr} {pos : Pos}
theorem PE.weak {t t' : TE} (h : PE X e t) (k : ∀ σ H Q, t' σ H Q → t σ H Q) : PE X e t' := fun pins s σ H Q I q => h pins s σ H Q I (k _ _ _ q)
def PIn (X : Cx) (e : Expr) : Prop := ∃ v : Int, PE X e (tC (.int v))
theorem pin_of {v : Int} (h : PE X e (tC (.int v))) : PIn X e := ⟨v, h⟩
theorem pin_neg (h : PIn X a) : PIn X (.UnaryOp .USub a pos) := by
  obtain ⟨v, h⟩ := h
  exact ⟨-v, (pe_un un_neg h).weak fun σ H Q q => ⟨v, rfl, q⟩⟩
theorem pin_pow {i j : Int} (h : PE X a (tC (.int i))) (h' : PE X b (tC (.int j))) (hc : CPow i j) : PIn X (.BinOp a .Pow b pos) := ⟨i ^ j.toNat, (pe_op op_pow h h').weak fun σ H Q q => ⟨i, j, rfl, rfl, hc, q⟩⟩
theorem pin_add (h : PIn X a) (h' : PIn X b) : PIn X (.BinOp a .Add b pos) := by
  obtain ⟨v, h⟩ := h
  obtain ⟨u, h'⟩ := h'
  exact ⟨v + u, (pe_op op_add h h').weak fun σ H Q q => ⟨v, u, rfl, rfl, q⟩⟩
def tInts (vs : List Int) : TA := fun _ H Q => Q (vs.map V.int) H
def PIs (X : Cx) (es : List Expr) (n : Nat) : Prop := ∃ vs : List Int, vs.length = n ∧ PA X es (tInts vs)
theorem pis_nil : PIs X [] 0 := ⟨[], rfl, pa_nil⟩
theorem pis_cons {n : Nat} (h : PIn X e) (r : PIs X es n) (hn : plainE e = true := by rfl) : PIs X (e :: es) (n + 1) := by
  obtain ⟨v, h⟩ := h
  obtain ⟨vs, hl, r⟩ := r
  refine ⟨v :: vs, by rw [List.length_cons, hl], fun pos pins s σ H Q I q => pa_c h r hn pos pins s σ H Q I q⟩
def tIntL (n : Nat) : TE := fun _ H Q => n ≤ sizeLine ∧ ∀ vs : List Int, vs.length = n → ∀ p, H p = none → Q (.ref p) (upd H p (.lst (vs.map V.int)))
theorem pe_intL {n : Nat} (h : PIs X es n) : PE X (.List es pos) (tIntL n) := by
  obtain ⟨vs, hl, h⟩ := h
  exact (pe_lst h).weak fun σ H Q q => ⟨by rw [List.length_map, hl]; exact q.1, fun p hp => q.2 vs hl p hp⟩
end
end L2
set_option maxHeartbeats 4000000
namespace L2
open PySem PySem.Spec PyProof.Rows
theorem pe_glI {X : Cx} {x : Str} {v : Int} {pos : Pos} (hg : Gl X x) (hm : ∃ t, X.mg x = some (.int v t)) (hd : (x == ("__debug__" : Str)) = false := by decide) : PE X (.Name x pos) (tC (.int v)) := by
  obtain ⟨t, h⟩ := hm
  exact pe_glob hg h ⟨_, rfl⟩ hd
/-! what rows must keep to -/
def lim : Nat → Int
  | 0 => 999
  | 1 => 10000000000
  | _ => 1000000
abbrev inB (v hi : Int) : Prop := 1 ≤ v ∧ v ≤ hi
def rowBad : List Int → Option Nat
  | [d, c] => if inB d 999 then if inB c 10000000000 then none else some 1 else some 0
  | [d, c, u] => if inB d 999 then if inB c 10000000000 then if inB u 1000000 then none else some 2 else some 1 else some 0
  | _ => none
def rowsBad (rs : List (List Int)) : Option Nat := rs.findSome? rowBad
theorem rowsBad_nil : rowsBad [] = none := rfl
theorem rowsBad_take {rs : List (List Int)} {i : Nat} {r : List Int} (h : rowsBad (rs.take i) = none) (e : rs[i]? = some r) (b : rowBad r = none) : rowsBad (rs.take (i + 1)) = none := by
  obtain ⟨hi, e'⟩ := List.getElem?_eq_some_iff.mp e
  unfold rowsBad at *
  rw [List.take_succ_eq_append_getElem hi, List.findSome?_append, h, e']
  simp [b]
theorem rowsBad_hit {rs : List (List Int)} {i j : Nat} {r : List Int} (h : rowsBad (rs.take i) = none) (e : rs[i]? = some r) (b : rowBad r = some j) : rowsBad rs = some j := by
  obtain ⟨hi, e'⟩ := List.getElem?_eq_some_iff.mp e
  unfold rowsBad at *
  have : rs = rs.take i ++ r :: rs.drop (i + 1) := by rw [← e', ← List.drop_eq_getElem_cons hi, List.take_append_drop]
  rw [this, List.findSome?_append, h]
  simp [b]
theorem take_next {rs : List (List Int)} {i : Nat} {r : List Int} (e : rs[i]? = some r) : rs.take i ++ [r] = rs.take (i + 1) := by
  obtain ⟨hi, e'⟩ := List.getElem?_eq_some_iff.mp e
  rw [List.take_succ_eq_append_getElem hi, e']
/-- a number from 1 to hi -/
def spIn (c : Addr) (hi : Int) : Sp := fun vs H Q E => ∃ v : Int, vs = [.int v] ∧ (inB v hi → Q .non H) ∧ (¬ inB v hi → E (.ref c) none H)
def spIsDay : Sp := fun vs H Q _ => ∃ d : Int, vs = [.int d] ∧ Q (.bl (decide (inB d 999))) H
def spMany (cR : Addr) : Sp := fun vs H Q E => ∃ a xs, vs = [.ref a] ∧ H a = some (.lst xs) ∧ (xs.length ≤ 30 → Q .non H) ∧ (30 < xs.length → E (.ref cR) none H)
def spChk (cR : Addr) (cls : Nat → Addr) (w : Nat) : Sp := fun vs H Q E => ∃ a rs, vs = [.ref a] ∧ Rows H a rs ∧ (∀ r ∈ rs, r.length = w) ∧ (30 < rs.length → E (.ref cR) none H) ∧
  (rs.length ≤ 30 → ∀ j, rowsBad rs = some j → ∀ H', Same H H' → E (.ref (cls j)) none H') ∧ (rs.length ≤ 30 → rowsBad rs = none → ∀ l H', H l = none → Same H H' → Rows H' l rs → Q (.ref l) H')
theorem len2 {r : List Int} (h : r.length = 2) : ∃ d c, r = [d, c] := match r, h with | [d, c], _ => ⟨d, c, rfl⟩
theorem len3 {r : List Int} (h : r.length = 3) : ∃ d c u, r = [d, c, u] := match r, h with | [d, c, u], _ => ⟨d, c, u, rfl⟩
/-- the tests "1 <= v <= hi" of the text -/
theorem chain_in {v hi : Int} {R : Bool → Prop} (h : R (decide (inB v hi))) : ∃ i j : Int, V.int 1 = .int i ∧ V.int v = .int j ∧ ∃ b, V.bl (decide (i ≤ j)) = .bl b ∧ if b = true then ∃ i' j' : Int, V.int v = .int i' ∧ V.int hi = .int j' ∧ ∃ b', V.bl (decide (i' ≤ j')) = .bl b' ∧ R b' else ∃ b', V.bl false = .bl b' ∧ R b' := by
  refine ⟨_, _, rfl, rfl, _, rfl, ?_⟩
  refine ite2 (fun c => ?_) (fun c => ?_)
  · have c1 : (1 : Int) ≤ v := of_decide_eq_true c
    refine ⟨_, _, rfl, rfl, _, rfl, ?_⟩
    have e : decide (v ≤ hi) = decide (inB v hi) := by by_cases z : v ≤ hi <;> simp [z, c1, inB]
    rw [e]; exact h
  · have c1 : ¬ (1 : Int) ≤ v := of_decide_eq_false (Bool.eq_false_iff.mpr c)
    have e : false = decide (inB v hi) := by simp [inB, c1]
    exact ⟨_, rfl, by rw [e]; exact h⟩
end L2
set_option maxHeartbeats 4000000
namespace L2
open PySem PySem.Spec PyProof.Rows
/-- own exception classes that are told apart -/
structure XcN (K : PySem.W.Frag) (cC : Addr) (n : Nat) (cs : Nat → Addr) : Prop where
  x : ∀ i, i < n → XCls K (cs i)
  m : ∀ i, i < n → PySem.W.exmOne K (.ref (cs i)) (.ref cC) = some true
  d : ∀ i j, i < n → j < n → PySem.W.kitOne K (.ref (cs i)) (.ref (cs j)) = some (decide (i = j))
  v : ∀ i, i < n → PySem.W.kitOne K (.ref (cs i)) (.type "ValueError") = some true
theorem rowBad_lt {r : List Int} {j : Nat} (h : rowBad r = some j) : j < 3 := by
  unfold rowBad at h
  split at h
  · split at h
    · split at h
      · cases h
      · cases h; decide
    · cases h; decide
  · split at h
    · split at h
      · split at h
        · cases h
        · cases h; decide
      · cases h; decide
    · cases h; decide
  · cases h
theorem rowsBad_lt {rs : List (List Int)} {j : Nat} (h : rowsBad rs = some j) : j < 3 := by
  obtain ⟨r, _, e⟩ := List.exists_of_findSome?_eq_some h
  exact rowBad_lt e
/-- by the columns -/
theorem rowBad_none {r : List Int} (hl : r.length = 2 ∨ r.length = 3) (h : ∀ m : Nat, m < r.length → inB (r.getD m 0) (lim m)) : rowBad r = none := by
  rcases hl with hl | hl
  · obtain ⟨d, c, rfl⟩ := len2 hl
    have h0 : inB d 999 := h 0 (by simp)
    have h1 : inB c 10000000000 := h 1 (by simp)
    simp only [rowBad, if_pos h0, if_pos h1]
  · obtain ⟨d, c, u, rfl⟩ := len3 hl
    have h0 : inB d 999 := h 0 (by simp)
    have h1 : inB c 10000000000 := h 1 (by simp)
    have h2 : inB u 1000000 := h 2 (by simp)
    simp only [rowBad, if_pos h0, if_pos h1, if_pos h2]
theorem rowBad_some {r : List Int} {j : Nat} (hl : r.length = 2 ∨ r.length = 3) (h : ∀ m : Nat, m < j → inB (r.getD m 0) (lim m)) (hj : j < r.length) (b : ¬ inB (r.getD j 0) (lim j)) : rowBad r = some j := by
  rcases hl with hl | hl
  · obtain ⟨d, c, rfl⟩ := len2 hl
    have : j = 0 ∨ j = 1 := by simp at hj; omega
    rcases this with rfl | rfl
    · have b0 : ¬ inB d 999 := b
      simp only [rowBad, if_neg b0]
    · have h0 : inB d 999 := h 0 (by decide)
      have b0 : ¬ inB c 10000000000 := b
      simp only [rowBad, if_pos h0, if_neg b0]
  · obtain ⟨d, c, u, rfl⟩ := len3 hl
    have : j = 0 ∨ j = 1 ∨ j = 2 := by simp at hj; omega
    rcases this with rfl | rfl | rfl
    · have b0 : ¬ inB d 999 := b
      simp only [rowBad, if_neg b0]
    · have h0 : inB d 999 := h 0 (by decide)
      have b0 : ¬ inB c 10000000000 := b
      simp only [rowBad, if_pos h0, if_neg b0]
    · have h0 : inB d 999 := h 0 (by decide)
      have h1 : inB c 10000000000 := h 1 (by decide)
      have b0 : ¬ inB u 1000000 := b
      simp only [rowBad, if_pos h0, if_pos h1, if_neg b0]
/-- which refusal is due of rows: too many, or a column; none: they are told -/
def ansR (rs : List (List Int)) : Option Nat := if 30 < rs.length then some 0 else (rowsBad rs).map (· + 1)
def nmR : Nat → Str
  | 0 => "rows"
  | 1 => "day"
  | 2 => "count"
  | _ => "duty"
def RelR (H : Hp) (rs : List (List Int)) : Option Nat → V → Prop
  | some i, v => v = .str (nmR i)
  | none, v => ∃ l, v = .ref l ∧ Rows H l rs
theorem Rows.eqD {H : Hp} {a b : Addr} {rs : List (List Int)} (h1 : Rows H a rs) (h2 : Rows H b rs) (hn : rs.length ≤ 1000) (hw : ∀ r ∈ rs, r.length ≤ 1000) : EqD H 2 (.ref a) (.ref b) := by
  obtain ⟨xs, ex, exl, exi⟩ := h1.get
  obtain ⟨ys, ey, eyl, eyi⟩ := h2.get
  refine .lst ex ey (by omega) (by omega) fun i x y e1 e2 => ?_
  obtain ⟨p, r, rfl, er, hp⟩ := exi i x e1
  obtain ⟨q, r', rfl, er', hq⟩ := eyi i y e2
  rw [er] at er'
  cases er'
  refine .tup hp hq (by rw [List.length_map]) (by rw [List.length_map]; exact hw r (List.mem_of_getElem? er)) fun j x y e1 e2 => ?_
  rw [e1] at e2
  cases e2
  rw [List.getElem?_map] at e1
  cases q : r[j]? with
  | none => rw [q] at e1; cases e1
  | some v => rw [q] at e1; cases e1; exact .flat rfl
/-- lists of the same items are equal -/
theorem same_items {K : PySem.W.Frag} {H : Hp} {ps : List Addr} : ∀ (j : Nat) x y, (ps.map V.ref)[j]? = some x → (ps.map V.ref)[j]? = some y → EqB K H 0 x y ((fun _ => true) j) := fun j x y e1 e2 => by
  rw [e1] at e2
  cases e2
  rw [List.getElem?_map] at e1
  cases q : ps[j]? with
  | none => rw [q] at e1; cases e1
  | some p => rw [q] at e1; cases e1; exact .same
theorem all_true (n : Nat) : (List.range n).all (fun _ => true) = true := by simp
theorem Rows.set {H : Hp} {a p : Addr} {rs : List (List Int)} {xs : List V} {r : List Int} {j : Nat} (h : Rows H a rs) (hx : H a = some (.lst xs)) (hp : H p = some (.tup (r.map V.int))) : Rows (L2.upd H a (.lst (xs.set j (.ref p)))) a (rs.set j r) := by
  obtain ⟨ps, h1, h2, h3⟩ := h
  rw [hx] at h1
  cases h1
  refine ⟨ps.set j p, by rw [upd_same, List.map_set], by rw [List.length_set, List.length_set, h2], fun i q r' e1 e2 => ?_⟩
  have fin : ∀ z : List Int, H q = some (.tup (z.map V.int)) → L2.upd H a (.lst ((ps.map V.ref).set j (.ref p))) q = some (.tup (z.map V.int)) := fun z e => by rw [upd_ne (ne_of e hx (by intro z; cases z))]; exact e
  by_cases hij : j = i
  · subst hij
    have hj : j < ps.length := by have := (List.getElem?_eq_some_iff.mp e1).1; rw [List.length_set] at this; exact this
    rw [List.getElem?_set_self hj] at e1
    rw [List.getElem?_set_self (by omega)] at e2
    cases e1
    cases e2
    exact fin r hp
  · rw [List.getElem?_set_ne hij] at e1 e2
    exact fin r' (h3 i q r' e1 e2)
/-- t[:k], t[k + 1:] of a tuple of numbers -/
theorem cut_to (r : List Int) {k : Int} (h0 : 0 ≤ k) (h1 : k < r.length) : cutV (r.map V.int) none (some k) = (r.take k.toNat).map V.int ∧ ¬ (HT.sIx (r.map V.int).length 0 none = 0 ∧ HT.sIx (r.map V.int).length (r.map V.int).length (some k) = (r.map V.int).length) := by
  have e : HT.sIx (r.map V.int).length (r.map V.int).length (some k) = k.toNat := by
    show (if k < 0 then (k + ((r.map V.int).length : Int)).toNat else min k.toNat (r.map V.int).length) = k.toNat
    rw [if_neg (by omega), List.length_map]
    omega
  refine ⟨?_, fun z => by rw [e, List.length_map] at z; omega⟩
  unfold cutV
  rw [e]
  show ((r.map V.int).drop 0).take (k.toNat - 0) = _
  rw [List.drop_zero, Nat.sub_zero, ← List.map_take]
theorem cut_from (r : List Int) {k : Int} (h0 : 1 ≤ k) (h1 : k ≤ r.length) : cutV (r.map V.int) (some k) none = (r.drop k.toNat).map V.int ∧ ¬ (HT.sIx (r.map V.int).length 0 (some k) = 0 ∧ HT.sIx (r.map V.int).length (r.map V.int).length none = (r.map V.int).length) := by
  have e : HT.sIx (r.map V.int).length 0 (some k) = k.toNat := by
    show (if k < 0 then (k + ((r.map V.int).length : Int)).toNat else min k.toNat (r.map V.int).length) = k.toNat
    rw [if_neg (by omega), List.length_map]
    omega
  refine ⟨?_, fun z => by rw [e] at z; omega⟩
  unfold cutV
  rw [e]
  show ((r.map V.int).drop k.toNat).take ((r.map V.int).length - k.toNat) = _
  rw [← List.map_drop, List.take_of_length_le (by rw [List.length_map, List.length_map, List.length_drop]; omega)]
end L2
set_option maxHeartbeats 4000000
namespace L2
open PySem PySem.Spec PySem.W PyProof.Rows
/-! numbers -/
theorem ints_of : ∀ {ns : List Int} {us : List Value}, Vals (ns.map V.int) us → IntsAre us ns
  | [], _, .nil => .nil
  | n :: r, _, .cons x t => by
    obtain ⟨k, rfl⟩ := x
    exact .cons n k (ints_of t)
theorem ints_to : ∀ {ns : List Int} {us : List Value}, IntsAre us ns → Vals (ns.map V.int) us
  | _, _, .nil => .nil
  | _, _, .cons n t r => .cons ⟨t, rfl⟩ (ints_to r)
/-! the order of tuples -/
def lexB : List Int → List Int → Bool
  | a :: as, b :: bs => if a = b then lexB as bs else decide (a < b)
  | [], _ :: _ => true
  | _, [] => false
theorem lex_irr : ∀ a : List Int, lexB a a = false
  | [] => rfl
  | a :: as => by show (if a = a then lexB as as else _) = false; rw [if_pos rfl]; exact lex_irr as
theorem lex_asy : ∀ {a b : List Int}, lexB a b = true → lexB b a = false
  | [], [], h => by cases h
  | [], b :: bs, _ => rfl
  | a :: as, [], h => by cases h
  | a :: as, b :: bs, h => by
    show (if b = a then lexB bs as else decide (b < a)) = false
    have h' : (if a = b then lexB as bs else decide (a < b)) = true := h
    by_cases e : a = b
    · rw [if_pos e] at h'
      rw [if_pos e.symm]
      exact lex_asy h'
    · rw [if_neg e] at h'
      rw [if_neg (Ne.symm e)]
      have := of_decide_eq_true h'
      exact decide_eq_false (by omega)
theorem lex_tr : ∀ {a b c : List Int}, lexB b a = false → lexB c b = false → lexB c a = false
  | [], [], [], _, _ => rfl
  | [], [], _ :: _, _, _ => rfl
  | [], _ :: _, [], _, h => by cases h
  | [], _ :: _, _ :: _, _, _ => rfl
  | _ :: _, [], _, h, _ => by cases h
  | _ :: _, _ :: _, [], _, h => by cases h
  | a :: as, b :: bs, c :: cs, h, g => by
    have h' : (if b = a then lexB bs as else decide (b < a)) = false := h
    have g' : (if c = b then lexB cs bs else decide (c < b)) = false := g
    show (if c = a then lexB cs as else decide (c < a)) = false
    by_cases e1 : b = a
    · rw [if_pos e1] at h'
      subst e1
      by_cases e2 : c = b
      · rw [if_pos e2] at g'
        rw [if_pos e2]
        exact lex_tr h' g'
      · rw [if_neg e2] at g' ⊢
        exact g'
    · rw [if_neg e1] at h'
      have h1 := of_decide_eq_false h'
      by_cases e2 : c = b
      · subst e2
        rw [if_neg e1]
        exact h'
      · rw [if_neg e2] at g'
        have g1 := of_decide_eq_false g'
        rw [if_neg (by omega)]
        exact decide_eq_false (by omega)
def ltOf (rs : List (List Int)) (i j : Nat) : Bool := lexB (rs.getD i []) (rs.getD j [])
theorem ordr_of (rs : List (List Int)) : Ordr (ltOf rs) := ⟨fun _ => lex_irr _, fun _ _ _ a b => lex_tr a b, fun _ _ a => lex_asy a⟩
/-! tuples of numbers compared -/
section
variable {prog : Program} {w : World} {A : Around} {E : Value → Shared → Prop} {s : Shared}
theorem katLex_ints {Q : Bool → Shared → Prop} : ∀ {xs ys : List Value} {as bs : List Int} (i : Nat), IntsAre xs as → IntsAre ys bs → as.length = bs.length → Q (lexB as bs) s → KatLex prog w A true false Q (xs.zip ys) i s
  | _, _, _, _, i, .nil, .nil, _, q => q
  | _, _, _, _, i, .cons n t r, .cons m u r', hl, q => by
    show KatLex prog w A true false Q ((Value.int n t, Value.int m u) :: _) i s
    refine kat_cons (wpAny_eqBool_int ?_)
    by_cases e : n = m
    · rw [show (n == m) = true by simpa using e]
      refine kat_yes (katLex_ints (i + 1) r r' (by simpa using hl) ?_)
      have q' : Q (if n = m then lexB _ _ else _) s := q
      rw [if_pos e] at q'
      exact q'
    · rw [show (n == m) = false by simpa using e]
      refine kat_no ?_
      have q' : Q (if n = m then lexB _ _ else decide (n < m)) s := q
      rw [if_neg e] at q'
      by_cases c : (true && i == 0) = true
      · rw [c]; exact oneLt_int q'
      · rw [Bool.eq_false_iff.mpr c]
        exact kat_one _ _ (lt_int q')
  | _, _, _, _, i, .nil, .cons _ _ _, hl, q => by simp at hl
  | _, _, _, _, i, .cons _ _ _, .nil, hl, q => by simp at hl
/-- tuples of numbers at addresses -/
def TupsAt (h : Heap) (bs : List Addr) (rs : List (List Int)) : Prop := bs.length = rs.length ∧ ∀ (i : Nat) b r, bs[i]? = some b → rs[i]? = some r → ∃ its : List Value, IsTup h b its.toArray ∧ IntsAre its r
theorem TupsAt.tail {h : Heap} {b : Addr} {bs : List Addr} {r : List Int} {rs : List (List Int)} (t : TupsAt h (b :: bs) (r :: rs)) : TupsAt h bs rs := ⟨by simpa using t.1, fun i c q e1 e2 => t.2 (i + 1) c q (by simpa using e1) (by simpa using e2)⟩
theorem TupsAt.kat {h : Heap} : ∀ {bs : List Addr} {rs : List (List Int)}, TupsAt h bs rs → (∀ r ∈ rs, r ≠ []) → ∃ fs : List Value, fs.length = bs.length ∧ KatTups h (bs.map Value.ref) fs ∧ ∀ v ∈ fs, ∃ n t, v = .int n t
  | [], [], _, _ => ⟨[], rfl, trivial, fun v hv => by cases hv⟩
  | [], _ :: _, t, _ => by have := t.1; simp at this
  | _ :: _, [], t, _ => by have := t.1; simp at this
  | b :: bs, r :: rs, t, hn => by
    obtain ⟨fs, h1, h2, h3⟩ := t.tail.kat fun q hq => hn q (.tail _ hq)
    obtain ⟨its, ⟨o, ho, hc, n, hd⟩, ia⟩ := t.2 0 b r rfl rfl
    cases ia with
    | nil => exact absurd rfl (hn [] (.head _))
    | cons m k ia =>
      refine ⟨.int m k :: fs, by simp [h1], ⟨⟨b, o, _, n, rfl, ho, hc, hd, rfl⟩, h2⟩, fun v hv => ?_⟩
      rcases List.mem_cons.mp hv with rfl | hv
      · exact ⟨m, k, rfl⟩
      · exact h3 v hv
theorem TupsAt.ask {bs : List Addr} {rs : List (List Int)} {wd : Nat} (t : TupsAt s.heap bs rs) (hw : ∀ r ∈ rs, r.length = wd) (i j : Nat) (C : Bool → Shared → Prop) (hi : i < bs.length) (hj : j < bs.length) (q : C (ltOf rs i j) s) : kas_ask prog w A (tuples' true) (bs.map Value.ref) i j C s := by
  have hi' : i < rs.length := by rw [← t.1]; exact hi
  have hj' : j < rs.length := by rw [← t.1]; exact hj
  obtain ⟨xs, ⟨o, ho, _, n, hd⟩, ia⟩ := t.2 i bs[i] rs[i] (by simp [hi]) (by simp [hi'])
  obtain ⟨ys, ⟨o', ho', _, n', hd'⟩, ib⟩ := t.2 j bs[j] rs[j] (by simp [hj]) (by simp [hj'])
  unfold kas_ask
  rw [show (bs.map Value.ref).getD i Value.none = .ref bs[i] by simp [hi], show (bs.map Value.ref).getD j Value.none = .ref bs[j] by simp [hj]]
  have la : xs.length = wd := by rw [IntsAre.length ia]; exact hw _ (List.getElem_mem hi')
  have lb : ys.length = wd := by rw [IntsAre.length ib]; exact hw _ (List.getElem_mem hj')
  refine kat_lt ho hd ho' hd' ?_
  rw [show decide (xs.toArray.size < ys.toArray.size) = false by simp [la, lb]]
  have q' : C (lexB rs[i] rs[j]) s := by
    unfold ltOf at q
    rw [show rs.getD i [] = rs[i] by simp [hi'], show rs.getD j [] = rs[j] by simp [hj']] at q
    exact q
  exact katLex_ints 0 ia ib (by rw [hw _ (List.getElem_mem hi'), hw _ (List.getElem_mem hj')]) q'
theorem up_small {lt : Nat → Nat → Bool} (O : Ordr lt) {p : Array Nat} {m : Nat} (h : m < 2) : Up lt p m := fun i j hij hj => by
  have : i = j := by omega
  subst this
  exact O.irr _
/-- list.sort of tuples of numbers -/
theorem list_sort_tup {a : Addr} {bs : List Addr} {rs : List (List Int)} {wd n : Nat} {P : PySem.Fin → Shared → Prop} (ho : s.heap.get? a = some (seqObj "list" (bs.map Value.ref).toArray n))
    (t : TupsAt s.heap bs rs) (hw : ∀ r ∈ rs, r.length = wd) (hw0 : 0 < wd) (h64 : bs.length < 64)
    (h : ∀ p : Array Nat, PermN bs.length p → Up (ltOf rs) p bs.length → P (.done (.ret .none)) { s with heap := sortedHeap s.heap a (bs.map Value.ref) (List.toArray (p.toList.map fun i => (bs.map Value.ref).getD i Value.none)) }) :
    wpAny (model prog w) A (Builtin.«list.sort» ⟨[.ref a], []⟩) P E s := by
  rw [list_sort_plain]
  have ha : a < s.heap.objs.size := Heap.lt_size ho
  have hlen : (bs.map Value.ref).length = bs.length := List.length_map ..
  refine wpAny_bind (listItems_at ho rfl ?_)
  refine wpAny_bind (listUpdate_at ho rfl ?_ (by rw [List.size_toArray, sizeLine_eq, hlen]; omega) (Nat.zero_le _))
  obtain ⟨e1, ho1⟩ : ∃ e1, (s.heap.update a (Obj.mapSeq fun _ => (#[] : Array Value))).get? a = some (seqObj "list" #[] e1) := ⟨_, get?_update_seq ho (fun _ => #[])⟩
  refine wpAny_bind (seqEpoch_at ho1 rfl ?_)
  refine wpAny_bind (wpAny_newTuple ?_ (by show (bs.map Value.ref).length ≤ _; rw [sizeLine_eq, hlen]; omega))
  refine wpAny_bind (wpAny_newList ?_ (Nat.zero_le _))
  refine wpAny_holding ?_
  have ho6 : (((s.heap.update a (Obj.mapSeq fun _ => (#[] : Array Value))).push (seqObj "tuple" (bs.map Value.ref).toArray 0)).push (seqObj "list" #[] 0)).get? a = some (seqObj "list" #[] e1) := by
    rw [Heap.get?_push_ne _ _ _ (by rw [size_push', Heap.size_update]; exact Nat.ne_of_lt (Nat.lt_succ_of_lt ha)), Heap.get?_push_ne _ _ _ (by rw [Heap.size_update]; exact Nat.ne_of_lt ha)]
    exact ho1
  have t6 : TupsAt (((s.heap.update a (Obj.mapSeq fun _ => (#[] : Array Value))).push (seqObj "tuple" (bs.map Value.ref).toArray 0)).push (seqObj "list" #[] 0)) bs rs := ⟨t.1, fun i b r x1 x2 => by
    obtain ⟨its, ⟨o, g1, g2, k, g3⟩, ia⟩ := t.2 i b r x1 x2
    have nb : b ≠ a := fun z => by
      rw [z, ho] at g1
      cases g1
      exact absurd g2 (by simp)
    exact ⟨its, ⟨o, Heap.get?_push_of_some _ (Heap.get?_push_of_some _ ((Heap.get?_update_other _ _ nb.symm).trans g1)), g2, k, g3⟩, ia⟩⟩
  show wpAny (model prog w) A _ P E { s with heap := ((s.heap.update a (Obj.mapSeq fun _ => (#[] : Array Value))).push (seqObj "tuple" (bs.map Value.ref).toArray 0)).push (seqObj "list" #[] 0) }
  dsimp only
  have hsz : (bs.map Value.ref).toArray.size = bs.length := by simp
  have hsz2 : ∀ p : Array Nat, PermN bs.length p → (List.toArray (p.toList.map fun i => (bs.map Value.ref).getD i Value.none)).size ≤ sizeLine + 1 := fun p hp => by
    rw [List.size_toArray, List.length_map, Array.length_toList, hp.size, sizeLine_eq]; omega
  by_cases h2 : (bs.map Value.ref).toArray.size < 2
  · rw [if_pos h2, if_pos h2]
    refine wpAny_bind (wpAny_pure ?_)
    rw [StateT.run_pure]
    refine wpAny_bind (wpAny_pure ?_)
    dsimp only
    refine wpAny_bind (seqEpoch_at ho6 rfl ?_)
    have pr : PermN bs.length (List.toArray (List.range bs.length)) := by unfold PermN; simp
    have eo : (arrOf (SortSt.mk' general' ((bs.map Value.ref).toArray.zip (bs.map Value.ref).toArray) #[] 7 none)).map (·.2) = List.toArray ((List.toArray (List.range bs.length)).toList.map fun i => (bs.map Value.ref).getD i Value.none) :=
      kat_snds (vs := bs.map Value.ref) (ks := bs.map Value.ref) (p := List.toArray (List.range bs.length)) rfl (by
        have e := kas_range ((bs.map Value.ref).toArray.zip (bs.map Value.ref).toArray)
        rw [show ((bs.map Value.ref).toArray.zip (bs.map Value.ref).toArray).size = bs.length by simp] at e
        exact e.symm)
    rw [eo]
    refine wpAny_bind (listUpdate_at ho6 rfl ?_ (Nat.zero_le _) (hsz2 _ pr))
    simp only [bne_self_eq_false, Bool.false_eq_true, if_false]
    exact wpAny_pure (h _ pr (up_small (ordr_of rs) (by omega)))
  · rw [if_neg h2, if_neg h2]
    obtain ⟨fs, f1, f2, f3⟩ := t6.kat fun r hr z => by have := hw r hr; rw [z] at this; simp at this; omega
    refine wpAny_bind (kat_kind (T := .type "int") f2 (by omega) (fun v hv => ?_) rfl ?_)
    · obtain ⟨m, k, rfl⟩ := f3 v hv
      exact Looks.of_pure rfl
    rw [show ((Value.type "int" : Value) != Value.type "tuple") = true from rfl]
    refine wpAny_bind (wpAny_mono (kat_run (A := A) (vs := bs.map Value.ref) (ks := bs.map Value.ref) (κ := tuples' true)
      (G := fun p s' => (PermN bs.length p ∧ Up (ltOf rs) p bs.length) ∧ s' = { s with heap := ((s.heap.update a (Obj.mapSeq fun _ => (#[] : Array Value))).push (seqObj "tuple" (bs.map Value.ref).toArray 0)).push (seqObj "list" #[] 0) })
      (Q := fun st' s' => ∃ p : Array Nat, PermN bs.length p ∧ Up (ltOf rs) p bs.length ∧ arrOf st' = p.map (kas_item ((bs.map Value.ref).toArray.zip (bs.map Value.ref).toArray)) ∧ failedOf st' = none ∧ s' = { s with heap := ((s.heap.update a (Obj.mapSeq fun _ => (#[] : Array Value))).push (seqObj "tuple" (bs.map Value.ref).toArray 0)).push (seqObj "list" #[] 0) })
      rfl (by rw [hlen]; omega) (by rw [hlen]; exact h64) (fun p' st' s' a1 a2 a3 a4 => ⟨p', a4.1.1, a4.1.2, a2, a3, a4.2⟩) ?_) ?_ fun _ _ e => e)
    · rw [hlen]
      exact okW_wp (n := bs.length) (lt := ltOf rs) (fun i j C hi hj q => TupsAt.ask t6 hw i j C hi hj q) (okW_mono (fun p hp => ⟨hp, rfl⟩) (ok_sort (ordr_of rs) (by omega)))
    · rintro ⟨⟨⟩, st'⟩ s' ⟨p, hp, hu, har, hf, rfl⟩
      dsimp only
      rw [kat_snds (vs := bs.map Value.ref) (ks := bs.map Value.ref) rfl har]
      refine wpAny_bind (seqEpoch_at ho6 rfl ?_)
      refine wpAny_bind (listUpdate_at ho6 rfl ?_ (Nat.zero_le _) (hsz2 p hp))
      rw [hf]
      simp only [bne_self_eq_false, Bool.false_eq_true, if_false]
      exact wpAny_pure (h p hp hu)
theorem sorted_tup {l : Addr} {bs : List Addr} {rs : List (List Int)} {wd : Nat} {Q : Value → Shared → Prop} (hl : s.heap.IsList l (bs.map Value.ref).toArray) (t : TupsAt s.heap bs rs) (hw : ∀ r ∈ rs, r.length = wd) (hw0 : 0 < wd) (h64 : bs.length < 64)
    (h : ∀ p : Array Nat, PermN bs.length p → Up (ltOf rs) p bs.length → Q (.ref (s.heap.objs.size + 1)) { s with heap := sortedAll s.heap (bs.map Value.ref) (List.toArray (p.toList.map fun i => (bs.map Value.ref).getD i Value.none)) }) :
    wpAny (model prog w) A (call (.builtin "sorted") [.ref l]) Q E s := by
  have hlen : (bs.map Value.ref).length = bs.length := List.length_map ..
  refine Calls.call_function_entry kind_sorted plain_sorted entry_sorted (args_sorted1 _) ?_
  unfold Builtin.«sorted»
  refine wpAny_bind (m := checkCount "sorted" 1 1 _) (wpAny_pure ?_)
  refine wpAny_bind (collect_list hl ?_ (by rw [sizeLine_eq, hlen]; omega))
  refine wpAny_bind (wpAny_newList ?_ (by rw [sizeLine_eq, hlen]; omega))
  have hsz : ((s.heap.push (seqObj "list" #[] 0)).update s.heap.objs.size (Obj.mapSeq (· ++ (bs.map Value.ref).toArray))).objs.size = s.heap.objs.size + 1 := by
    rw [Heap.size_update, size_push']
  have hoL : (((s.heap.push (seqObj "list" #[] 0)).update s.heap.objs.size (Obj.mapSeq (· ++ (bs.map Value.ref).toArray))).push (seqObj "list" (bs.map Value.ref).toArray 0)).get? (s.heap.objs.size + 1) = some (seqObj "list" (bs.map Value.ref).toArray 0) := by
    rw [← hsz]; exact Heap.get?_push_size _ rfl
  have keep : ∀ b o, s.heap.get? b = some o → (((s.heap.push (seqObj "list" #[] 0)).update s.heap.objs.size (Obj.mapSeq (· ++ (bs.map Value.ref).toArray))).push (seqObj "list" (bs.map Value.ref).toArray 0)).get? b = some o := fun b o q => by
    have hlt : b < s.heap.objs.size := Heap.lt_size q
    rw [Heap.get?_push_ne _ _ _ (by rw [hsz]; exact Nat.ne_of_lt (Nat.lt_succ_of_lt hlt)), Heap.get?_update_ne _ _ _ _ (Nat.ne_of_lt hlt), Heap.get?_push_ne _ _ _ (Nat.ne_of_lt hlt)]
    exact q
  show wpAny _ _ _ _ _ { s with heap := ((s.heap.push (seqObj "list" #[] 0)).update s.heap.objs.size (Obj.mapSeq (· ++ (bs.map Value.ref).toArray))).push (seqObj "list" (bs.map Value.ref).toArray 0) }
  rw [hsz]
  refine wpAny_bind (wpAny_holding (wpAny_call_entry slot_list_sort ⟨_, hoL, rfl⟩ entry_list_sort (list_sort_tup hoL ⟨t.1, fun i b r x1 x2 => ?_⟩ hw hw0 h64 fun p a1 a2 => ⟨_, rfl, ?_⟩) (args_list_sort _)))
  · obtain ⟨its, y1, y2⟩ := t.2 i b r x1 x2
    exact ⟨its, y1.keeps keep, y2⟩
  · exact wpAny_pure ⟨_, rfl, h p a1 a2⟩
end
section
variable {X : Cx}
/-- sum of a list of numbers -/
def rSum (K : PySem.W.Frag) : List V → Hp → VK → Prop := fun xs H Q => ∃ (p : Addr) (ns : List Int), xs = [.ref p] ∧ SqL K H p (ns.map V.int) ∧ Q (.int ns.sum) H
theorem call_sumI (hc : X.calm = true) : CallR X (.builtin "sum") (rSum X.K) := by
  intro pins s σ H xs us Q I r h
  obtain ⟨p, ns, rfl, hq, q⟩ := h
  obtain ⟨u, rfl, ru⟩ := r.one
  cases ru
  obtain ⟨its, rv, pl, hz⟩ := I.list hq
  have ia := ints_of rv
  obtain ⟨ys, ey⟩ := ia.allInts.items
  have hl := pl.isList
  have e2 : (numsOf its.toArray.toList).sum = ns.sum := by rw [show its.toArray.toList = its by simp, ia.numsOf]
  rw [ey] at hl e2
  refine sum_intListG (I.ok.hd hc) hl fun h' tk t' kk => ⟨.int ns.sum, H, I.kept (t' := tk) kk, ⟨t', ?_⟩, q⟩
  rw [nums_intItems] at e2
  rw [preSum_eq, List.take_of_length_le (by simp), e2]
/-- sorted of a list of numbers -/
def rSortI (K : PySem.W.Frag) : List V → Hp → VK → Prop := fun xs H Q => ∃ (p : Addr) (ns : List Int), xs = [.ref p] ∧ SqL K H p (ns.map V.int) ∧ ns.length < 64 ∧ ∀ (l : Addr) (ms : List Int), H l = none → ms.Perm ns → ms.Pairwise (· ≤ ·) → Q (.ref l) (upd H l (.lst (ms.map V.int)))
theorem call_sortI : CallR X (.builtin "sorted") (rSortI X.K) := by
  intro pins s σ H xs us Q I r h
  obtain ⟨p, ns, rfl, hq, h64, q⟩ := h
  obtain ⟨u, rfl, ru⟩ := r.one
  cases ru
  obtain ⟨its, rv, pl, hz⟩ := I.list hq
  have ia := ints_of rv
  refine sorted_ints pl.isList ia (by rw [IntsAre.length ia]; exact h64) fun out ms i1 i2 i3 => ?_
  obtain ⟨e, he⟩ := sortedAll_at s.heap its out
  refine ⟨.ref _, _, I.laid (t' := s.toks) (a := s.heap.objs.size + 1) (o := .lst (ms.map V.int)) (fun b o e => sortedAll_old e) (Nat.le_succ _) ⟨?_, out.toList, e, ints_to i1, ?_⟩, rfl, q _ ms (I.hok.fresh (Nat.le_succ _)) i2 i3⟩
  · rw [List.length_map, i2.length_eq, sizeLine_eq]; omega
  · rw [he]
/-- sorted of a list of tuples of numbers -/
def rSortT : List V → Hp → VK → Prop := fun xs H Q => ∃ (p : Addr) (rs : List (List Int)) (wd : Nat), xs = [.ref p] ∧ Rows H p rs ∧ rs.length < 64 ∧ (∀ r ∈ rs, r.length = wd) ∧ 0 < wd ∧ ∀ (l : Addr) (ss : List (List Int)) (H' : Hp), H l = none → ss.Perm rs → ss.Pairwise (fun a b => lexB b a = false) → Same H H' → Rows H' l ss → Q (.ref l) H'
theorem call_sortT : CallR X (.builtin "sorted") rSortT := by
  intro pins s σ H xs us Q I r h
  obtain ⟨p, rs, wd, rfl, hR, h64, hw, hw0, q⟩ := h
  obtain ⟨u, rfl, ru⟩ := r.one
  cases ru
  obtain ⟨ps, h1, h2, h3⟩ := id hR
  obtain ⟨its, rv, pl, hz⟩ := I.list (SqL.of h1)
  have eits : its = ps.map Value.ref := by
    clear hz pl h1 h2 h3 hR
    induction ps generalizing its with
    | nil => cases rv; rfl
    | cons a r ih =>
      cases rv with
      | cons x t => rw [show _ = Value.ref a from x, ih _ t]; rfl
  subst eits
  have tt : TupsAt s.heap ps rs := ⟨h2, fun i b r e1 e2 => by
    obtain ⟨_, us, rr, y⟩ := (show ObjOk X.prog X.w H s.heap b (.tup (r.map V.int)) from I.hok b _ (h3 i b r e1 e2))
    exact ⟨us, y, ints_of rr⟩⟩
  have hps : ps.length < 64 := by omega
  refine sorted_tup pl.isList tt hw hw0 hps fun pp hp hu => ?_
  have hmem : ∀ i ∈ pp.toList, i < ps.length := fun i hi => List.mem_range.mp ((List.Perm.mem_iff hp).mp hi)
  have eo : (pp.toList.map fun i => (ps.map Value.ref).getD i Value.none) = (pp.toList.map fun i => ps.getD i 0).map Value.ref := by
    rw [List.map_map]
    exact List.map_congr_left fun i hi => by have := hmem i hi; simp [this]
  obtain ⟨e, he⟩ := sortedAll_at s.heap (ps.map Value.ref) (List.toArray (pp.toList.map fun i => (ps.map Value.ref).getD i Value.none))
  have vv : ∀ l : List Addr, Vals (l.map V.ref) (l.map Value.ref) := fun l => by
    induction l with
    | nil => exact .nil
    | cons a r ih => exact .cons rfl ih
  have fr : H (s.heap.objs.size + 1) = none := I.hok.fresh (Nat.le_succ _)
  refine ⟨.ref _, _, I.laid (t' := s.toks) (a := s.heap.objs.size + 1) (o := .lst ((pp.toList.map fun i => ps.getD i 0).map V.ref)) (fun b o e => sortedAll_old e) (Nat.le_succ _) ⟨?_, (pp.toList.map fun i => ps.getD i 0).map Value.ref, e, vv _, ?_⟩, rfl, q _ (pp.toList.map fun i => rs.getD i []) _ fr ?_ ?_ (same_new fr _) ⟨_, upd_same, by rw [List.length_map, List.length_map], fun i b r e1 e2 => ?_⟩⟩
  · rw [List.length_map, List.length_map, Array.length_toList, hp.size, sizeLine_eq]; omega
  · rw [he, eo]
  · have e1 : (List.range ps.length).map (fun i => rs.getD i []) = rs := by
      apply List.ext_getElem?
      intro i
      rw [List.getElem?_map]
      by_cases hi : i < ps.length
      · rw [List.getElem?_range hi]; simp [show i < rs.length by omega]
      · rw [List.getElem?_eq_none (by simpa using hi), List.getElem?_eq_none (by omega)]; rfl
    have := hp.map (fun i => rs.getD i [])
    rw [e1] at this
    exact this
  · rw [List.pairwise_map, List.pairwise_iff_getElem]
    intro i j hi hj hij
    have hj' : j < ps.length := by rw [Array.length_toList, hp.size] at hj; exact hj
    have := hu i j (Nat.le_of_lt hij) hj'
    have gi : gA pp i = pp.toList[i] := by
      rw [Array.length_toList] at hi
      simp [gA, hi]
    have gj : gA pp j = pp.toList[j] := by
      rw [Array.length_toList] at hj
      simp [gA, hj]
    rw [gi, gj] at this
    exact this
  · rw [List.getElem?_map] at e1 e2
    cases ei : pp.toList[i]? with
    | none => rw [ei] at e1; cases e1
    | some k =>
      rw [ei] at e1 e2
      have hk := hmem k (List.mem_of_getElem? ei)
      have eb : ps[k]? = some b := by have := Option.some.inj e1; simp [hk] at this; simp [hk, this]
      have er : rs[k]? = some r := by have := Option.some.inj e2; simp [show k < rs.length by omega] at this; simp [show k < rs.length by omega, this]
      have hb := h3 k b r eb er
      rw [upd_ne (ne_of_none hb fr)]
      exact hb
end
end L2
set_option maxHeartbeats 4000000
namespace L2
open PySem PySem.Spec PySem.W PyProof.Rows
section
variable {X : Cx}
/-- range(n), as a value -/
def rRng1 : List V → Hp → VK → Prop := fun xs H Q => ∃ n : Int, xs = [.int n] ∧ ∀ l, H l = none → Q (.ref l) (upd H l (.rng 0 n))
theorem call_rng1 : CallR X (.type "range") rRng1 := by
  intro pins s σ H xs us Q I r h
  obtain ⟨n, rfl, q⟩ := h
  obtain ⟨u, rfl, ru⟩ := r.one
  obtain ⟨t, rfl⟩ := ru
  refine call_range_1 ?_
  exact ⟨.ref _, _, I.laid (t' := s.toks + 1 + 1) (a := s.heap.objs.size) (o := .rng 0 n) (fun b o e => Heap.get?_push_of_some _ e) (Nat.le_refl _) ⟨_, _, _, Heap.get?_push_size _ rfl⟩, rfl, q _ (I.hok.fresh (Nat.le_refl _))⟩
def uptoN (n : Nat) : List Int := (List.range n).map fun i => ((i : Nat) : Int)
theorem uptoN_length (n : Nat) : (uptoN n).length = n := by simp [uptoN]
/-- list(range(n)) -/
def rListRng : List V → Hp → VK → Prop := fun xs H Q => ∃ (p : Addr) (n : Nat), xs = [.ref p] ∧ H p = some (.rng 0 n) ∧ n ≤ 1000 ∧ ∀ l, H l = none → Q (.ref l) (upd H l (.lst ((uptoN n).map V.int)))
theorem items_rng {acc : Array Value} {n : Nat} (h : ItemsOf (fun i v => ∃ t, v = Value.int (0 + (i : Int) * 1) t) acc n) : Vals ((uptoN n).map V.int) acc.toList := by
  obtain ⟨h1, h2⟩ := h
  have go : ∀ (l : List Value) (k : Nat), (∀ (j : Nat) v, l[j]? = some v → ∃ t, v = Value.int ((k + j : Nat) : Int) t) → Vals ((List.range' k l.length).map fun i => V.int ((i : Nat) : Int)) l := by
    intro l
    induction l with
    | nil => intro k _; exact .nil
    | cons a r ih =>
      intro k hl
      rw [List.length_cons, List.range'_succ, List.map_cons]
      obtain ⟨t, e⟩ := hl 0 a rfl
      refine .cons ⟨t, ?_⟩ (ih (k + 1) fun j v ev => ?_)
      · rw [e, Nat.add_zero]
      · obtain ⟨t, e⟩ := hl (j + 1) v (by simpa using ev)
        exact ⟨t, by rw [e]; congr 1; omega⟩
  have := go acc.toList 0 fun j v ev => by
    obtain ⟨t, e⟩ := h2 j v (by simpa using ev)
    exact ⟨t, by rw [e]; congr 1; omega⟩
  rw [Array.length_toList, h1] at this
  unfold uptoN
  rw [List.map_map, List.range_eq_range']
  exact this
theorem call_list_rng (hc : X.calm = true) : CallR X (.type "list") rListRng := by
  intro pins s σ H xs us Q I r h
  obtain ⟨p, n, rfl, hp, hn, q⟩ := h
  obtain ⟨u, rfl, ru⟩ := r.one
  cases ru
  obtain ⟨t1, t2, t3, ho⟩ := (show ObjOk X.prog X.w H s.heap p (.rng 0 n) from I.hok p _ hp)
  refine call_list_range (a := 0) (b := (n : Int)) (c := 1) (n := n) (I.ok.hd hc) ho (small_one (by decide) (by decide) (by omega) (by omega)) ?_ (by omega) fun h' tk acc' c' kk e it => ?_
  · rw [rangeSize_one]
    split <;> omega
  · refine ⟨.ref _, _, I.laid (t' := tk) (a := s.heap.objs.size) (o := .lst ((uptoN n).map V.int)) kk (Nat.le_refl _) ⟨?_, acc'.toList, c', items_rng it, by simpa using e⟩, rfl, q _ (I.hok.fresh (Nat.le_refl _))⟩
    rw [List.length_map, uptoN_length, sizeLine_eq]; omega
/-- xs.insert(i, y), i a place or the end -/
def rInsert : V → List V → Hp → VK → Prop := fun x vs H Q => ∃ (l : Addr) (xs : List V) (i : Int) (y : V), x = .ref l ∧ vs = [.int i, y] ∧ H l = some (.lst xs) ∧ 0 ≤ i ∧ i ≤ xs.length ∧ xs.length < 1000 ∧ Q .non (upd H l (.lst (xs.take i.toNat ++ y :: xs.drop i.toNat)))
theorem ins_arr (its : List Value) (i : Int) (u : Value) (h0 : 0 ≤ i) (h1 : i ≤ its.length) :
    (fun xs : Array Value => have k := if i < 0 then (i + ((xs.size : Nat) : Int)).toNat else min i.toNat xs.size; (xs.extract 0 k).push u ++ xs.extract k) its.toArray = (its.take i.toNat ++ u :: its.drop i.toNat).toArray := by
  have ek : (if i < 0 then (i + ((its.toArray.size : Nat) : Int)).toNat else min i.toNat its.toArray.size) = i.toNat := by
    rw [if_neg (by omega), List.size_toArray]; omega
  show (its.toArray.extract 0 (if i < 0 then (i + ((its.toArray.size : Nat) : Int)).toNat else min i.toNat its.toArray.size)).push u ++ its.toArray.extract (if i < 0 then (i + ((its.toArray.size : Nat) : Int)).toNat else min i.toNat its.toArray.size) = _
  rw [ek]
  apply Array.toList_inj.mp
  simp [Array.toList_extract, List.extract_eq_take_drop]
  exact List.take_of_length_le (by rw [List.length_drop]; exact Nat.le_refl _)
theorem mt_insert : MtM X "list.insert" rInsert := by
  intro pins s σ H x vs v us Q I rx rv h
  obtain ⟨l, xs, i, y, rfl, rfl, hH, h0, hi, hz, q⟩ := h
  cases rx
  obtain ⟨u1, u2, rfl, ru1, ru2⟩ := rv.two
  obtain ⟨t, rfl⟩ := ru1
  obtain ⟨z, its, n, r, hl, e⟩ := I.lstM hH
  have hfit : ¬(!Builtin.List.listFitsIndex i) = true := by
    unfold Builtin.List.listFitsIndex
    simp
    omega
  have hsz : its.toArray.size ≤ sizeLine := by rw [List.size_toArray, ← hl]; exact z
  refine call_meets PySem.F.slot_list_insert ⟨_, e, rfl⟩ PySem.F.entry_list_insert (PySem.F.args_list_insert_3 _ _ _) (PySem.AutoSeq1.list_insert_list_int_val_1 l its.toArray n i t u2 hfit hsz) ⟨e, ?_⟩
  refine ⟨.non, _, I.lset (its' := its.take i.toNat ++ u2 :: its.drop i.toNat) hH e (ins_arr its i u2 h0 (by omega)) ((r.take i.toNat).append (.cons ru2 (r.drop i.toNat))) ?_, rfl, q⟩
  rw [List.length_append, List.length_cons, List.length_take, List.length_drop, sizeLine_eq]; omega
end
end L2
set_option maxHeartbeats 4000000
namespace L2
open PySem PySem.Spec PySem.W PyProof.Rows
theorem uptoN_succ (n : Nat) : uptoN (n + 1) = uptoN n ++ [((n : Nat) : Int)] := by
  unfold uptoN
  rw [List.range_succ, List.map_append]; rfl
theorem uptoN_mem {n : Nat} {i : Int} : i ∈ uptoN n ↔ 0 ≤ i ∧ i < n := by
  unfold uptoN
  rw [List.mem_map]
  constructor
  · rintro ⟨k, hk, rfl⟩
    have := List.mem_range.mp hk
    omega
  · intro h
    exact ⟨i.toNat, List.mem_range.mpr (by omega), by omega⟩
/-- the number in a column -/
abbrev colAt (rs : List (List Int)) (k : Nat) (i : Int) : Int := (rs.getD i.toNat []).getD k 0
/-- by what the eldest, the dearest are put in order -/
def keyE (rs : List (List Int)) (i : Int) : List Int := [colAt rs 0 i, i]
def keyD (rs : List (List Int)) (i : Int) : List Int := [-(colAt rs 2 i), colAt rs 0 i, i]
def Ordered (key : Int → List Int) (n : Nat) (os : List Int) : Prop := os.Perm (uptoN n) ∧ os.Pairwise (fun i j => lexB (key j) (key i) = false)
theorem ordered_of {key : Int → List Int} {lst : List Int → Int} (hk : ∀ i, lst (key i) = i) {n : Nat} {ss : List (List Int)} (hp : ss.Perm ((uptoN n).map key)) (ho : ss.Pairwise (fun a b => lexB b a = false)) : Ordered key n (ss.map lst) := by
  have e : (ss.map lst).map key = ss := by
    rw [List.map_map]
    conv => rhs; rw [← List.map_id ss]
    refine List.map_congr_left fun r hr => ?_
    obtain ⟨i, _, rfl⟩ := List.mem_map.mp (hp.mem_iff.mp hr)
    show key (lst (key i)) = key i
    rw [hk]
  refine ⟨?_, ?_⟩
  · have := hp.map lst
    rw [List.map_map] at this
    rw [show (uptoN n).map (lst ∘ key) = uptoN n by
      conv => rhs; rw [← List.map_id (uptoN n)]
      exact List.map_congr_left fun i _ => hk i] at this
    exact this
  · rw [← e, List.pairwise_map] at ho
    exact ho
def spOrd (key : List (List Int) → Int → List Int) (ok : List Int → Prop) : Sp := fun vs H Q _ => ∃ (a : Addr) (rs : List (List Int)), vs = [.ref a] ∧ Rows H a rs ∧ rs.length ≤ 60 ∧ (∀ r ∈ rs, ok r) ∧
  ∀ (l : Addr) (os : List Int) (H' : Hp), H l = none → Same H H' → Ordered (key rs) rs.length os → H' l = some (.lst (os.map V.int)) → Q (.ref l) H'
def okE (r : List Int) : Prop := 1 ≤ r.length
def okD (r : List Int) : Prop := r.length = 3
theorem Same.young2 {p : Addr} {H H1 : Hp} {o : HO} (x : Same H H1) (hp : H p = none) : Same H (L2.upd H1 p o) := x.young hp
theorem row_at {rs : List (List Int)} {i : Nat} {r : List Int} (e : rs[i]? = some r) : rs.getD ((i : Nat) : Int).toNat [] = r := by
  rw [Int.toNat_natCast, List.getD_eq_getElem?_getD, e]; rfl
end L2
set_option maxHeartbeats 4000000
namespace L2
open PySem PySem.Spec PySem.W PyProof.Rows
/-! taken counts -/
def GoodTo (rs : List (List Int)) (ts : List Int) (i : Nat) : Prop := ∀ (j : Nat) r u, j < i → rs[j]? = some r → ts[j]? = some u → 0 ≤ u ∧ u ≤ r.getD 1 0
theorem goodTo_zero {rs : List (List Int)} {ts : List Int} : GoodTo rs ts 0 := fun j r u h => absurd h (Nat.not_lt_zero _)
theorem goodTo_succ {rs : List (List Int)} {ts : List Int} {i : Nat} {r : List Int} {u : Int} (er : rs[i]? = some r) (eu : ts[i]? = some u) : GoodTo rs ts (i + 1) ↔ GoodTo rs ts i ∧ 0 ≤ u ∧ u ≤ r.getD 1 0 := by
  constructor
  · intro h
    exact ⟨fun j r u hj => h j r u (by omega), h i r u (by omega) er eu⟩
  · rintro ⟨h, g⟩ j r' u' hj e1 e2
    by_cases c : j < i
    · exact h j r' u' c e1 e2
    · have : j = i := by omega
      subst this
      rw [er] at e1
      rw [eu] at e2
      cases e1
      cases e2
      exact g
def TakenOk (rs : List (List Int)) (ts : List Int) : Prop := ts.length = rs.length ∧ GoodTo rs ts rs.length
def termAt (rs : List (List Int)) (ts : List Int) (j : Nat) : Int := ts.getD j 0 * (rs.getD j []).getD 2 0
def refundOf (rs : List (List Int)) (ts : List Int) : Int := ((List.range rs.length).map (termAt rs ts)).sum
theorem term_eq {rs : List (List Int)} {ts : List Int} {i : Nat} {r : List Int} {u : Int} (er : rs[i]? = some r) (eu : ts[i]? = some u) : termAt rs ts i = u * r.getD 2 0 := by
  unfold termAt
  rw [List.getD_eq_getElem?_getD, eu, List.getD_eq_getElem?_getD (l := rs), er]; rfl
/-- a duty that can be multiplied -/
def dutyOk (r : List Int) : Prop := r.length = 3 ∧ -(2 ^ 64) < r.getD 2 0 ∧ r.getD 2 0 < 2 ^ 64
def IntsAt (H : Hp) (b : Addr) (ts : List Int) : Prop := H b = some (.lst (ts.map V.int))
theorem ints_at {os : List Int} {i : Nat} {x : V} (e : (os.map V.int)[i]? = some x) : ∃ v, x = .int v ∧ os[i]? = some v := by
  rw [List.getElem?_map] at e
  cases q : os[i]? with
  | none => rw [q] at e; cases e
  | some v => rw [q] at e; exact ⟨v, (Option.some.inj e).symm, rfl⟩
theorem atI_ints {os : List Int} {r : Int} {i : Nat} (hr : r = (i : Int)) (h : i < os.length) : atI (os.map V.int) r = some (.int os[i]) := by
  subst hr
  exact atI_nat (by rw [List.getElem?_map, List.getElem?_eq_getElem h]; rfl)
def spChkTaken (cT : Addr) : Sp := fun vs H Q E => ∃ (a b : Addr) (rs : List (List Int)) (ts : List Int), vs = [.ref a, .ref b] ∧ Rows H a rs ∧ (∀ r ∈ rs, r.length = 3) ∧ IntsAt H b ts ∧ rs.length ≤ 100 ∧ ts.length ≤ 100 ∧
  (¬ TakenOk rs ts → ∀ H', Same H H' → E (.ref cT) none H') ∧ (TakenOk rs ts → ∀ l H', H l = none → Same H H' → IntsAt H' l ts → Q (.ref l) H')
def spRefund (cT : Addr) : Sp := fun vs H Q E => ∃ (a b : Addr) (rs : List (List Int)) (ts : List Int), vs = [.ref a, .ref b] ∧ Rows H a rs ∧ (∀ r ∈ rs, dutyOk r) ∧ IntsAt H b ts ∧ rs.length ≤ 100 ∧ ts.length ≤ 100 ∧
  (¬ TakenOk rs ts → ∀ H', Same H H' → E (.ref cT) none H') ∧ (TakenOk rs ts → ∀ H', Same H H' → Q (.int (refundOf rs ts)) H')
def spValue : Sp := fun vs H Q _ => ∃ (a b : Addr) (rs : List (List Int)) (ts : List Int), vs = [.ref a, .ref b] ∧ Rows H a rs ∧ (∀ r ∈ rs, dutyOk r) ∧ IntsAt H b ts ∧ rs.length ≤ 100 ∧ ts.length = rs.length ∧ ∀ H', Same H H' → Q (.int (refundOf rs ts)) H'
theorem eqV_int (v : Int) : eqV (.int v) (.int v) = true := by simp [eqV]
/-- lists of the same numbers are equal -/
theorem same_ints {K : PySem.W.Frag} {H : Hp} {ts : List Int} : ∀ (j : Nat) x y, (ts.map V.int)[j]? = some x → (ts.map V.int)[j]? = some y → EqB K H 0 x y ((fun _ => true) j) := fun j x y e1 e2 => by
  rw [e1] at e2
  cases e2
  obtain ⟨v, rfl, _⟩ := ints_at e1
  have := EqB.flat (K := K) (H := H) (n := 0) (x := .int v) (y := .int v) rfl rfl
  rw [eqV_int] at this
  exact this
end L2
set_option maxHeartbeats 4000000
namespace L2
open PySem PySem.Spec PySem.W PyProof.Rows
/-! the program's defs: what they promise; classes of errors by their numbers -/
def vbm : List Value := [.type "ValueError", .type "Exception", .type "BaseException", .type "object"]
/-- a def that could raise, called where it doesn't -/
theorem passN {P : Program} {w : World} {X : Cx} : Passes (CXE P w) X E0 := fun _ _ _ _ _ _ _ h => by
  obtain ⟨_, _, _, _, _, _, _, _, h, _⟩ := h
  exact h.elim
abbrev okTerm (t : Int) : Prop := 0 ≤ t ∧ t ≤ 400
abbrev okStr (f l : Int) : Prop := inB f 999 ∧ inB l 999 ∧ f ≤ l
def spTerm (c : Addr) : Sp := fun vs H Q E => ∃ v : Int, vs = [.int v] ∧ (okTerm v → Q .non H) ∧ (¬ okTerm v → E (.ref c) none H)
def spStr (c : Addr) : Sp := fun vs H Q E => ∃ (p : Addr) (a b : Int), vs = [.ref p] ∧ H p = some (.tup [.int a, .int b]) ∧ (okStr a b → Q .non H) ∧ (¬ okStr a b → E (.ref c) none H)
/-- the tests "lo <= v <= hi" of the text -/
theorem chain_lo {lo v hi : Int} {R : Bool → Prop} (h : R (decide (lo ≤ v ∧ v ≤ hi))) : ∃ i j : Int, V.int lo = .int i ∧ V.int v = .int j ∧ ∃ b, V.bl (decide (i ≤ j)) = .bl b ∧ if b = true then ∃ i' j' : Int, V.int v = .int i' ∧ V.int hi = .int j' ∧ ∃ b', V.bl (decide (i' ≤ j')) = .bl b' ∧ R b' else ∃ b', V.bl false = .bl b' ∧ R b' := by
  refine ⟨_, _, rfl, rfl, _, rfl, ?_⟩
  refine ite2 (fun c => ?_) (fun c => ?_)
  · have c1 : lo ≤ v := of_decide_eq_true c
    refine ⟨_, _, rfl, rfl, _, rfl, ?_⟩
    have e : decide (v ≤ hi) = decide (lo ≤ v ∧ v ≤ hi) := by by_cases z : v ≤ hi <;> simp [z, c1]
    rw [e]; exact h
  · have c1 : ¬ lo ≤ v := of_decide_eq_false (Bool.eq_false_iff.mpr c)
    have e : false = decide (lo ≤ v ∧ v ≤ hi) := by simp [c1]
    exact ⟨_, rfl, by rw [e]; exact h⟩
/-- the class for a column -/
def clCol (cl : Nat → Addr) : Nat → Addr
  | 0 => cl 1
  | 1 => cl 3
  | _ => cl 4
/-! what goes out against a stretch -/
def goesB (tm f l : Int) (r : List Int) : Bool := decide (f ≤ r.getD 0 0 ∧ r.getD 0 0 ≤ l + tm)
def goingOf (rs : List (List Int)) (tm f l : Int) : Int := ((rs.filter (goesB tm f l)).map fun r => r.getD 1 0).sum
/-- one more row is looked at -/
theorem filter_take {α : Type} {rs : List α} {i : Nat} {r : α} (p : α → Bool) (e : rs[i]? = some r) : (rs.take (i + 1)).filter p = (rs.take i).filter p ++ if p r = true then [r] else [] := by
  obtain ⟨hi, e'⟩ := List.getElem?_eq_some_iff.mp e
  rw [List.take_succ_eq_append_getElem hi, List.filter_append, e']
  congr 1
  by_cases z : p r = true
  · rw [if_pos z, List.filter_cons_of_pos z]; rfl
  · rw [if_neg z, List.filter_cons_of_neg z]; rfl
def spGoing : Sp := fun vs H Q _ => ∃ (a p : Addr) (tm f l : Int) (rs : List (List Int)), vs = [.ref a, .int tm, .ref p] ∧ Rows H a rs ∧ (∀ r ∈ rs, r.length = 2) ∧ rs.length ≤ 100 ∧ H p = some (.tup [.int f, .int l]) ∧ ∀ H', Same H H' → Q (.int (goingOf rs tm f l)) H'
def spAgainst (cl : Nat → Addr) : Sp := fun vs H Q E => ∃ (a p : Addr) (tm f l : Int) (rs : List (List Int)), vs = [.ref a, .int tm, .ref p] ∧ Rows H a rs ∧ (∀ r ∈ rs, r.length = 2) ∧ H p = some (.tup [.int f, .int l]) ∧
  (30 < rs.length → E (.ref (cl 5)) none H) ∧ (rs.length ≤ 30 → ∀ j, rowsBad rs = some j → ∀ H', Same H H' → E (.ref (clCol cl j)) none H') ∧
  (rs.length ≤ 30 → rowsBad rs = none → ∀ H', Same H H' → (¬ okTerm tm → E (.ref (cl 2)) none H') ∧ (okTerm tm → ¬ okStr f l → E (.ref (cl 6)) none H') ∧ (okTerm tm → okStr f l → Q (.int (goingOf rs tm f l)) H'))
/-- own exception classes that are told apart, by their numbers; 0: the one above them -/
structure XcL (K : PySem.W.Frag) (cl : Nat → Addr) (l : List Nat) : Prop where
  x : ∀ i ∈ l, XCls K (cl i)
  m : ∀ i ∈ l, PySem.W.exmOne K (.ref (cl i)) (.ref (cl 0)) = some true
  d : ∀ i ∈ l, ∀ j ∈ l, PySem.W.kitOne K (.ref (cl i)) (.ref (cl j)) = some (decide (i = j))
  v : ∀ i ∈ l, PySem.W.kitOne K (.ref (cl i)) (.type "ValueError") = some true
/-- xs[i], by values -/
def rGetN (K : PySem.W.Frag) : V → V → Hp → VK → Prop := fun x y H Q => ∃ p xs i v, x = .ref p ∧ y = .int i ∧ SqL K H p xs ∧ 0 ≤ i ∧ xs[i.toNat]? = some v ∧ Q v H
theorem get_list {X : Cx} : PGet X (rGetN X.K) := by
  intro pins s σ H o i ov iv Q I ro ri h
  obtain ⟨p, xs, k, v, rfl, rfl, hS, h0, hv, q⟩ := h
  cases ro
  obtain ⟨t, rfl⟩ := ri
  obtain ⟨its, r, pl, hz⟩ := I.list hS
  obtain ⟨w, ew, rw'⟩ := r.get hv
  have hk := (List.getElem?_eq_some_iff.mp hv).1
  have hn := line63
  exact wpAny_getItem_list pl.isList h0 (by omega) (by simpa using ew) ⟨v, H, I, rw', q⟩
/-- of pairs (place, count) the sum for each place -/
def sumAt (ps : List (List Int)) (j : Nat) : Int := ((ps.filter fun r => decide (r.getD 0 0 = (j : Int))).map fun r => r.getD 1 0).sum
def summedOf (n : Nat) (ps : List (List Int)) : List Int := (List.range n).map (sumAt ps)
theorem summed_len {n : Nat} {ps : List (List Int)} : (summedOf n ps).length = n := by unfold summedOf; rw [List.length_map, List.length_range]
theorem summed_nil {n : Nat} : summedOf n [] = List.replicate n 0 := by
  unfold summedOf
  refine List.ext_getElem (by simp) fun i h1 h2 => ?_
  rw [List.getElem_map, List.getElem_replicate]; rfl
theorem sumAt_take {ps : List (List Int)} {i : Nat} {a c : Int} (e : ps[i]? = some [a, c]) (j : Nat) : sumAt (ps.take (i + 1)) j = if a = (j : Int) then sumAt (ps.take i) j + c else sumAt (ps.take i) j := by
  unfold sumAt
  rw [filter_take _ e]
  by_cases z : a = (j : Int)
  · rw [if_pos z, if_pos (by simpa using z), List.map_append, List.sum_append]
    show _ + (c + 0) = _
    omega
  · rw [if_neg z, if_neg (by simpa using z), List.append_nil]
theorem summed_take {n : Nat} {ps : List (List Int)} {i : Nat} {a c : Int} (e : ps[i]? = some [a, c]) (h0 : 0 ≤ a) (h1 : a < (n : Int)) : summedOf n (ps.take (i + 1)) = (summedOf n (ps.take i)).set a.toNat (sumAt (ps.take i) a.toNat + c) := by
  refine List.ext_getElem (by rw [List.length_set, summed_len, summed_len]) fun j h1' h2' => ?_
  have hj : j < n := by rw [summed_len] at h1'; exact h1'
  have g1 : ∀ (qs : List (List Int)) (hh : j < (summedOf n qs).length), (summedOf n qs)[j] = sumAt qs j := fun qs hh => by simp [summedOf]
  rw [g1, List.getElem_set]
  by_cases z : a.toNat = j
  · rw [if_pos z, sumAt_take e, if_pos (by omega), z]
  · rw [if_neg z, g1, sumAt_take e, if_neg (by omega)]
theorem summed_get {n : Nat} {ps : List (List Int)} {a : Int} (h0 : 0 ≤ a) (h1 : a < (n : Int)) : (summedOf n ps)[a.toNat]? = some (sumAt ps a.toNat) := by
  unfold summedOf
  rw [List.getElem?_map, List.getElem?_range (by omega)]; rfl
def spPlace (c : Addr) : Sp := fun vs H Q E => ∃ (a : Addr) (i : Int) (xs : List V), vs = [.ref a, .int i] ∧ H a = some (.lst xs) ∧ ((0 ≤ i ∧ i < (xs.length : Int)) → Q .non H) ∧ (¬ (0 ≤ i ∧ i < (xs.length : Int)) → E (.ref c) none H)
def spSummed : Sp := fun vs H Q _ => ∃ (n : Int) (p : Addr) (ps : List (List Int)), vs = [.int n, .ref p] ∧ 0 ≤ n ∧ n ≤ 100 ∧ Rows H p ps ∧ (∀ r ∈ ps, r.length = 2 ∧ 0 ≤ r.getD 0 0 ∧ r.getD 0 0 < n) ∧ ∀ l H', H l = none → Same H H' → IntsAt H' l (summedOf n.toNat ps) → Q (.ref l) H'
/-- of triples (lot, out, count) the pairs (lot, count) -/
def byLots (ts : List (List Int)) : List (List Int) := ts.map fun r => [r.getD 0 0, r.getD 2 0]
def lotsIn (n : Nat) (ts : List (List Int)) : Prop := ∀ r ∈ ts, 0 ≤ r.getD 0 0 ∧ r.getD 0 0 < (n : Int)
def spCountsOf (cl : Nat → Addr) : Sp := fun vs H Q E => ∃ (a b : Addr) (rs ts : List (List Int)), vs = [.ref a, .ref b] ∧ Rows H a rs ∧ (∀ r ∈ rs, r.length = 3) ∧ Rows H b ts ∧ (∀ r ∈ ts, r.length = 3) ∧ ts.length ≤ 100 ∧
  (30 < rs.length → E (.ref (cl 5)) none H) ∧ (rs.length ≤ 30 → ∀ j, rowsBad rs = some j → ∀ H', Same H H' → E (.ref (clCol cl j)) none H') ∧
  (rs.length ≤ 30 → rowsBad rs = none → (¬ lotsIn rs.length ts → ∀ H', Same H H' → E (.ref (cl 9)) none H') ∧ (lotsIn rs.length ts → ∀ l H', H l = none → Same H H' → IntsAt H' l (summedOf rs.length (byLots ts)) → Q (.ref l) H'))
/-- the tests "lo <= v < hi" of the text -/
theorem chain_lt {lo v hi : Int} {R : Bool → Prop} (h : R (decide (lo ≤ v ∧ v < hi))) : ∃ i j : Int, V.int lo = .int i ∧ V.int v = .int j ∧ ∃ b, V.bl (decide (i ≤ j)) = .bl b ∧ if b = true then ∃ i' j' : Int, V.int v = .int i' ∧ V.int hi = .int j' ∧ ∃ b', V.bl (decide (i' < j')) = .bl b' ∧ R b' else ∃ b', V.bl false = .bl b' ∧ R b' := by
  refine ⟨_, _, rfl, rfl, _, rfl, ?_⟩
  refine ite2 (fun c => ?_) (fun c => ?_)
  · have c1 : lo ≤ v := of_decide_eq_true c
    refine ⟨_, _, rfl, rfl, _, rfl, ?_⟩
    have e : decide (v < hi) = decide (lo ≤ v ∧ v < hi) := by by_cases z : v < hi <;> simp [z, c1]
    rw [e]; exact h
  · have c1 : ¬ lo ≤ v := of_decide_eq_false (Bool.eq_false_iff.mpr c)
    have e : false = decide (lo ≤ v ∧ v < hi) := by simp [c1]
    exact ⟨_, rfl, by rw [e]; exact h⟩
/-- one of a list, drawn -/
def spOne : Sp := fun vs H Q _ => ∃ (a c l : Addr) (xs : List V), vs = [.ref a, .ref l] ∧ DrawAt H a c ∧ H l = some (.lst xs) ∧ l ≠ a ∧ 0 < xs.length ∧ xs.length ≤ 1000 ∧ ∀ (i : Nat) x H', xs[i]? = some x → DrawAt H' a c → KeepBut a H H' → Q x H'
/-- a row put in -/
theorem rows_insert {H : Hp} {a p : Addr} {rs : List (List Int)} {xs : List V} {r : List Int} {k : Nat} (h : Rows H a rs) (hx : H a = some (.lst xs)) (hp : H p = none) : Rows (L2.upd (L2.upd H p (.tup (r.map V.int))) a (.lst (xs.take k ++ .ref p :: xs.drop k))) a (rs.take k ++ r :: rs.drop k) := by
  obtain ⟨ps, h1, h2, h3⟩ := h
  rw [hx] at h1
  cases h1
  refine ⟨ps.take k ++ p :: ps.drop k, by rw [upd_same, List.map_append, List.map_cons, List.map_take, List.map_drop], by simp [h2], fun i q r' e1 e2 => ?_⟩
  have old : ∀ (j : Nat) (q : Addr) (r' : List Int), ps[j]? = some q → rs[j]? = some r' → L2.upd (L2.upd H p (.tup (r.map V.int))) a (.lst ((ps.map V.ref).take k ++ .ref p :: (ps.map V.ref).drop k)) q = some (.tup (r'.map V.int)) := fun j q r' z1 z2 => by
    have := h3 j q r' z1 z2
    rw [upd_ne (ne_of this hx (by intro z; cases z)), upd_ne (ne_of_none this hp)]
    exact this
  have lt : (ps.take k).length = (rs.take k).length := by rw [List.length_take, List.length_take, h2]
  by_cases hi : i < (ps.take k).length
  · rw [List.getElem?_append_left hi] at e1
    rw [List.getElem?_append_left (by omega)] at e2
    have hk : i < k := by rw [List.length_take] at hi; omega
    rw [List.getElem?_take_of_lt hk] at e1 e2
    exact old i q r' e1 e2
  · rw [List.getElem?_append_right (by omega)] at e1
    rw [List.getElem?_append_right (by omega), ← lt] at e2
    cases e : i - (ps.take k).length with
    | zero =>
      rw [e] at e1 e2
      cases e1
      cases e2
      rw [upd_ne (ne_of_none hx hp).symm, upd_same]
    | succ j =>
      rw [e, List.getElem?_cons_succ, List.getElem?_drop] at e1 e2
      exact old _ q r' e1 e2
/-- rows == [], rows != [] -/
theorem cmp_nil {K : PySem.W.Frag} {H : Hp} {l e : Addr} {xs : List V} {neg : Bool} {Q : VK} (hl : H l = some (.lst xs)) (he : H e = some (.lst [])) (q : Q (.bl (neg != decide (xs.length = 0))) H) : rCmpL K neg (.ref l) (.ref e) H Q := by
  refine ⟨l, e, xs, [], rfl, rfl, SqL.of hl, SqL.of he, ?_⟩
  by_cases z : xs.length = 0
  · refine .inr ⟨z, 0, fun _ => true, by decide, fun j x y e1 e2 => (by cases e2), ?_⟩
    rw [z] at q ⊢
    exact q
  · refine .inl ⟨z, ?_⟩
    rw [decide_eq_false z] at q
    cases neg <;> exact q
end L2
set_option maxHeartbeats 4000000
namespace K17
open PySem L2
/-- what the text has of constants and classes -/
structure Txt (K : PySem.W.Frag) (mg : Str → Option Value) (cl : Nat → Addr) : Prop where
  FIRST_DAY : ∃ t, mg "FIRST_DAY" = some (.int 1 t)
  LAST_DAY : ∃ t, mg "LAST_DAY" = some (.int 999 t)
  MOST_TERM : ∃ t, mg "MOST_TERM" = some (.int 400 t)
  MOST_ROWS : ∃ t, mg "MOST_ROWS" = some (.int 30 t)
  MOST_COUNT : ∃ t, mg "MOST_COUNT" = some (.int 10000000000 t)
  MOST_DUTY : ∃ t, mg "MOST_DUTY" = some (.int 1000000 t)
  gCustomsError : mg "CustomsError" = some (.ref (cl 0))
  gBadDay : mg "BadDay" = some (.ref (cl 1))
  gBadTerm : mg "BadTerm" = some (.ref (cl 2))
  gBadCount : mg "BadCount" = some (.ref (cl 3))
  gBadDuty : mg "BadDuty" = some (.ref (cl 4))
  gBadRows : mg "BadRows" = some (.ref (cl 5))
  eBadDay : PySem.W.excIn K (cl 1) vbm "ValueError.__new__" = true
  eBadTerm : PySem.W.excIn K (cl 2) vbm "ValueError.__new__" = true
  eBadCount : PySem.W.excIn K (cl 3) vbm "ValueError.__new__" = true
  eBadDuty : PySem.W.excIn K (cl 4) vbm "ValueError.__new__" = true
  eBadRows : PySem.W.excIn K (cl 5) vbm "ValueError.__new__" = true
abbrev s_is_day : Stmt := top 11
abbrev n_is_day : List Str := ["day"]
abbrev p_is_day : List Str := ["day"]
theorem sc_is_day : FnScope n_is_day p_is_day (defScope s_is_day) := ⟨rfl, rfl, rfl, by decide +kernel, rfl, by decide +kernel, by decide +kernel⟩
abbrev s_check_day : Stmt := top 12
abbrev n_check_day : List Str := ["day"]
abbrev p_check_day : List Str := ["day"]
theorem sc_check_day : FnScope n_check_day p_check_day (defScope s_check_day) := ⟨rfl, rfl, rfl, by decide +kernel, rfl, by decide +kernel, by decide +kernel⟩
abbrev s_check_term : Stmt := top 13
abbrev n_check_term : List Str := ["term"]
abbrev p_check_term : List Str := ["term"]
theorem sc_check_term : FnScope n_check_term p_check_term (defScope s_check_term) := ⟨rfl, rfl, rfl, by decide +kernel, rfl, by decide +kernel, by decide +kernel⟩
abbrev s_check_many : Stmt := top 18
abbrev n_check_many : List Str := ["rows"]
abbrev p_check_many : List Str := ["rows"]
theorem sc_check_many : FnScope n_check_many p_check_many (defScope s_check_many) := ⟨rfl, rfl, rfl, by decide +kernel, rfl, by decide +kernel, by decide +kernel⟩
abbrev s_check_count : Stmt := top 19
abbrev n_check_count : List Str := ["count"]
abbrev p_check_count : List Str := ["count"]
theorem sc_check_count : FnScope n_check_count p_check_count (defScope s_check_count) := ⟨rfl, rfl, rfl, by decide +kernel, rfl, by decide +kernel, by decide +kernel⟩
abbrev s_check_duty : Stmt := top 20
abbrev n_check_duty : List Str := ["duty"]
abbrev p_check_duty : List Str := ["duty"]
theorem sc_check_duty : FnScope n_check_duty p_check_duty (defScope s_check_duty) := ⟨rfl, rfl, rfl, by decide +kernel, rfl, by decide +kernel, by decide +kernel⟩
abbrev s_checked_lots : Stmt := top 21
abbrev n_checked_lots : List Str := ["lots", "told", "day", "count", "duty"]
abbrev p_checked_lots : List Str := ["lots"]
theorem sc_checked_lots : FnScope n_checked_lots p_checked_lots (defScope s_checked_lots) := ⟨rfl, rfl, rfl, by decide +kernel, rfl, by decide +kernel, by decide +kernel⟩
abbrev s_checked_outs : Stmt := top 22
abbrev n_checked_outs : List Str := ["outs", "told", "day", "count"]
abbrev p_checked_outs : List Str := ["outs"]
theorem sc_checked_outs : FnScope n_checked_outs p_checked_outs (defScope s_checked_outs) := ⟨rfl, rfl, rfl, by decide +kernel, rfl, by decide +kernel, by decide +kernel⟩
abbrev s_going : Stmt := top 25
abbrev n_going : List Str := ["outs", "term", "stretch", "first", "last"]
abbrev p_going : List Str := ["outs", "term", "stretch"]
theorem sc_going : FnScope n_going p_going (defScope s_going) := ⟨rfl, rfl, rfl, by decide +kernel, rfl, by decide +kernel, by decide +kernel⟩
section
variable {P : Program} {w : World} {K : PySem.W.Frag} {mg : Str → Option Value} {base : Heap} {f : Addr} {fd : FuncData} {cl : Nat → Addr} (T : Txt K mg cl) (B : Bn mg)
include T B
theorem ok_is_day (F : Fun K "is_day" "is_day" s_is_day f fd) : FnOk P w K mg base CX0 1 f fd p_is_day spIsDay := by
  refine F.ok sc_is_day (fun vs H Q E h => ?_) (fun cdv A outer s H vs Q E hr h => ?_)
  · obtain ⟨d, rfl, _⟩ := h; rfl
  obtain ⟨d, rfl, q⟩ := h
  refine ⟨_, (pss_one (ps_ret (pe_chain op_le op_le (pe_glI rfl T.FIRST_DAY) (pv 0) (pe_glI rfl T.LAST_DAY)))), ?_⟩
  refine ⟨_, rfl, _, _, rfl, rfl, _, rfl, ?_⟩
  refine ite2 (fun c => ?_) (fun c => ?_)
  · have c1 : (1 : Int) ≤ d := of_decide_eq_true c
    refine ⟨_, _, rfl, rfl, ?_⟩
    have e : decide (d ≤ 999) = decide (inB d 999) := by by_cases z : d ≤ 999 <;> simp [z, c1, inB]
    show Q (.bl (decide (d ≤ 999))) H
    rw [e]; exact q
  · have c1 : ¬ (1 : Int) ≤ d := of_decide_eq_false (Bool.eq_false_iff.mpr c)
    have e : false = decide (inB d 999) := by simp [inB, c1]
    show Q (.bl false) H
    rw [e]; exact q
theorem ok_check_day (G_is_day : Cal P w K mg base CX0 1 "is_day" p_is_day spIsDay) (F : Fun K "check_day" "check_day" s_check_day f fd) : FnOk P w K mg base (CXE P w) 2 f fd p_check_day (spIn (cl 1) 999) := by
  refine F.okE sc_check_day (fun vs H Q E h => ?_) (fun cdv A outer s H vs Q E hr h => ?_)
  · obtain ⟨d, rfl, _⟩ := h; rfl
  obtain ⟨d, rfl, q1, q2⟩ := h
  refine ⟨_, pss_one (ps_if (pt_not (pt_truth (pe_cal G_is_day hr rfl pass0 (pa_c (pv 0) pa_nil)) (fun _ => rfl))) (pss_one (ps_raise (E := E) rfl T.gBadDay T.eBadDay PySem.F.excBase_ValueError rfl makesE (pa_c pe_str pa_nil))) pss_nil), ?_⟩
  refine ⟨_, rfl, d, rfl, _, rfl, ?_⟩
  by_cases c : inB d 999
  · rw [decide_eq_true c]
    exact iteF (q1 c)
  · rw [decide_eq_false c]
    exact iteT ⟨by show 1 ≤ sizeLine; decide, q2 c⟩
theorem ok_check_term (F : Fun K "check_term" "check_term" s_check_term f fd) : FnOk P w K mg base (CXE P w) 2 f fd p_check_term (spTerm (cl 2)) := by
  refine F.okE sc_check_term (fun vs H Q E h => ?_) (fun cdv A outer s H vs Q E hr h => ?_)
  · obtain ⟨d, rfl, _⟩ := h; rfl
  obtain ⟨d, rfl, q1, q2⟩ := h
  refine ⟨_, (pss_one (ps_if (pt_not (pt_chain op_le op_le pe_int (pv 0) (pe_glI rfl T.MOST_TERM))) (pss_one (ps_raise (E := E) rfl T.gBadTerm T.eBadTerm PySem.F.excBase_ValueError rfl makesE (pa_c pe_str pa_nil))) pss_nil)), ?_⟩
  refine ⟨_, rfl, ?_⟩
  refine chain_lo (lo := 0) (v := d) (hi := 400) ?_
  by_cases c : okTerm d
  · rw [decide_eq_true c]
    exact iteF (q1 c)
  · rw [decide_eq_false c]
    exact iteT ⟨by show 1 ≤ sizeLine; decide, q2 c⟩
theorem ok_check_many (F : Fun K "check_many" "check_many" s_check_many f fd) : FnOk P w K mg base (CXE P w) 2 f fd p_check_many (spMany (cl 5)) := by
  refine F.okE sc_check_many (fun vs H Q E h => ?_) (fun cdv A outer s H vs Q E hr h => ?_)
  · obtain ⟨a, xs, rfl, _⟩ := h; rfl
  obtain ⟨a, xs, rfl, ha, q1, q2⟩ := h
  refine ⟨_, (pss_one (ps_if (pt_cmpR op_gt (pe_callB call_len_seq rfl B.len PySem.boot_len (pa_c (pv 0) pa_nil)) (pe_glI rfl T.MOST_ROWS) (nomark _)) (pss_one (ps_raise (E := E) rfl T.gBadRows T.eBadRows PySem.F.excBase_ValueError rfl makesE (pa_c pe_str pa_nil))) pss_nil)), ?_⟩
  refine ⟨_, rfl, a, _, rfl, .inl (SqL.of ha), _, _, rfl, rfl, _, rfl, ?_⟩
  by_cases c : (30 : Int) < xs.length
  · rw [decide_eq_true c]
    exact iteT ⟨by show 1 ≤ sizeLine; decide, q2 (by omega)⟩
  · rw [decide_eq_false c]
    exact iteF (q1 (by omega))
theorem ok_check_count (F : Fun K "check_count" "check_count" s_check_count f fd) : FnOk P w K mg base (CXE P w) 2 f fd p_check_count (spIn (cl 3) 10000000000) := by
  refine F.okE sc_check_count (fun vs H Q E h => ?_) (fun cdv A outer s H vs Q E hr h => ?_)
  · obtain ⟨d, rfl, _⟩ := h; rfl
  obtain ⟨d, rfl, q1, q2⟩ := h
  refine ⟨_, (pss_one (ps_if (pt_not (pt_chain op_le op_le pe_int (pv 0) (pe_glI rfl T.MOST_COUNT))) (pss_one (ps_raise (E := E) rfl T.gBadCount T.eBadCount PySem.F.excBase_ValueError rfl makesE (pa_c pe_str pa_nil))) pss_nil)), ?_⟩
  refine ⟨_, rfl, ?_⟩
  refine chain_in (v := d) (hi := 10000000000) ?_
  by_cases c : inB d 10000000000
  · rw [decide_eq_true c]
    exact iteF (q1 c)
  · rw [decide_eq_false c]
    exact iteT ⟨by show 1 ≤ sizeLine; decide, q2 c⟩
theorem ok_check_duty (F : Fun K "check_duty" "check_duty" s_check_duty f fd) : FnOk P w K mg base (CXE P w) 2 f fd p_check_duty (spIn (cl 4) 1000000) := by
  refine F.okE sc_check_duty (fun vs H Q E h => ?_) (fun cdv A outer s H vs Q E hr h => ?_)
  · obtain ⟨d, rfl, _⟩ := h; rfl
  obtain ⟨d, rfl, q1, q2⟩ := h
  refine ⟨_, (pss_one (ps_if (pt_not (pt_chain op_le op_le pe_int (pv 0) (pe_glI rfl T.MOST_DUTY))) (pss_one (ps_raise (E := E) rfl T.gBadDuty T.eBadDuty PySem.F.excBase_ValueError rfl makesE (pa_c pe_str pa_nil))) pss_nil)), ?_⟩
  refine ⟨_, rfl, ?_⟩
  refine chain_in (v := d) (hi := 1000000) ?_
  by_cases c : inB d 1000000
  · rw [decide_eq_true c]
    exact iteF (q1 c)
  · rw [decide_eq_false c]
    exact iteT ⟨by show 1 ≤ sizeLine; decide, q2 c⟩
theorem ok_checked_lots (G_check_many : Cal P w K mg base (CXE P w) 2 "check_many" p_check_many (spMany (cl 5))) (G_check_day : Cal P w K mg base (CXE P w) 2 "check_day" p_check_day (spIn (cl 1) 999)) (G_check_count : Cal P w K mg base (CXE P w) 2 "check_count" p_check_count (spIn (cl 3) 10000000000)) (G_check_duty : Cal P w K mg base (CXE P w) 2 "check_duty" p_check_duty (spIn (cl 4) 1000000)) (F : Fun K "checked_lots" "checked_lots" s_checked_lots f fd) : FnOk P w K mg base (CXE P w) 3 f fd p_checked_lots (spChk (cl 5) (clCol cl) 3) := by
  refine F.okE sc_checked_lots (fun vs H Q E h => ?_) (fun cdv A outer s H vs Q E hr h => ?_)
  · obtain ⟨a, rs, rfl, _⟩ := h; rfl
  obtain ⟨a, rs, rfl, hR, h3, q1, q2, q3⟩ := h
  refine ⟨_, (pss_cons (ps_expr (pe_cal (E := E) G_check_many hr rfl (passE fun _ _ z => z) (pa_c (pv 0) pa_nil)))
    (pss_cons (ps_set (i := 1) sc_checked_lots.nd rfl (Or.inl rfl) (pe_lst pa_nil))
    (pss_cons (ps_for PassesOwn.leaving rfl (pi_list (pv 0)) (pg_tup rfl (pgs_cons (pg_name (i := 2) sc_checked_lots.nd rfl (Or.inl rfl)) (pgs_cons (pg_name (i := 3) sc_checked_lots.nd rfl (Or.inl rfl)) (pgs_cons (pg_name (i := 4) sc_checked_lots.nd rfl (Or.inl rfl)) pgs_nil)))) (pss_cons (ps_expr (pe_cal (E := E) G_check_day hr rfl (passE fun _ _ z => z) (pa_c (pv 2) pa_nil)))
      (pss_cons (ps_expr (pe_cal (E := E) G_check_count hr rfl (passE fun _ _ z => z) (pa_c (pv 3) pa_nil)))
      (pss_cons (ps_expr (pe_cal (E := E) G_check_duty hr rfl (passE fun _ _ z => z) (pa_c (pv 4) pa_nil)))
      (pss_one (ps_expr (pe_bm PySem.F.plainAttrs_list PySem.F.slot_list_append PySem.F.type_list_append mt_append (pv 1) (pa_c (pe_tup (pa_c (pv 2) (pa_c (pv 3) (pa_c (pv 4) pa_nil)))) pa_nil))))))))
    (pss_one (ps_ret (pv 1)))))), ?_⟩
  obtain ⟨xs, ex, exl, exi⟩ := hR.get
  refine ⟨_, rfl, a, xs, rfl, ex, fun c => ?_, fun c => q1 (by omega)⟩
  have c30 : rs.length ≤ 30 := by omega
  refine ⟨by show 0 ≤ sizeLine; decide, fun l hl => ?_⟩
  refine ⟨_, rfl, a, rfl, ⟨xs, SqL.of (by rw [upd_ne (ne_of_none ex hl)]; exact ex)⟩, ?_⟩
  refine for_list (xs := xs) (fun i σ H3 => ∃ o2 o3 o4, σ = [some (.ref a), some (.ref l), o2, o3, o4] ∧ Same H H3 ∧ Rows H3 l (rs.take i) ∧ rowsBad (rs.take i) = none) ⟨_, _, _, rfl, same_new hl _, Rows.nil upd_same, rfl⟩ ?_ ?_ ?_
  · rintro i σ H3 hi ⟨o2, o3, o4, rfl, sm, _⟩
    exact SqL.of (sm _ _ ex)
  · rintro i x σ H3 exi' ⟨o2, o3, o4, rfl, sm, R3, hb⟩
    obtain ⟨p, r, rfl, er, hp⟩ := exi i x exi'
    obtain ⟨d, c, u, rfl⟩ := len3 (h3 r (List.mem_of_getElem? er))
    refine ⟨p, _, rfl, SqT.of (sm _ _ hp), rfl, _, _, rfl, _, _, rfl, _, _, rfl, rfl, ?_⟩
    have bad : ∀ j, rowBad [d, c, u] = some j → E (.ref (clCol cl j)) none H3 := fun j e => q2 c30 j (rowsBad_hit hb er e) H3 sm
    refine ⟨_, rfl, d, rfl, fun c1 => ?_, fun c1 => bad 0 (by simp only [rowBad, if_neg c1])⟩
    refine ⟨_, rfl, c, rfl, fun c2 => ?_, fun c2 => bad 1 (by simp only [rowBad, if_pos c1, if_neg c2])⟩
    refine ⟨_, rfl, u, rfl, fun c3 => ?_, fun c3 => bad 2 (by simp only [rowBad, if_pos c1, if_pos c2, if_neg c3])⟩
    have good : rowBad [d, c, u] = none := by simp only [rowBad, if_pos c1, if_pos c2, if_pos c3]
    obtain ⟨ys, ey, eyl, _⟩ := R3.get
    refine ⟨_, rfl, .inl ⟨rfl, _, SqL.of ey⟩, ?_⟩
    refine ⟨_, rfl, _, rfl, _, rfl, by show 3 ≤ sizeLine; decide, fun t ht => ?_⟩
    refine ⟨l, ys, .ref t, rfl, rfl, by rw [upd_ne (ne_of_none ey ht)]; exact ey, small1000 (by rw [eyl, List.length_take]; omega), ?_⟩
    refine ⟨_, _, _, rfl, (sm.trans (same_new ht _)).young hl, ?_, rowsBad_take hb er good⟩
    rw [← take_next er]
    exact R3.push (r := [d, c, u]) ey ht
  · rintro σ H3 ⟨o2, o3, o4, rfl, sm, R3, hb⟩
    rw [exl, List.take_length] at R3 hb
    exact ⟨_, rfl, q3 c30 hb l H3 hl sm R3⟩
theorem ok_checked_outs (G_check_many : Cal P w K mg base (CXE P w) 2 "check_many" p_check_many (spMany (cl 5))) (G_check_day : Cal P w K mg base (CXE P w) 2 "check_day" p_check_day (spIn (cl 1) 999)) (G_check_count : Cal P w K mg base (CXE P w) 2 "check_count" p_check_count (spIn (cl 3) 10000000000)) (F : Fun K "checked_outs" "checked_outs" s_checked_outs f fd) : FnOk P w K mg base (CXE P w) 3 f fd p_checked_outs (spChk (cl 5) (clCol cl) 2) := by
  refine F.okE sc_checked_outs (fun vs H Q E h => ?_) (fun cdv A outer s H vs Q E hr h => ?_)
  · obtain ⟨a, rs, rfl, _⟩ := h; rfl
  obtain ⟨a, rs, rfl, hR, h3, q1, q2, q3⟩ := h
  refine ⟨_, (pss_cons (ps_expr (pe_cal (E := E) G_check_many hr rfl (passE fun _ _ z => z) (pa_c (pv 0) pa_nil)))
    (pss_cons (ps_set (i := 1) sc_checked_outs.nd rfl (Or.inl rfl) (pe_lst pa_nil))
    (pss_cons (ps_for PassesOwn.leaving rfl (pi_list (pv 0)) (pg_tup rfl (pgs_cons (pg_name (i := 2) sc_checked_outs.nd rfl (Or.inl rfl)) (pgs_cons (pg_name (i := 3) sc_checked_outs.nd rfl (Or.inl rfl)) pgs_nil))) (pss_cons (ps_expr (pe_cal (E := E) G_check_day hr rfl (passE fun _ _ z => z) (pa_c (pv 2) pa_nil)))
      (pss_cons (ps_expr (pe_cal (E := E) G_check_count hr rfl (passE fun _ _ z => z) (pa_c (pv 3) pa_nil)))
      (pss_one (ps_expr (pe_bm PySem.F.plainAttrs_list PySem.F.slot_list_append PySem.F.type_list_append mt_append (pv 1) (pa_c (pe_tup (pa_c (pv 2) (pa_c (pv 3) pa_nil))) pa_nil)))))))
    (pss_one (ps_ret (pv 1)))))), ?_⟩
  obtain ⟨xs, ex, exl, exi⟩ := hR.get
  refine ⟨_, rfl, a, xs, rfl, ex, fun c => ?_, fun c => q1 (by omega)⟩
  have c30 : rs.length ≤ 30 := by omega
  refine ⟨by show 0 ≤ sizeLine; decide, fun l hl => ?_⟩
  refine ⟨_, rfl, a, rfl, ⟨xs, SqL.of (by rw [upd_ne (ne_of_none ex hl)]; exact ex)⟩, ?_⟩
  refine for_list (xs := xs) (fun i σ H3 => ∃ o2 o3, σ = [some (.ref a), some (.ref l), o2, o3] ∧ Same H H3 ∧ Rows H3 l (rs.take i) ∧ rowsBad (rs.take i) = none) ⟨_, _, rfl, same_new hl _, Rows.nil upd_same, rfl⟩ ?_ ?_ ?_
  · rintro i σ H3 hi ⟨o2, o3, rfl, sm, _⟩
    exact SqL.of (sm _ _ ex)
  · rintro i x σ H3 exi' ⟨o2, o3, rfl, sm, R3, hb⟩
    obtain ⟨p, r, rfl, er, hp⟩ := exi i x exi'
    obtain ⟨d, c, rfl⟩ := len2 (h3 r (List.mem_of_getElem? er))
    refine ⟨p, _, rfl, SqT.of (sm _ _ hp), rfl, _, _, rfl, _, _, rfl, rfl, ?_⟩
    have bad : ∀ j, rowBad [d, c] = some j → E (.ref (clCol cl j)) none H3 := fun j e => q2 c30 j (rowsBad_hit hb er e) H3 sm
    refine ⟨_, rfl, d, rfl, fun c1 => ?_, fun c1 => bad 0 (by simp only [rowBad, if_neg c1])⟩
    refine ⟨_, rfl, c, rfl, fun c2 => ?_, fun c2 => bad 1 (by simp only [rowBad, if_pos c1, if_neg c2])⟩
    have good : rowBad [d, c] = none := by simp only [rowBad, if_pos c1, if_pos c2]
    obtain ⟨ys, ey, eyl, _⟩ := R3.get
    refine ⟨_, rfl, .inl ⟨rfl, _, SqL.of ey⟩, ?_⟩
    refine ⟨_, rfl, _, rfl, by show 2 ≤ sizeLine; decide, fun t ht => ?_⟩
    refine ⟨l, ys, .ref t, rfl, rfl, by rw [upd_ne (ne_of_none ey ht)]; exact ey, small1000 (by rw [eyl, List.length_take]; omega), ?_⟩
    refine ⟨_, _, rfl, (sm.trans (same_new ht _)).young hl, ?_, rowsBad_take hb er good⟩
    rw [← take_next er]
    exact R3.push (r := [d, c]) ey ht
  · rintro σ H3 ⟨o2, o3, rfl, sm, R3, hb⟩
    rw [exl, List.take_length] at R3 hb
    exact ⟨_, rfl, q3 c30 hb l H3 hl sm R3⟩
theorem ok_going (F : Fun K "going" "going" s_going f fd) : FnOk P w K mg base CX0 1 f fd p_going spGoing := by
  refine F.ok sc_going (fun vs H Q E h => ?_) (fun cdv A outer s H vs Q E hr h => ?_)
  · obtain ⟨a, p, tm, f, l, rs, rfl, _⟩ := h; rfl
  obtain ⟨a, p, tm, ff, l, rs, rfl, hR, h2, hn, hp, q⟩ := h
  refine ⟨_, (pss_cons (ps_asg (pv 2) (pg_tup rfl (pgs_cons (pg_name (i := 3) sc_going.nd rfl (Or.inr rfl)) (pgs_cons (pg_name (i := 4) sc_going.nd rfl (Or.inr rfl)) pgs_nil))))
    (pss_one (ps_ret (pe_callB (call_sumI rfl) rfl B.sum PyProof.Rows.boot_sum (pa_c (pe_comp (N' := ["day", "count", "first", "last", "term"]) (ix := [none, none, some 3, some 4, some 1]) (g := (gTup K 2 (gCons (gName 0) (gCons (gName 1) gNil)))) (ti := (tTest (tChain (rI0 fun i j => .bl (decide (i ≤ j))) (rI0 fun i j => .bl (decide (i ≤ j))) (tVar 2) (tVar 0) (tOp (rI0 fun i j => .int (i + j)) (tVar 3) (tVar 4))))) (te := (tVar 1)) rfl (comp_scope (N := n_going) (D := defScope s_going) (by decide +kernel)) (pi_list (pv 0)) (fun C s H fp => (pg_tup rfl (pgs_cons (pg_name (i := 0) (show (["day", "count", "first", "last", "term"] : List Str).Nodup by decide +kernel) rfl (Or.inl rfl)) (pgs_cons (pg_name (i := 1) (show (["day", "count", "first", "last", "term"] : List Str).Nodup by decide +kernel) rfl (Or.inl rfl)) pgs_nil)))) (fun C s H fp => (pifs_one (pt_chain op_le op_le (pv 2) (pv 0) (pe_op op_add (pv 3) (pv 4))))) (fun C s H fp => (pv 1))) pa_nil))))), ?_⟩
  obtain ⟨xs, ex, exl, exi⟩ := hR.get
  refine ⟨_, rfl, p, _, rfl, SqT.of hp, rfl, _, _, rfl, _, _, rfl, rfl, ?_⟩
  refine ⟨_, rfl, a, rfl, ⟨xs, SqL.of ex⟩, fun D hD => ⟨fun i m H3 => i + m = xs.length ∧ Same H H3 ∧ H3 D = some (.lst ((((rs.take i).filter (goesB tm ff l)).map fun r => r.getD 1 0).map V.int)), ⟨xs.length, by omega, same_new hD _, upd_same⟩, ?_⟩⟩
  rintro i m H3 ⟨him, s3, hD3⟩
  have ex3 := s3 _ _ ex
  by_cases hi : i < xs.length
  · refine .inr ⟨⟨xs, _, SqL.of ex3, List.getElem?_eq_getElem hi⟩, ?_⟩
    rintro x H' ⟨rfl, hx⟩
    obtain ⟨pr, r, rfl, er, hpr⟩ := exi i x (hx _ (SqL.of ex3))
    obtain ⟨d, cc, rfl⟩ := len2 (h2 r (List.mem_of_getElem? er))
    refine ⟨pr, _, rfl, SqT.of (s3 _ _ hpr), rfl, _, _, rfl, _, _, rfl, rfl, ?_, ?_⟩
    · intro k v e
      match k, e with
      | 0, e => cases e
      | 1, e => cases e
      | 2, e => exact e
      | 3, e => exact e
      | 4, e => exact e
      | k + 5, e => cases e
    · have ft := filter_take (rs := rs) (goesB tm ff l) er
      have gb : goesB tm ff l [d, cc] = decide (ff ≤ d ∧ d ≤ l + tm) := rfl
      refine ⟨_, rfl, _, rfl, _, _, rfl, rfl, _, rfl, ?_⟩
      have yes : (ff ≤ d ∧ d ≤ l + tm) → ∃ zs, H' D = some (.lst zs) ∧ zs.length < sizeLine ∧ ∃ m', m' < m ∧ (i + 1 + m' = xs.length ∧ Same H (L2.upd H' D (.lst (zs ++ [.int cc]))) ∧ L2.upd H' D (.lst (zs ++ [.int cc])) D = some (.lst ((((rs.take (i + 1)).filter (goesB tm ff l)).map fun r => r.getD 1 0).map V.int))) := fun z => by
        refine ⟨_, hD3, small1000 ?_, m - 1, by omega, by omega, s3.young hD, ?_⟩
        · rw [List.length_map, List.length_map]
          have l1 := List.length_filter_le (goesB tm ff l) (rs.take i)
          rw [List.length_take] at l1
          omega
        · rw [upd_same, ft, if_pos (by rw [gb]; exact decide_eq_true z), List.map_append, List.map_append]; rfl
      have no : ¬ (ff ≤ d ∧ d ≤ l + tm) → ∃ m', m' < m ∧ (i + 1 + m' = xs.length ∧ Same H H' ∧ H' D = some (.lst ((((rs.take (i + 1)).filter (goesB tm ff l)).map fun r => r.getD 1 0).map V.int))) := fun z => by
        refine ⟨m - 1, by omega, by omega, s3, ?_⟩
        rw [ft, if_neg (by rw [gb]; intro y; exact z (of_decide_eq_true y)), List.append_nil]
        exact hD3
      by_cases c1 : ff ≤ d
      · rw [decide_eq_true c1]
        refine iteT ⟨_, rfl, _, rfl, _, _, rfl, rfl, _, _, rfl, rfl, _, rfl, ?_⟩
        by_cases c2 : d ≤ l + tm
        · rw [decide_eq_true c2]
          exact iteT ⟨_, rfl, yes ⟨c1, c2⟩⟩
        · rw [decide_eq_false c2]
          exact iteF (no fun z => c2 z.2)
      · rw [decide_eq_false c1]
        exact iteF ⟨_, rfl, iteF (no fun z => c1 z.1)⟩
  · refine .inl ⟨⟨xs, SqL.of ex3, by omega⟩, D, ((rs.take i).filter (goesB tm ff l)).map fun r => r.getD 1 0, rfl, SqL.of hD3, ?_⟩
    have ei : rs.take i = rs := List.take_of_length_le (by omega)
    rw [ei]
    exact q H3 s3
end
end K17
set_option maxHeartbeats 4000000
namespace L2
open PySem PySem.Spec PySem.W PyProof.Rows
section
variable {X : Cx} {a b c d e : Expr} {ta tb tc td te : TE} {pos p2 : Pos}
/-- a op1 b op2 c op3 d, as a test of ints -/
def tChain3 (r r' r'' : R2) (ta tb tc td : TE) : TT := fun σ H Q => ta σ H fun x H1 => tb σ H1 fun y H2 => r x y H2 fun z H3 => ∃ k, z = .bl k ∧
  (if k = true then tc σ H3 fun u H4 => r' y u H4 fun z' H5 => ∃ k', z' = .bl k' ∧ (if k' = true then td σ H5 fun t H6 => r'' u t H6 fun z'' H7 => ∃ k'', z'' = .bl k'' ∧ Q k'' H7 else Q false H5) else Q false H3)
theorem pt_chain3 {op op' op'' : CmpOp} {r r' r'' : R2} (ho : OpR X (compareOp op) r) (ho' : OpR X (compareOp op') r') (ho'' : OpR X (compareOp op'') r'') (ha : PE X a ta) (hb : PE X b tb) (hc : PE X c tc) (hd : PE X d td)
    (hm : lastMarks [op, op', op''] [b, c, d] = false := by with_unfolding_all rfl) : PT X (.Compare a [op, op', op''] [b, c, d] pos) (tChain3 r r' r'' ta tb tc td) := by
  intro pins s σ H Q I h
  refine isTrue_chain (thn (ha pins s σ H _ I h) fun v s1 ⟨x, H1, I1, r1, q1⟩ => test_link (thn (hb pins s1 σ H1 _ I1 q1) fun u s2 ⟨y, H2, I2, r2, q2⟩ => thn (ho pins s2 σ H2 x y v u _ I2 r1 r2 q2) fun d s3 ⟨z, H3, I3, r3, k, e, q3⟩ => ?_)) hm
  subst e; cases r3
  refine wpAny_truthy_bool ?_
  cases k with
  | false => exact ite_ff ⟨H3, I3, q3⟩
  | true =>
    refine ite_tt (test_link (thn (hc pins s3 σ H3 _ I3 q3) fun w' s4 ⟨z', H4, I4, r4, q4⟩ => thn (ho' pins s4 σ H4 y z' u w' _ I4 r2 r4 q4) fun d' s5 ⟨z2, H5, I5, r5, k2, e2, q5⟩ => ?_))
    subst e2; cases r5
    refine wpAny_truthy_bool ?_
    cases k2 with
    | false => exact ite_ff ⟨H5, I5, q5⟩
    | true =>
      refine ite_tt (test_last (thn (hd pins s5 σ H5 _ I5 q5) fun w2 s6 ⟨z3, H6, I6, r6, q6⟩ => thn (ho'' pins s6 σ H6 z' z3 w' w2 _ I6 r4 r6 q6) fun d2 s7 ⟨z4, H7, I7, r7, k3, e3, q7⟩ => ?_))
      subst e3; cases r7
      exact wpAny_truthy_bool ⟨H7, I7, q7⟩
/-- xs[::-1] -/
def tRev (K : PySem.W.Frag) (te : TE) : TE := fun σ H Q => te σ H fun x H1 => ∃ a xs, x = .ref a ∧ SqL K H1 a xs ∧ ∀ p, H1 p = none → Q (.ref p) (upd H1 p (.lst xs.reverse))
theorem Vals.rev {xs : List V} {its : List Value} (r : Vals xs its) : Vals xs.reverse its.reverse := by
  induction r with
  | nil => exact .nil
  | cons h t ih => rw [List.reverse_cons, List.reverse_cons]; exact ih.append (.cons h .nil)
theorem pe_m1 {p1 p2 : Pos} {kk : Nat} : PE X (.UnaryOp .USub (.Constant (.int 1) kk p1) p2) (tC (.int (-1))) := (pe_un un_neg pe_int).weak fun σ H Q q => ⟨1, rfl, q⟩
theorem pe_rev {st : Expr} (he : PE X e te) (hs : PE X st (tC (.int (-1)))) : PE X (.Subscript e (.Slice none none (some st) p2) pos) (tRev X.K te) := by
  intro pins s σ H Q I h
  refine Subscript_ (thn (he pins s σ H _ I h) fun v s1 ⟨x, H1, I1, r1, q1⟩ => ?_)
  obtain ⟨a, xs, rfl, hx, q⟩ := q1
  cases r1
  refine wpAny_Slice ?_
  rw [evalPart_none]
  refine wpAny_pure (wpAny_pure ?_)
  refine thn (hs pins s1 σ H1 (fun v H2 => v = .int (-1) ∧ H2 = H1) I1 ⟨rfl, rfl⟩) fun vs s2 ⟨y, H2, I2, r2, e1, e2⟩ => ?_
  subst e1 e2
  obtain ⟨t, rfl⟩ := r2
  obtain ⟨its, r, ht, hz⟩ := I2.list hx
  have I4 : Inv X pins σ H2 { s2 with heap := s2.heap.push { cls := .type "slice", data := .fields #[.none, .none, .int (-1) t] } } := I2.kept (t' := s2.toks) fun b ob q => Heap.get?_push_of_some _ q
  obtain ⟨its', r', ht', hz'⟩ := I4.list hx
  have hlen := r'.length
  have hsl : Heap.IsSliceOf ({ s2 with heap := s2.heap.push { cls := .type "slice", data := .fields #[.none, .none, .int (-1) t] } } : Shared).heap s2.heap.objs.size .none .none (.int (-1) t) := Heap.IsSliceOf.new ..
  show wpAny (model X.prog X.w) X.A (subscriptTail e (.Slice none none (some st) p2) (.ref a) (.ref s2.heap.objs.size)) (EP X pins σ Q) X.xe { s2 with heap := s2.heap.push { cls := .type "slice", data := .fields #[.none, .none, .int (-1) t] } }
  revert I4 ht' hsl
  generalize s2.heap.objs.size = z
  generalize ({ s2 with heap := s2.heap.push { cls := .type "slice", data := .fields #[.none, .none, .int (-1) t] } } : Shared) = s4
  intro I4 ht' hsl
  refine tail_any (ops := [.ref a, .ref z]) ht'.isList.typeIs slot_list_getitem.lookup (wpAny_getItem_list_slice ht'.isList (st := some (-1)) hsl .none .none (.int _ _) (by decide) ?_ (by rw [List.size_toArray]; omega)) rfl
  rw [krv_pick]
  refine ⟨.ref s4.heap.objs.size, _, I4.laid (t' := s4.toks) (o := .lst xs.reverse) (fun b ob q => Heap.get?_push_of_some _ q) (Nat.le_refl _) ?_, rfl, q _ (I4.hok.fresh (Nat.le_refl _))⟩
  exact ⟨by rw [List.length_reverse]; exact hz', its'.reverse, 0, r'.rev, Heap.get?_push_size _ rfl⟩
end
/-! comprehensions over a list that stays -/
theorem keep_refl {σ₀ : St} : ∀ (k : Nat) v, σ₀[k]? = some (some v) → σ₀[k]? = some (some v) := fun _ _ h => h
theorem keep_set {σ₀ σ : St} {j : Nat} {x : Option V} (h : ∀ (k : Nat) v, σ₀[k]? = some (some v) → σ[k]? = some (some v)) (hj : σ₀[j]? = some none) : ∀ (k : Nat) v, σ₀[k]? = some (some v) → (σ.set j x)[k]? = some (some v) := fun k v e => by
  have : j ≠ k := fun z => by rw [z, e] at hj; cases hj
  rw [List.getElem?_set_ne this]
  exact h k v e
theorem comp_by {K : PySem.W.Frag} {a D : Addr} {xs : List V} {g : TG} {ti : TT} {te : TE} {σ₀ : St} {H1 : Hp} {R : Hp → Prop} (P : Nat → List V → Hp → Prop) (hD : H1 D = none) (hx : H1 a = some (.lst xs)) (hn : xs.length ≤ 1000)
    (st : ∀ i zs H H', P i zs H → (∀ b o, b ≠ D → H b = some o → H' b = some o) → P i zs H') (h0 : P 0 [] H1)
    (step : ∀ i x zs H, xs[i]? = some x → Same H1 H → P i zs H → ∀ (K1 : V → Hp → Prop) (K2 : Hp → Prop), (∀ y H4, Same H H4 → P (i + 1) (zs ++ [y]) H4 → K1 y H4) → (∀ H3, Same H H3 → P (i + 1) zs H3 → K2 H3) →
      g x σ₀ H fun σ2 H2 => (∀ (k : Nat) v, σ₀[k]? = some (some v) → σ2[k]? = some (some v)) ∧ ti σ2 H2 fun b H3 => if b = true then te σ2 H3 K1 else K2 H3)
    (fin : ∀ zs H, Same H1 H → P xs.length zs H → zs.length ≤ xs.length → H D = some (.lst zs) → R H) :
    ∃ W : Nat → Nat → Hp → Prop, (∃ m, W 0 m (upd H1 D (.lst []))) ∧ ∀ i m H, W i m H → ((Itl K a).stop i H ∧ R H) ∨ ((Itl K a).go i H ∧ ∀ x H', (Itl K a).yld i H x H' → g x σ₀ H' fun σ2 H2 => (∀ (k : Nat) v, σ₀[k]? = some (some v) → σ2[k]? = some (some v)) ∧ ti σ2 H2 fun b H3 =>
      if b = true then te σ2 H3 fun y H4 => ∃ zs, H4 D = some (.lst zs) ∧ zs.length < sizeLine ∧ ∃ m', m' < m ∧ W (i + 1) m' (upd H4 D (.lst (zs ++ [y]))) else ∃ m', m' < m ∧ W (i + 1) m' H3) := by
  refine ⟨fun i m H => i + m = xs.length ∧ Same H1 H ∧ ∃ zs, H D = some (.lst zs) ∧ zs.length ≤ i ∧ P i zs H, ⟨xs.length, by omega, same_new hD _, [], upd_same, Nat.le_refl _, st _ _ _ _ h0 fun b o hb e => by rw [upd_ne hb]; exact e⟩, ?_⟩
  rintro i m H ⟨him, s1, zs, hz, hl, hp⟩
  have ex := s1 _ _ hx
  by_cases hi : i < xs.length
  · refine .inr ⟨⟨xs, _, SqL.of ex, List.getElem?_eq_getElem hi⟩, ?_⟩
    rintro x H' ⟨rfl, hy⟩
    refine step i x zs H' (hy _ (SqL.of ex)) s1 hp _ _ (fun y H4 s4 p4 => ⟨zs, s4 _ _ hz, small1000 (by omega), m - 1, by omega, by omega, (s1.trans s4).young hD, zs ++ [y], upd_same, by rw [List.length_append, List.length_singleton]; omega, st _ _ _ _ p4 fun b o hb e => by rw [upd_ne hb]; exact e⟩) fun H3 s3 p3 => ⟨m - 1, by omega, by omega, s1.trans s3, zs, s3 _ _ hz, by omega, p3⟩
  · have e : i = xs.length := by omega
    subst e
    exact .inl ⟨⟨xs, SqL.of ex, Nat.le_refl _⟩, fin zs H s1 hp hl hz⟩
/-! values that are tuples of numbers -/
def Tups (H : Hp) (xs : List V) (rs : List (List Int)) : Prop := xs.length = rs.length ∧ ∀ (i : Nat) x r, xs[i]? = some x → rs[i]? = some r → ∃ p, x = .ref p ∧ H p = some (.tup (r.map V.int))
theorem Tups.nil {H : Hp} : Tups H [] [] := ⟨rfl, fun i x r e => by cases e⟩
theorem Tups.one {H : Hp} {p : Addr} {r : List Int} (h : H p = some (.tup (r.map V.int))) : Tups H [.ref p] [r] := ⟨rfl, fun i x r' e1 e2 => by
  match i, e1, e2 with
  | 0, e1, e2 => cases e1; cases e2; exact ⟨p, rfl, h⟩
  | i + 1, e1, _ => cases e1⟩
theorem Tups.append {H : Hp} {xs ys : List V} {rs ts : List (List Int)} (h : Tups H xs rs) (h' : Tups H ys ts) : Tups H (xs ++ ys) (rs ++ ts) := by
  refine ⟨by rw [List.length_append, List.length_append, h.1, h'.1], fun i x r e1 e2 => ?_⟩
  by_cases hi : i < xs.length
  · rw [List.getElem?_append_left hi] at e1
    rw [List.getElem?_append_left (by rw [← h.1]; exact hi)] at e2
    exact h.2 i x r e1 e2
  · rw [List.getElem?_append_right (by omega)] at e1
    rw [List.getElem?_append_right (by rw [← h.1]; omega), ← h.1] at e2
    exact h'.2 _ x r e1 e2
theorem Tups.take {H : Hp} {xs : List V} {rs : List (List Int)} (h : Tups H xs rs) (n : Nat) : Tups H (xs.take n) (rs.take n) := by
  refine ⟨by rw [List.length_take, List.length_take, h.1], fun i x r e1 e2 => ?_⟩
  have hi : i < n := by have := (List.getElem?_eq_some_iff.mp e1).1; rw [List.length_take] at this; omega
  rw [List.getElem?_take_of_lt hi] at e1 e2
  exact h.2 i x r e1 e2
theorem Tups.drop {H : Hp} {xs : List V} {rs : List (List Int)} (h : Tups H xs rs) (n : Nat) : Tups H (xs.drop n) (rs.drop n) := by
  refine ⟨by rw [List.length_drop, List.length_drop, h.1], fun i x r e1 e2 => ?_⟩
  rw [List.getElem?_drop] at e1 e2
  exact h.2 _ x r e1 e2
theorem Tups.reverse {H : Hp} {xs : List V} {rs : List (List Int)} (h : Tups H xs rs) : Tups H xs.reverse rs.reverse := by
  refine ⟨by rw [List.length_reverse, List.length_reverse, h.1], fun i x r e1 e2 => ?_⟩
  have hi : i < xs.length := by have := (List.getElem?_eq_some_iff.mp e1).1; rw [List.length_reverse] at this; exact this
  rw [List.getElem?_reverse hi] at e1
  rw [List.getElem?_reverse (by rw [← h.1]; exact hi), ← h.1] at e2
  exact h.2 _ x r e1 e2
theorem Tups.keep {H H' : Hp} {xs : List V} {rs : List (List Int)} (h : Tups H xs rs) (k : ∀ (p : Addr) (z : List V), H p = some (.tup z) → H' p = some (.tup z)) : Tups H' xs rs := ⟨h.1, fun i x r e1 e2 => by
  obtain ⟨p, e, hp⟩ := h.2 i x r e1 e2
  exact ⟨p, e, k _ _ hp⟩⟩
theorem Tups.same {H H' : Hp} {xs : List V} {rs : List (List Int)} (h : Tups H xs rs) (s : Same H H') : Tups H' xs rs := h.keep fun _ _ e => s _ _ e
/-- but one object that is no tuple -/
theorem Tups.but {H H' : Hp} {D : Addr} {ys xs : List V} {rs : List (List Int)} (h : Tups H xs rs) (hD : H D = some (.lst ys)) (k : ∀ b o, b ≠ D → H b = some o → H' b = some o) : Tups H' xs rs := h.keep fun p z e => k _ _ (ne_of e hD (by intro z; cases z)) e
theorem Tups.draw {H H' : Hp} {a c : Addr} {xs : List V} {rs : List (List Int)} (h : Tups H xs rs) (d : DrawAt H a c) (k : KeepBut a H H') : Tups H' xs rs := h.keep fun p z e => k _ _ (d.neT e) e
theorem Tups.at {H : Hp} {xs : List V} {rs : List (List Int)} (h : Tups H xs rs) {i : Nat} {x : V} (e : xs[i]? = some x) : ∃ p r, x = .ref p ∧ rs[i]? = some r ∧ H p = some (.tup (r.map V.int)) := by
  have hi := (List.getElem?_eq_some_iff.mp e).1
  have hr : rs[i]? = some (rs[i]'(by rw [← h.1]; exact hi)) := List.getElem?_eq_getElem (by rw [← h.1]; exact hi)
  obtain ⟨p, e', hp⟩ := h.2 i x _ e hr
  exact ⟨p, _, e', hr, hp⟩
theorem Tups.rows {H : Hp} {a : Addr} {xs : List V} {rs : List (List Int)} (h : Tups H xs rs) (ha : H a = some (.lst xs)) : Rows H a rs := by
  obtain ⟨ps, e⟩ : ∃ ps : List Addr, xs = ps.map V.ref := by
    have : ∀ (xs : List V) (rs : List (List Int)), Tups H xs rs → ∃ ps : List Addr, xs = ps.map V.ref := by
      intro xs
      induction xs with
      | nil => exact fun _ _ => ⟨[], rfl⟩
      | cons x r ih =>
        intro rs h
        obtain ⟨p, _, e, _⟩ := h.at (i := 0) rfl
        obtain ⟨ps, e'⟩ := ih (rs.drop 1) (by simpa using h.drop 1)
        exact ⟨p :: ps, by rw [e, e']; rfl⟩
    exact this xs rs h
  subst e
  refine ⟨ps, ha, by rw [← h.1, List.length_map], fun i p r e1 e2 => ?_⟩
  obtain ⟨q, e, hq⟩ := h.2 i (.ref p) r (by rw [List.getElem?_map, e1]; rfl) e2
  cases e
  exact hq
theorem Rows.tups {H : Hp} {a : Addr} {rs : List (List Int)} (h : Rows H a rs) : ∃ xs, H a = some (.lst xs) ∧ Tups H xs rs := by
  obtain ⟨ps, h1, h2, h3⟩ := h
  refine ⟨_, h1, by rw [List.length_map, h2], fun i x r e1 e2 => ?_⟩
  rw [List.getElem?_map] at e1
  cases q : ps[i]? with
  | none => rw [q] at e1; cases e1
  | some p => rw [q] at e1; cases e1; exact ⟨p, rfl, h3 i p r q e2⟩
theorem getElem_next {α : Type} {rs : List α} {i : Nat} {r : α} (e : rs[i]? = some r) : rs.take (i + 1) = rs.take i ++ [r] := by
  obtain ⟨hi, e'⟩ := List.getElem?_eq_some_iff.mp e
  rw [List.take_succ_eq_append_getElem hi, e']
theorem Tups.cut {H : Hp} {xs : List V} {rs : List (List Int)} (h : Tups H xs rs) (lo hi : Option Int) : ∃ rs', Tups H (cutV xs lo hi) rs' ∧ rs'.length ≤ rs.length ∧ ∀ r ∈ rs', r ∈ rs := by
  unfold cutV
  refine ⟨_, (h.drop _).take _, ?_, fun r hr => List.mem_of_mem_drop (List.mem_of_mem_take hr)⟩
  rw [List.length_take, List.length_drop]
  omega
/-- a list of the same items is equal to it -/
theorem Tups.eqB {K : PySem.W.Frag} {H : Hp} {a b : Addr} {xs : List V} {rs : List (List Int)} (h : Tups H xs rs) (ha : H a = some (.lst xs)) (hb : H b = some (.lst xs)) (n : a ≠ b) : EqB K H 1 (.ref a) (.ref b) true := by
  have si : ∀ (j : Nat) x y, xs[j]? = some x → xs[j]? = some y → EqB K H 0 x y ((fun _ => true) j) := fun j x y e1 e2 => by
    rw [e1] at e2
    cases e2
    obtain ⟨p, r, rfl, _⟩ := h.at e1
    exact .same
  have := EqB.lst (K := K) (n := 0) (fun _ => true) n rfl (SqL.of ha) (SqL.of hb) si
  rw [all_true] at this
  exact this
/-! what is refused of lots, outs and a term: the class's number -/
def colNo : Nat → Nat
  | 0 => 1
  | 1 => 3
  | _ => 4
theorem clCol_no (cl : Nat → Addr) (j : Nat) : clCol cl j = cl (colNo j) := by
  match j with
  | 0 => rfl
  | 1 => rfl
  | j + 2 => rfl
def rowsNo (rs : List (List Int)) : Option Nat := if 30 < rs.length then some 5 else (rowsBad rs).map colNo
def bothNo (rs os : List (List Int)) (tm : Int) : Option Nat := match rowsNo rs with
  | some n => some n
  | none => match rowsNo os with
    | some n => some n
    | none => if okTerm tm then none else some 2
theorem rowsNo_none {rs : List (List Int)} (h : rowsNo rs = none) : rs.length ≤ 30 ∧ rowsBad rs = none := by
  unfold rowsNo at h
  split at h
  · cases h
  · refine ⟨by omega, ?_⟩
    cases e : rowsBad rs with
    | none => rfl
    | some j => rw [e] at h; cases h
theorem rowsNo_many {rs : List (List Int)} (h : 30 < rs.length) : rowsNo rs = some 5 := by unfold rowsNo; rw [if_pos h]
theorem rowsNo_bad {rs : List (List Int)} {j : Nat} (h : rs.length ≤ 30) (e : rowsBad rs = some j) : rowsNo rs = some (colNo j) := by unfold rowsNo; rw [if_neg (by omega), e]; rfl
theorem rowsNo_ok {rs : List (List Int)} (h : rs.length ≤ 30) (e : rowsBad rs = none) : rowsNo rs = none := by unfold rowsNo; rw [if_neg (by omega), e]; rfl
theorem bothNo_lots {rs os : List (List Int)} {tm : Int} {n : Nat} (h : rowsNo rs = some n) : bothNo rs os tm = some n := by unfold bothNo; rw [h]
theorem bothNo_outs {rs os : List (List Int)} {tm : Int} {n : Nat} (h : rowsNo rs = none) (h' : rowsNo os = some n) : bothNo rs os tm = some n := by unfold bothNo; rw [h, h']
theorem bothNo_term {rs os : List (List Int)} {tm : Int} (h : rowsNo rs = none) (h' : rowsNo os = none) : bothNo rs os tm = if okTerm tm then none else some 2 := by unfold bothNo; rw [h, h']
def spBoth (cl : Nat → Addr) : Sp := fun vs H Q E => ∃ (a b : Addr) (tm : Int) (rs os : List (List Int)), vs = [.ref a, .ref b, .int tm] ∧ Rows H a rs ∧ (∀ r ∈ rs, r.length = 3) ∧ Rows H b os ∧ (∀ r ∈ os, r.length = 2) ∧
  (∀ n, bothNo rs os tm = some n → ∀ H', Same H H' → E (.ref (cl n)) none H') ∧ (bothNo rs os tm = none → ∀ t l o H', H t = none → H l = none → H o = none → Same H H' → Rows H' l rs → Rows H' o os → H' t = some (.tup [.ref l, .ref o]) → Q (.ref t) H')
/-! papers -/
def dearB (u : Int) (r : List Int) : Bool := decide (u ≤ r.getD 2 0)
def unitsOf (rs : List (List Int)) : Int := (rs.map fun r => r.getD 1 0).sum
def risingB : Int → List (List Int) → Bool
  | _, [] => true
  | e, r :: rs => decide (e < r.getD 0 0 ∧ r.getD 0 0 ≤ r.getD 1 0 ∧ r.getD 1 0 ≤ 999) && risingB (r.getD 1 0) rs
def withinB (d : Int) (r : List Int) : Bool := decide (r.getD 0 0 ≤ d ∧ d ≤ r.getD 1 0)
def liesB (d : Int) (ss : List (List Int)) : Bool := ss.any (withinB d)
def goneOf (os : List (List Int)) (tm : Int) (ss : List (List Int)) : Int := (ss.map fun r => goingOf os tm (r.getD 0 0) (r.getD 1 0)).sum
/-- the units that a duty and stretches come to -/
def comeTo (rs os : List (List Int)) (tm u : Int) (ss : List (List Int)) : Int := unitsOf ((rs.filter (dearB u)).filter fun r => !liesB (r.getD 0 0) ss) + goneOf os tm ss
def spDear : Sp := fun vs H Q _ => ∃ (a : Addr) (u : Int) (rs : List (List Int)), vs = [.ref a, .int u] ∧ Rows H a rs ∧ (∀ r ∈ rs, r.length = 3) ∧ rs.length ≤ 100 ∧ ∀ l H', H l = none → Same H H' → Rows H' l (rs.filter (dearB u)) → Q (.ref l) H'
def spUnits : Sp := fun vs H Q _ => ∃ (a : Addr) (rs : List (List Int)), vs = [.ref a] ∧ Rows H a rs ∧ (∀ r ∈ rs, r.length = 3) ∧ rs.length ≤ 100 ∧ ∀ H', Same H H' → Q (.int (unitsOf rs)) H'
def spRising : Sp := fun vs H Q _ => ∃ (a : Addr) (ss : List (List Int)), vs = [.ref a] ∧ Rows H a ss ∧ (∀ r ∈ ss, r.length = 2) ∧ Q (.bl (risingB 0 ss)) H
def spLies : Sp := fun vs H Q _ => ∃ (d : Int) (a : Addr) (ss : List (List Int)), vs = [.int d, .ref a] ∧ Rows H a ss ∧ (∀ r ∈ ss, r.length = 2) ∧ ss.length ≤ 100 ∧ ∀ H', Same H H' → Q (.bl (liesB d ss)) H'
def spGood (cl : Nat → Addr) : Sp := fun vs H Q E => ∃ (a b p s : Addr) (tm u n : Int) (rs os ss : List (List Int)), vs = [.ref a, .ref b, .int tm, .ref p] ∧ Rows H a rs ∧ (∀ r ∈ rs, r.length = 3) ∧ Rows H b os ∧ (∀ r ∈ os, r.length = 2) ∧ H p = some (.tup [.int u, .int n, .ref s]) ∧ Rows H s ss ∧ (∀ r ∈ ss, r.length = 2) ∧ ss.length ≤ 100 ∧
  (∀ n, bothNo rs os tm = some n → ∀ H', Same H H' → E (.ref (cl n)) none H') ∧ (bothNo rs os tm = none → ∀ H', Same H H' → Q (.bl (risingB 0 ss && decide (n = comeTo rs os tm u ss))) H')
end L2
set_option maxHeartbeats 4000000
namespace K17
open PySem L2
abbrev s_checked_both : Stmt := top 23
abbrev n_checked_both : List Str := ["lots", "outs", "term", "goods", "gone"]
abbrev p_checked_both : List Str := ["lots", "outs", "term"]
theorem sc_checked_both : FnScope n_checked_both p_checked_both (defScope s_checked_both) := ⟨rfl, rfl, rfl, by decide +kernel, rfl, by decide +kernel, by decide +kernel⟩
abbrev s_dear_ones : Stmt := top 27
abbrev n_dear_ones : List Str := ["lots", "duty"]
abbrev p_dear_ones : List Str := ["lots", "duty"]
theorem sc_dear_ones : FnScope n_dear_ones p_dear_ones (defScope s_dear_ones) := ⟨rfl, rfl, rfl, by decide +kernel, rfl, by decide +kernel, by decide +kernel⟩
abbrev s_units_of : Stmt := top 28
abbrev n_units_of : List Str := ["lots"]
abbrev p_units_of : List Str := ["lots"]
theorem sc_units_of : FnScope n_units_of p_units_of (defScope s_units_of) := ⟨rfl, rfl, rfl, by decide +kernel, rfl, by decide +kernel, by decide +kernel⟩
abbrev s_are_rising : Stmt := top 29
abbrev n_are_rising : List Str := ["stretches", "end", "first", "last"]
abbrev p_are_rising : List Str := ["stretches"]
theorem sc_are_rising : FnScope n_are_rising p_are_rising (defScope s_are_rising) := ⟨rfl, rfl, rfl, by decide +kernel, rfl, by decide +kernel, by decide +kernel⟩
abbrev s_lies_in : Stmt := top 30
abbrev n_lies_in : List Str := ["day", "stretches"]
abbrev p_lies_in : List Str := ["day", "stretches"]
theorem sc_lies_in : FnScope n_lies_in p_lies_in (defScope s_lies_in) := ⟨rfl, rfl, rfl, by decide +kernel, rfl, by decide +kernel, by decide +kernel⟩
abbrev s_good_paper : Stmt := top 31
abbrev n_good_paper : List Str := ["lots", "outs", "term", "paper", "goods", "gone", "duty", "units", "stretches", "outside", "gone_against"]
abbrev p_good_paper : List Str := ["lots", "outs", "term", "paper"]
theorem sc_good_paper : FnScope n_good_paper p_good_paper (defScope s_good_paper) := ⟨rfl, rfl, rfl, by decide +kernel, rfl, by decide +kernel, by decide +kernel⟩
section
variable {P : Program} {w : World} {K : PySem.W.Frag} {mg : Str → Option Value} {base : Heap} {f : Addr} {fd : FuncData} {cl : Nat → Addr} (T : Txt K mg cl) (B : Bn mg)
include T B
theorem ok_checked_both (G_checked_lots : Cal P w K mg base (CXE P w) 3 "checked_lots" p_checked_lots (spChk (cl 5) (clCol cl) 3)) (G_checked_outs : Cal P w K mg base (CXE P w) 3 "checked_outs" p_checked_outs (spChk (cl 5) (clCol cl) 2)) (G_check_term : Cal P w K mg base (CXE P w) 2 "check_term" p_check_term (spTerm (cl 2))) (F : Fun K "checked_both" "checked_both" s_checked_both f fd) : FnOk P w K mg base (CXE P w) 4 f fd p_checked_both (spBoth cl) := by
  refine F.okE sc_checked_both (fun vs H Q E h => ?_) (fun cdv A outer s H vs Q E hr h => ?_)
  · obtain ⟨a, b, tm, rs, os, rfl, _⟩ := h; rfl
  obtain ⟨a, b, tm, rs, os, rfl, hR, h3, hO, h2, q1, q2⟩ := h
  refine ⟨_, (pss_cons (ps_set (i := 3) sc_checked_both.nd rfl (Or.inl rfl) (pe_cal (E := E) G_checked_lots hr rfl (passE fun _ _ z => z) (pa_c (pv 0) pa_nil)))
    (pss_cons (ps_set (i := 4) sc_checked_both.nd rfl (Or.inl rfl) (pe_cal (E := E) G_checked_outs hr rfl (passE fun _ _ z => z) (pa_c (pv 1) pa_nil)))
    (pss_cons (ps_expr (pe_cal (E := E) G_check_term hr rfl (passE fun _ _ z => z) (pa_c (pv 2) pa_nil)))
    (pss_one (ps_ret (pe_tup (pa_c (pv 3) (pa_c (pv 4) pa_nil)))))))), ?_⟩
  refine ⟨_, rfl, a, rs, rfl, hR, h3, fun c => q1 5 (bothNo_lots (rowsNo_many c)) H (Same.refl H), fun c j e H' sm => by rw [clCol_no]; exact q1 _ (bothNo_lots (rowsNo_bad c e)) H' sm, fun rn rb l H1 hl s1 R1 => ?_⟩
  have r0 := rowsNo_ok rn rb
  refine ⟨_, rfl, b, os, rfl, hO.same s1, h2, fun c => q1 5 (bothNo_outs r0 (rowsNo_many c)) H1 s1, fun c j e H' sm => by rw [clCol_no]; exact q1 _ (bothNo_outs r0 (rowsNo_bad c e)) H' (s1.trans sm), fun on ob o H2 ho s2 R2 => ?_⟩
  have o0 := rowsNo_ok on ob
  have bt := bothNo_term (tm := tm) r0 o0
  have s12 := s1.trans s2
  refine ⟨_, rfl, tm, rfl, fun c => ?_, fun c => q1 2 (by rw [bt, if_neg c]) H2 s12⟩
  rw [if_pos c] at bt
  refine ⟨_, rfl, _, rfl, by show 2 ≤ sizeLine; decide, fun t ht => ?_⟩
  have s3 := same_new (H := H2) ht (.tup [.ref l, .ref o])
  exact q2 bt t l o _ (s12.free ht) hl (s1.free ho) (s12.trans s3) ((R1.same s2).same s3) (R2.same s3) upd_same
theorem ok_dear_ones (F : Fun K "dear_ones" "dear_ones" s_dear_ones f fd) : FnOk P w K mg base CX0 1 f fd p_dear_ones spDear := by
  refine F.ok sc_dear_ones (fun vs H Q E h => ?_) (fun cdv A outer s H vs Q E hr h => ?_)
  · obtain ⟨a, u, rs, rfl, _⟩ := h; rfl
  obtain ⟨a, u, rs, rfl, hR, h3, hn, q⟩ := h
  refine ⟨_, (pss_one (ps_ret (pe_comp (N' := ["lot", "duty"]) (ix := [none, some 1]) (g := (gName 0)) (ti := (tTest (tOp (rI0 fun i j => .bl (decide (j ≤ i))) (tOp (rIxT K) (tVar 0) (tC (.int 2))) (tVar 1)))) (te := (tVar 0)) rfl (comp_scope (N := n_dear_ones) (D := defScope s_dear_ones) (by decide +kernel)) (pi_list (pv 0)) (fun C s H fp => (pg_name (i := 0) (show (["lot", "duty"] : List Str).Nodup by decide +kernel) rfl (Or.inl rfl))) (fun C s H fp => (pifs_one (pt_cmpR op_ge (pe_ix ix_tup (pv 0) pe_int (fun _ _ => rfl)) (pv 1) (nomark _)))) (fun C s H fp => (pv 0))))), ?_⟩
  obtain ⟨xs, ex, ht⟩ := hR.tups
  refine ⟨_, rfl, a, rfl, ⟨xs, SqL.of ex⟩, fun D hD => ?_⟩
  refine comp_by (fun i zs H' => (∀ (p : Addr) (z : List V), H p = some (.tup z) → H' p = some (.tup z)) ∧ Tups H zs ((rs.take i).filter (dearB u))) hD ex (by rw [ht.1]; omega) (fun i zs H1 H2 h k => ⟨fun p z e => k _ _ (ne_of_none e hD) (h.1 p z e), h.2⟩) ⟨fun _ _ e => e, Tups.nil⟩ ?_ ?_
  · rintro i x zs H1 ei s1 ⟨k1, ht1⟩ K1 K2 q1 q2
    obtain ⟨p, r, rfl, er, hp⟩ := ht.at ei
    obtain ⟨d, c, v, rfl⟩ := len3 (h3 r (List.mem_of_getElem? er))
    have ft := filter_take (rs := rs) (dearB u) er
    refine ⟨keep_set keep_refl rfl, ?_⟩
    refine ⟨_, rfl, p, _, _, .int v, rfl, rfl, SqT.of (s1 _ _ hp), rfl, _, rfl, _, _, rfl, rfl, _, rfl, ?_⟩
    by_cases c1 : u ≤ v
    · rw [decide_eq_true c1]
      refine iteT ⟨_, rfl, q1 _ _ (Same.refl _) ⟨k1, ?_⟩⟩
      rw [ft, if_pos (show dearB u [d, c, v] = true from decide_eq_true c1)]
      exact ht1.append (Tups.one hp)
    · rw [decide_eq_false c1]
      refine iteF (q2 _ (Same.refl _) ⟨k1, ?_⟩)
      rw [ft, if_neg (show ¬ dearB u [d, c, v] = true from fun z => c1 (of_decide_eq_true z)), List.append_nil]
      exact ht1
  · rintro zs H1 s1 ⟨k1, ht1⟩ hl hz
    rw [ht.1, List.take_length] at ht1
    exact q D H1 hD s1 ((ht1.keep k1).rows hz)
theorem ok_units_of (F : Fun K "units_of" "units_of" s_units_of f fd) : FnOk P w K mg base CX0 1 f fd p_units_of spUnits := by
  refine F.ok sc_units_of (fun vs H Q E h => ?_) (fun cdv A outer s H vs Q E hr h => ?_)
  · obtain ⟨a, rs, rfl, _⟩ := h; rfl
  obtain ⟨a, rs, rfl, hR, h3, hn, q⟩ := h
  refine ⟨_, (pss_one (ps_ret (pe_callB (call_sumI rfl) rfl B.sum PyProof.Rows.boot_sum (pa_c (pe_comp (N' := ["day", "count", "duty"]) (ix := [none, none, none]) (g := (gTup K 3 (gCons (gName 0) (gCons (gName 1) (gCons (gName 2) gNil))))) (ti := tIf0) (te := (tVar 1)) rfl (comp_scope (N := n_units_of) (D := defScope s_units_of) (by decide +kernel)) (pi_list (pv 0)) (fun C s H fp => (pg_tup rfl (pgs_cons (pg_name (i := 0) (show (["day", "count", "duty"] : List Str).Nodup by decide +kernel) rfl (Or.inl rfl)) (pgs_cons (pg_name (i := 1) (show (["day", "count", "duty"] : List Str).Nodup by decide +kernel) rfl (Or.inl rfl)) (pgs_cons (pg_name (i := 2) (show (["day", "count", "duty"] : List Str).Nodup by decide +kernel) rfl (Or.inl rfl)) pgs_nil))))) (fun C s H fp => pifs_nil) (fun C s H fp => (pv 1))) pa_nil)))), ?_⟩
  obtain ⟨xs, ex, ht⟩ := hR.tups
  refine ⟨_, rfl, a, rfl, ⟨xs, SqL.of ex⟩, fun D hD => ?_⟩
  refine comp_by (fun i zs _ => zs = ((rs.take i).map fun r => r.getD 1 0).map V.int) hD ex (by rw [ht.1]; omega) (fun i zs H1 H2 h k => h) rfl ?_ ?_
  · rintro i x zs H1 ei s1 rfl K1 K2 q1 q2
    obtain ⟨p, r, rfl, er, hp⟩ := ht.at ei
    obtain ⟨d, c, v, rfl⟩ := len3 (h3 r (List.mem_of_getElem? er))
    refine ⟨p, _, rfl, SqT.of (s1 _ _ hp), rfl, _, _, rfl, _, _, rfl, _, _, rfl, rfl, keep_set (keep_set (keep_set keep_refl rfl) rfl) rfl, ?_⟩
    refine ⟨_, rfl, q1 _ _ (Same.refl _) ?_⟩
    rw [getElem_next er, List.map_append, List.map_append]; rfl
  · rintro zs H1 s1 rfl hl hz
    rw [ht.1, List.take_length] at hz
    exact ⟨D, _, rfl, SqL.of hz, q H1 s1⟩
theorem ok_are_rising (F : Fun K "are_rising" "are_rising" s_are_rising f fd) : FnOk P w K mg base CX0 1 f fd p_are_rising spRising := by
  refine F.ok sc_are_rising (fun vs H Q E h => ?_) (fun cdv A outer s H vs Q E hr h => ?_)
  · obtain ⟨a, ss, rfl, _⟩ := h; rfl
  obtain ⟨a, ss, rfl, hR, h2, q⟩ := h
  refine ⟨_, (pss_cons (ps_set (i := 1) sc_are_rising.nd rfl (Or.inl rfl) pe_int)
    (pss_cons (ps_for PassesOwn.never rfl (pi_list (pv 0)) (pg_tup rfl (pgs_cons (pg_name (i := 2) sc_are_rising.nd rfl (Or.inl rfl)) (pgs_cons (pg_name (i := 3) sc_are_rising.nd rfl (Or.inl rfl)) pgs_nil))) (pss_cons (ps_if (pt_not (pt_chain3 op_lt op_le op_le (pv 1) (pv 2) (pv 3) (pe_glI rfl T.LAST_DAY))) (pss_one (ps_ret pe_bl)) pss_nil)
      (pss_one (ps_set (i := 1) sc_are_rising.nd rfl (Or.inl rfl) (pv 3)))))
    (pss_one (ps_ret pe_bl)))), ?_⟩
  obtain ⟨xs, ex, ht⟩ := hR.tups
  refine ⟨_, rfl, a, rfl, ⟨xs, SqL.of ex⟩, ?_⟩
  refine for_list (xs := xs) (fun i σ H3 => ∃ (e : Int) (o2 o3 : Option V), σ = [some (.ref a), some (.int e), o2, o3] ∧ H3 = H ∧ risingB 0 ss = risingB e (ss.drop i)) ⟨_, _, _, rfl, rfl, rfl⟩ ?_ ?_ ?_
  · rintro i σ H3 hi ⟨e, o2, o3, rfl, rfl, _⟩
    exact SqL.of ex
  · rintro i x σ H3 ei ⟨e, o2, o3, rfl, rfl, hb⟩
    obtain ⟨p, r, rfl, er, hp⟩ := ht.at ei
    obtain ⟨d, c, rfl⟩ := len2 (h2 r (List.mem_of_getElem? er))
    have hd : ss.drop i = [d, c] :: ss.drop (i + 1) := by
      obtain ⟨hi, e'⟩ := List.getElem?_eq_some_iff.mp er
      rw [List.drop_eq_getElem_cons hi, e']
    have hs : risingB e ([d, c] :: ss.drop (i + 1)) = (decide (e < d ∧ d ≤ c ∧ c ≤ 999) && risingB c (ss.drop (i + 1))) := rfl
    rw [hd, hs] at hb
    refine ⟨p, _, rfl, SqT.of hp, rfl, _, _, rfl, _, _, rfl, rfl, ?_⟩
    have no : ¬ (e < d ∧ d ≤ c ∧ c ≤ 999) → Q (.bl false) H3 := fun z => by
      rw [decide_eq_false z, Bool.false_and] at hb
      rw [← hb]; exact q
    refine ⟨_, rfl, _, rfl, _, _, rfl, rfl, _, rfl, ?_⟩
    by_cases c1 : e < d
    · rw [decide_eq_true c1]
      refine iteT ⟨_, rfl, _, _, rfl, rfl, _, rfl, ?_⟩
      by_cases c2 : d ≤ c
      · rw [decide_eq_true c2]
        refine iteT ⟨_, _, rfl, rfl, _, rfl, ?_⟩
        by_cases c3 : c ≤ 999
        · rw [decide_eq_true c3]
          refine iteF ⟨_, rfl, c, _, _, rfl, rfl, ?_⟩
          rw [hb, decide_eq_true ⟨c1, c2, c3⟩, Bool.true_and]
        · rw [decide_eq_false c3]
          exact iteT (no fun z => c3 z.2.2)
      · rw [decide_eq_false c2]
        exact iteF (iteT (no fun z => c2 z.2.1))
    · rw [decide_eq_false c1]
      exact iteF (iteT (no fun z => c1 z.1))
  · rintro σ H3 ⟨e, o2, o3, rfl, rfl, hb⟩
    rw [ht.1, List.drop_length] at hb
    have : risingB 0 ss = true := hb
    rw [this] at q
    exact q
theorem ok_lies_in (F : Fun K "lies_in" "lies_in" s_lies_in f fd) : FnOk P w K mg base CX0 1 f fd p_lies_in spLies := by
  refine F.ok sc_lies_in (fun vs H Q E h => ?_) (fun cdv A outer s H vs Q E hr h => ?_)
  · obtain ⟨d, a, ss, rfl, _⟩ := h; rfl
  obtain ⟨d, a, ss, rfl, hR, h2, hn, q⟩ := h
  refine ⟨_, (pss_one (ps_ret (pe_callB (call_anyB rfl) rfl B.any PyProof.Rows.boot_any (pa_c (pe_comp (N' := ["first", "last", "day"]) (ix := [none, none, some 0]) (g := (gTup K 2 (gCons (gName 0) (gCons (gName 1) gNil)))) (ti := tIf0) (te := (tChain (rI0 fun i j => .bl (decide (i ≤ j))) (rI0 fun i j => .bl (decide (i ≤ j))) (tVar 0) (tVar 2) (tVar 1))) rfl (comp_scope (N := n_lies_in) (D := defScope s_lies_in) (by decide +kernel)) (pi_list (pv 1)) (fun C s H fp => (pg_tup rfl (pgs_cons (pg_name (i := 0) (show (["first", "last", "day"] : List Str).Nodup by decide +kernel) rfl (Or.inl rfl)) (pgs_cons (pg_name (i := 1) (show (["first", "last", "day"] : List Str).Nodup by decide +kernel) rfl (Or.inl rfl)) pgs_nil)))) (fun C s H fp => pifs_nil) (fun C s H fp => (pe_chain op_le op_le (pv 0) (pv 2) (pv 1)))) pa_nil)))), ?_⟩
  obtain ⟨xs, ex, ht⟩ := hR.tups
  refine ⟨_, rfl, a, rfl, ⟨xs, SqL.of ex⟩, fun D hD => ?_⟩
  refine comp_by (fun i zs _ => zs = ((ss.take i).map (withinB d)).map V.bl) hD ex (by rw [ht.1]; omega) (fun i zs H1 H2 h k => h) rfl ?_ ?_
  · rintro i x zs H1 ei s1 rfl K1 K2 q1 q2
    obtain ⟨p, r, rfl, er, hp⟩ := ht.at ei
    obtain ⟨e, c, rfl⟩ := len2 (h2 r (List.mem_of_getElem? er))
    have nx : ((ss.take (i + 1)).map (withinB d)).map V.bl = ((ss.take i).map (withinB d)).map V.bl ++ [.bl (decide (e ≤ d ∧ d ≤ c))] := by
      rw [getElem_next er, List.map_append, List.map_append]; rfl
    refine ⟨p, _, rfl, SqT.of (s1 _ _ hp), rfl, _, _, rfl, _, _, rfl, rfl, keep_set (keep_set keep_refl rfl) rfl, ?_⟩
    refine ⟨_, rfl, _, rfl, _, _, rfl, rfl, _, rfl, ?_⟩
    by_cases c1 : e ≤ d
    · rw [decide_eq_true c1]
      refine iteT ⟨_, rfl, _, _, rfl, rfl, q1 _ _ (Same.refl _) ?_⟩
      rw [nx]
      by_cases c2 : d ≤ c <;> simp [c1, c2]
    · rw [decide_eq_false c1]
      refine iteF (q1 _ _ (Same.refl _) ?_)
      rw [nx]
      simp [c1]
  · rintro zs H1 s1 rfl hl hz
    rw [ht.1, List.take_length] at hz
    refine ⟨D, _, rfl, SqL.of hz, ?_⟩
    have : liesB d ss = (ss.map (withinB d)).any id := by unfold liesB; rw [List.any_map]; rfl
    rw [← this]
    exact q H1 s1
theorem ok_good_paper (G_checked_both : Cal P w K mg base (CXE P w) 4 "checked_both" p_checked_both (spBoth cl)) (G_are_rising : Cal P w K mg base CX0 1 "are_rising" p_are_rising spRising) (G_dear_ones : Cal P w K mg base CX0 1 "dear_ones" p_dear_ones spDear) (G_lies_in : Cal P w K mg base CX0 1 "lies_in" p_lies_in spLies) (G_going : Cal P w K mg base CX0 1 "going" p_going spGoing) (G_units_of : Cal P w K mg base CX0 1 "units_of" p_units_of spUnits) (F : Fun K "good_paper" "good_paper" s_good_paper f fd) : FnOk P w K mg base (CXE P w) 5 f fd p_good_paper (spGood cl) := by
  refine F.okE sc_good_paper (fun vs H Q E h => ?_) (fun cdv A outer s H vs Q E hr h => ?_)
  · obtain ⟨a, b, p, s, tm, u, n, rs, os, ss, rfl, _⟩ := h; rfl
  obtain ⟨a, b, p, sr, tm, u, n, rs, os, ss, rfl, hR, h3, hO, h2, hp, hS, s2, sn, q1, q2⟩ := h
  refine ⟨_, (pss_cons (ps_asg (pe_cal (E := E) G_checked_both hr rfl (passE fun _ _ z => z) (pa_c (pv 0) (pa_c (pv 1) (pa_c (pv 2) pa_nil)))) (pg_tup rfl (pgs_cons (pg_name (i := 4) sc_good_paper.nd rfl (Or.inl rfl)) (pgs_cons (pg_name (i := 5) sc_good_paper.nd rfl (Or.inr rfl)) pgs_nil))))
    (pss_cons (ps_asg (pv 3) (pg_tup rfl (pgs_cons (pg_name (i := 6) sc_good_paper.nd rfl (Or.inl rfl)) (pgs_cons (pg_name (i := 7) sc_good_paper.nd rfl (Or.inl rfl)) (pgs_cons (pg_name (i := 8) sc_good_paper.nd rfl (Or.inr rfl)) pgs_nil)))))
    (pss_cons (ps_if (pt_not (pt_truth (pe_cal G_are_rising hr rfl pass0 (pa_c (pv 8) pa_nil)) (fun _ => rfl))) (pss_one (ps_ret pe_bl)) pss_nil)
    (pss_cons (ps_setComp (i := 9) sc_good_paper.nd rfl (Or.inl rfl) (N' := ["lot", "stretches"]) (ix := [none, some 8]) (g := (gName 0)) (ti := (tNot (fun σ H Q => (tCall spLies [] E0 (tCons (tOp (rIxT K) (tVar 0) (tC (.int 0))) (tCons (tVar 1) tNil))) σ H fun x H' => ∃ k, TruV K x H' k ∧ Q k H'))) (te := (tVar 0)) rfl (comp_scope (N := n_good_paper) (D := defScope s_good_paper) (by decide +kernel)) (pi_list (pe_cal G_dear_ones hr rfl pass0 (pa_c (pv 4) (pa_c (pv 6) pa_nil)))) (fun C s H fp => (pg_name (i := 0) (show (["lot", "stretches"] : List Str).Nodup by decide +kernel) rfl (Or.inl rfl))) (fun C s H fp => (pifs_one (pt_not (pt_truth (pe_cal G_lies_in hr rfl pass0 (pa_c (pe_ix ix_tup (pv 0) pe_int (fun _ _ => rfl)) (pa_c (pv 1) pa_nil))) (fun _ => rfl))))) (fun C s H fp => (pv 0)))
    (pss_cons (ps_set (i := 10) sc_good_paper.nd rfl (Or.inl rfl) (pe_callB (call_sumI rfl) rfl B.sum PyProof.Rows.boot_sum (pa_c (pe_comp (N' := ["stretch", "gone", "term"]) (ix := [none, some 5, some 2]) (g := (gName 0)) (ti := tIf0) (te := (tCall spGoing [] E0 (tCons (tVar 1) (tCons (tVar 2) (tCons (tVar 0) tNil))))) rfl (comp_scope (N := n_good_paper) (D := defScope s_good_paper) (by decide +kernel)) (pi_list (pv 8)) (fun C s H fp => (pg_name (i := 0) (show (["stretch", "gone", "term"] : List Str).Nodup by decide +kernel) rfl (Or.inl rfl))) (fun C s H fp => pifs_nil) (fun C s H fp => (pe_cal G_going hr rfl pass0 (pa_c (pv 1) (pa_c (pv 2) (pa_c (pv 0) pa_nil)))))) pa_nil)))
    (pss_one (ps_ret (pe_cmpR op_eq (pv 7) (pe_op op_add (pe_cal G_units_of hr rfl pass0 (pa_c (pv 9) pa_nil)) (pv 10)) (nomark _))))))))), ?_⟩
  refine ⟨_, rfl, _, rfl, _, rfl, a, b, tm, rs, os, rfl, hR, h3, hO, h2, q1, fun bn t l o H1 ht hl ho s1 R1 O1 et => ?_⟩
  have q3 := q2 bn
  have rn : rs.length ≤ 30 ∧ os.length ≤ 30 := by
    unfold bothNo at bn
    cases e1 : rowsNo rs with
    | some j => rw [e1] at bn; cases bn
    | none =>
      rw [e1] at bn
      cases e2 : rowsNo os with
      | some j => rw [e2] at bn; cases bn
      | none => exact ⟨(rowsNo_none e1).1, (rowsNo_none e2).1⟩
  refine ⟨t, _, rfl, SqT.of et, rfl, _, _, rfl, _, _, rfl, rfl, ?_⟩
  refine ⟨_, rfl, p, _, rfl, SqT.of (s1 _ _ hp), rfl, _, _, rfl, _, _, rfl, _, _, rfl, rfl, ?_⟩
  refine ⟨_, rfl, sr, ss, rfl, hS.same s1, s2, _, rfl, ?_⟩
  cases rb : risingB 0 ss with
  | false =>
    rw [rb] at q3
    exact iteT (q3 H1 s1)
  | true =>
    rw [rb] at q3
    refine iteF ?_
    -- outside
    refine ⟨_, rfl, _, rfl, l, u, rs, rfl, R1, h3, by omega, fun dl H2 hdl s12 R2 => ?_⟩
    obtain ⟨xs, ex, hx⟩ := R2.tups
    have d3 : ∀ r ∈ rs.filter (dearB u), r.length = 3 := fun r hr => h3 r ((List.mem_filter.mp hr).1)
    have dn : (rs.filter (dearB u)).length ≤ 30 := Nat.le_trans (List.length_filter_le _ _) rn.1
    refine ⟨dl, rfl, ⟨xs, SqL.of ex⟩, fun D hD => ?_⟩
    have S2 := s1.trans s12
    refine comp_by (fun i zs H' => (∀ (p : Addr) (z : List V), H2 p = some (.tup z) → H' p = some (.tup z)) ∧ Tups H2 zs (((rs.filter (dearB u)).take i).filter fun r => !liesB (r.getD 0 0) ss)) hD ex (by rw [hx.1]; omega) (fun i zs H1 H3 h k => ⟨fun p z e => k _ _ (ne_of_none e hD) (h.1 p z e), h.2⟩) ⟨fun _ _ e => e, Tups.nil⟩ ?_ ?_
    · rintro i x zs H3 ei s3 ⟨k3, ht3⟩ K1 K2 q4 q5
      obtain ⟨pr, r, rfl, er, hpr⟩ := hx.at ei
      obtain ⟨d, c, v, rfl⟩ := len3 (d3 r (List.mem_of_getElem? er))
      have ft := filter_take (rs := rs.filter (dearB u)) (fun r => !liesB (r.getD 0 0) ss) er
      refine ⟨keep_set keep_refl rfl, ?_⟩
      refine ⟨_, rfl, pr, _, _, .int d, rfl, rfl, SqT.of (s3 _ _ hpr), rfl, _, rfl, d, sr, ss, rfl, hS.same (S2.trans s3), s2, sn, fun H4 s4 => ?_⟩
      refine ⟨_, rfl, ?_⟩
      have eb : (!liesB (([d, c, v] : List Int).getD 0 0) ss) = !liesB d ss := rfl
      cases lb : liesB d ss with
      | false =>
        refine iteT ⟨_, rfl, q4 _ _ s4 ⟨fun p z e => s4 _ _ (k3 p z e), ?_⟩⟩
        rw [ft, if_pos (by rw [eb, lb]; rfl)]
        exact ht3.append (Tups.one hpr)
      | true =>
        refine iteF (q5 _ s4 ⟨fun p z e => s4 _ _ (k3 p z e), ?_⟩)
        rw [ft, if_neg (by rw [eb, lb]; decide), List.append_nil]
        exact ht3
    · rintro zs H3 s3 ⟨k3, ht3⟩ hl3 hz3
      rw [hx.1, List.take_length] at ht3
      have R3 : Rows H3 D ((rs.filter (dearB u)).filter fun r => !liesB (r.getD 0 0) ss) := (ht3.keep k3).rows hz3
      have S3 := S2.trans s3
      have O3 := O1.same (s12.trans s3)
      have T3 := hS.same S3
      -- gone_against
      obtain ⟨ys, ey, hy⟩ := T3.tups
      refine ⟨_, rfl, sr, rfl, ⟨ys, SqL.of ey⟩, fun D' hD' => ?_⟩
      refine comp_by (fun i zs _ => zs = ((ss.take i).map fun r => goingOf os tm (r.getD 0 0) (r.getD 1 0)).map V.int) hD' ey (by rw [hy.1]; omega) (fun i zs H1 H3 h k => h) rfl ?_ ?_
      · rintro i x zs H4 ei s4 rfl K1 K2 q4 q5
        obtain ⟨pr, r, rfl, er, hpr⟩ := hy.at ei
        obtain ⟨d, c, rfl⟩ := len2 (s2 r (List.mem_of_getElem? er))
        refine ⟨keep_set keep_refl rfl, ?_⟩
        refine ⟨_, rfl, _, rfl, _, rfl, o, pr, tm, d, c, os, rfl, O3.same s4, h2, by omega, s4 _ _ hpr, fun H5 s5 => q4 _ _ s5 ?_⟩
        rw [getElem_next er, List.map_append, List.map_append]; rfl
      · rintro zs H4 s4 rfl hl4 hz4
        rw [hy.1, List.take_length] at hz4
        refine ⟨D', _, rfl, SqL.of hz4, ?_⟩
        have S4 := S3.trans s4
        -- units == units_of(outside) + gone_against
        refine ⟨_, rfl, _, rfl, D, _, rfl, R3.same s4, fun r hr => d3 r ((List.mem_filter.mp hr).1), Nat.le_trans (List.length_filter_le _ _) (by omega), fun H5 s5 => ?_⟩
        refine ⟨_, rfl, _, _, rfl, rfl, rfl, ?_⟩
        have := q3 H5 (S4.trans s5)
        rw [Bool.true_and] at this
        have e : decide (V.int n = V.int (unitsOf ((rs.filter (dearB u)).filter fun r => !liesB (r.getD 0 0) ss) + (ss.map fun r => goingOf os tm (r.getD 0 0) (r.getD 1 0)).sum)) = decide (n = comeTo rs os tm u ss) := by
          unfold comeTo goneOf
          by_cases z : n = unitsOf ((rs.filter (dearB u)).filter fun r => !liesB (r.getD 0 0) ss) + (ss.map fun r => goingOf os tm (r.getD 0 0) (r.getD 1 0)).sum
          · rw [decide_eq_true z, decide_eq_true (congrArg V.int z)]
          · rw [decide_eq_false z, decide_eq_false (fun y => z (V.int.inj y))]
        show Q (.bl (decide (V.int n = _))) H5
        rw [e]
        exact this
end
end K17
set_option maxHeartbeats 4000000
namespace K17
open PySem L2
abbrev s_odd : Stmt := top 34
abbrev n_odd : List Str := ["_law_draw", "_law_odd_here"]
abbrev p_odd : List Str := ["_law_draw"]
theorem sc_odd : FnScope n_odd p_odd (defScope s_odd) := ⟨rfl, rfl, rfl, by decide +kernel, rfl, by decide +kernel, by decide +kernel⟩
section
variable {P : Program} {w : World} {K : PySem.W.Frag} {mg : Str → Option Value} {base : Heap} {f : Addr} {fd : FuncData}
theorem ok_odd (B : Bn mg) (G_pick : Cal P w K mg base CX0 1 "_law_pick" p_pick spPick) (F : Fun K "_law_odd" "_law_odd" s_odd f fd) : FnOk P w K mg base CX0 2 f fd p_odd spOdd := by
  refine F.ok sc_odd (fun vs H Q E h => ?_) (fun cdv A outer s H vs Q E hr h => ?_)
  · obtain ⟨a, c, rfl, _⟩ := h; rfl
  obtain ⟨a, c, rfl, d, q⟩ := h
  refine ⟨_, (pss_cons (ps_set (i := 1) sc_odd.nd rfl (Or.inl rfl) (pe_intL (pis_cons (pin_neg (pin_pow pe_int pe_int ⟨by decide, by decide, by decide⟩)) (pis_cons (pin_neg (pin_of pe_int)) (pis_cons (pin_of pe_int) (pis_cons (pin_of pe_int) (pis_cons (pin_of pe_int) (pis_cons (pin_of pe_int) (pis_cons (pin_of pe_int) (pis_cons (pin_of pe_int) (pis_cons (pin_of pe_int) (pis_cons (pin_of pe_int) (pis_cons (pin_of pe_int) (pis_cons (pin_of pe_int) (pis_cons (pin_pow pe_int pe_int ⟨by decide, by decide, by decide⟩) (pis_cons (pin_add (pin_pow pe_int pe_int ⟨by decide, by decide, by decide⟩) (pin_of pe_int)) (pis_cons (pin_pow pe_int pe_int ⟨by decide, by decide, by decide⟩) (pis_cons (pin_add (pin_pow pe_int pe_int ⟨by decide, by decide, by decide⟩) (pin_of pe_int)) pis_nil))))))))))))))))))
    (pss_cons (ps_set (i := 1) sc_odd.nd rfl (Or.inl rfl) (pe_op op_cat (pv 1) (pe_lst (pa_c (pe_op op_pow pe_int pe_int) pa_nil))))
    (pss_one (ps_ret (pe_ix ix_list (pv 1) (pe_cal G_pick hr rfl pass0 (pa_c (pv 0) (pa_c (pe_callB call_len_seq rfl B.len PySem.boot_len (pa_c (pv 1) pa_nil)) pa_nil))) (fun _ _ => rfl)))))), ?_⟩
  refine ⟨by decide, fun vs hl l1 n1 => ?_⟩
  refine ⟨_, rfl, _, _, rfl, rfl, ⟨by decide, by decide, by decide⟩, by show 1 ≤ sizeLine; decide, fun l2 n2 => ?_⟩
  refine ⟨l1, l2, vs.map V.int, _, rfl, rfl, by rw [upd_ne (ne_of_none upd_same n2)]; exact upd_same, upd_same, by rw [List.length_map, hl]; show 17 ≤ sizeLine; decide, fun l3 n3 => ?_⟩
  have d3 := fun o => ((d.new n1).new n2).new (o := o) n3
  refine ⟨_, rfl, _, rfl, _, rfl, l3, _, rfl, .inl (SqL.of upd_same), a, c, _, rfl, d3 _, ?_, ?_, fun r H4 a4 c4 d4 kb4 => ?_⟩
  · rw [List.length_append, List.length_map, hl]; decide
  · rw [List.length_append, List.length_map, hl]; decide
  have ht := kb4 l3 _ (((d.new n1).new n2).ne n3) upd_same
  obtain ⟨v, ev⟩ := at_int (r := r) (by
    intro x hx'
    rcases List.mem_append.mp hx' with h | h
    · obtain ⟨v, _, e⟩ := List.mem_map.mp h
      exact ⟨v, e.symm⟩
    · exact ⟨_, List.mem_singleton.mp h⟩) a4 c4
  exact ⟨l3, _, _, .int v, rfl, rfl, SqL.of ht, ev, q v H4 d4 ((((KeepBut.refl.new n1).new n2).new n3).trans kb4)⟩
end
end K17
set_option maxHeartbeats 4000000
namespace K17
open PySem L2
abbrev s_one : Stmt := top 41
abbrev n_one : List Str := ["_law_draw", "_law_some"]
abbrev p_one : List Str := ["_law_draw", "_law_some"]
theorem sc_one : FnScope n_one p_one (defScope s_one) := ⟨rfl, rfl, rfl, by decide +kernel, rfl, by decide +kernel, by decide +kernel⟩
section
variable {P : Program} {w : World} {K : PySem.W.Frag} {mg : Str → Option Value} {base : Heap} {f : Addr} {fd : FuncData} (B : Bn mg)
include B
theorem ok_one (G_pick : Cal P w K mg base CX0 1 "_law_pick" p_pick spPick) (F : Fun K "_law_one" "_law_one" s_one f fd) : FnOk P w K mg base CX0 2 f fd p_one spOne := by
  refine F.ok sc_one (fun vs H Q E h => ?_) (fun cdv A outer s H vs Q E hr h => ?_)
  · obtain ⟨a, c, l, xs, rfl, _⟩ := h; rfl
  obtain ⟨a, c, l, xs, rfl, d, hl, nla, h0, hn, q⟩ := h
  refine ⟨_, (pss_one (ps_ret (pe_ix ix_list (pv 1) (pe_cal G_pick hr rfl pass0 (pa_c (pv 0) (pa_c (pe_callB call_len_seq rfl B.len PySem.boot_len (pa_c (pv 1) pa_nil)) pa_nil))) (fun _ _ => rfl)))), ?_⟩
  refine ⟨_, rfl, _, rfl, _, rfl, l, _, rfl, .inl (SqL.of hl), a, c, _, rfl, d, by omega, by omega, fun r H1 r0 r1 d1 kb1 => ?_⟩
  have hk : r.toNat < xs.length := by omega
  have e1 : xs[r.toNat]? = some xs[r.toNat] := List.getElem?_eq_getElem hk
  exact ⟨l, _, _, xs[r.toNat], rfl, rfl, SqL.of (kb1 _ _ nla hl), atI_some r0 e1, q r.toNat _ H1 e1 d1 kb1⟩
end
end K17
set_option maxHeartbeats 4000000
namespace K17
open PySem L2
abbrev s_some_stretches : Stmt := top 42
abbrev n_some_stretches : List Str := ["_law_draw", "_law_lots", "_law_days", "_law_found", "_law_ahead", "_law_k", "_law_later", "_law_first", "_law_last"]
abbrev p_some_stretches : List Str := ["_law_draw", "_law_lots"]
theorem sc_some_stretches : FnScope n_some_stretches p_some_stretches (defScope s_some_stretches) := ⟨rfl, rfl, rfl, by decide +kernel, rfl, by decide +kernel, by decide +kernel⟩
abbrev s_sum_of : Stmt := top 43
abbrev n_sum_of : List Str := ["_law_lots", "_law_outs", "_law_term", "_law_duty", "_law_stretches", "_law_found", "_law_first", "_law_last", "_law_day", "_law_count", "_law_own", "_law_inside"]
abbrev p_sum_of : List Str := ["_law_lots", "_law_outs", "_law_term", "_law_duty", "_law_stretches"]
theorem sc_sum_of : FnScope n_sum_of p_sum_of (defScope s_sum_of) := ⟨rfl, rfl, rfl, by decide +kernel, rfl, by decide +kernel, by decide +kernel⟩
def spStrs : Sp := fun vs H Q _ => ∃ (a c l : Addr) (ls : List (List Int)), vs = [.ref a, .ref l] ∧ DrawAt H a c ∧ l ≠ a ∧ Rows H l ls ∧ (∀ r ∈ ls, r.length = 3) ∧ ls.length ≤ 30 ∧
  ∀ s ss H', H s = none → DrawAt H' a c → KeepBut a H H' → Rows H' s ss → (∀ r ∈ ss, r.length = 2) → ss.length ≤ 3 → Q (.ref s) H'
def spSumOf : Sp := fun vs H Q _ => ∃ (a b s : Addr) (tm u : Int) (rs os ss : List (List Int)), vs = [.ref a, .ref b, .int tm, .int u, .ref s] ∧ Rows H a rs ∧ (∀ r ∈ rs, r.length = 3) ∧ rs.length ≤ 100 ∧ Rows H b os ∧ (∀ r ∈ os, r.length = 2) ∧ os.length ≤ 100 ∧ Rows H s ss ∧ (∀ r ∈ ss, r.length = 2) ∧ ss.length ≤ 100 ∧
  ∀ H', Same H H' → Q (.int (comeTo rs os tm u ss)) H'
theorem gone_next {os : List (List Int)} {tm : Int} {ss : List (List Int)} {i : Nat} {r : List Int} (e : ss[i]? = some r) : goneOf os tm (ss.take (i + 1)) = goneOf os tm (ss.take i) + goingOf os tm (r.getD 0 0) (r.getD 1 0) := by
  unfold goneOf
  rw [getElem_next e, List.map_append, List.sum_append]
  show _ + (goingOf os tm (r.getD 0 0) (r.getD 1 0) + 0) = _
  omega
def outB (u : Int) (ss : List (List Int)) (r : List Int) : Bool := dearB u r && !liesB (r.getD 0 0) ss
theorem come_eq (rs os : List (List Int)) (tm u : Int) (ss : List (List Int)) : comeTo rs os tm u ss = unitsOf (rs.filter (outB u ss)) + goneOf os tm ss := by
  unfold comeTo outB
  rw [List.filter_filter]
  have e : (fun a : List Int => (!liesB (a.getD 0 0) ss) && dearB u a) = fun r => dearB u r && !liesB (r.getD 0 0) ss := by funext r; rw [Bool.and_comm]
  rw [← e]
theorem units_next {u : Int} {ss rs : List (List Int)} {i : Nat} {r : List Int} (e : rs[i]? = some r) : unitsOf ((rs.take (i + 1)).filter (outB u ss)) = unitsOf ((rs.take i).filter (outB u ss)) + r.getD 1 0 * (if outB u ss r = true then 1 else 0) := by
  unfold L2.unitsOf
  rw [filter_take _ e]
  by_cases z : outB u ss r = true
  · rw [if_pos z, if_pos z, List.map_append, List.sum_append]
    show _ + (r.getD 1 0 + 0) = _
    omega
  · rw [if_neg z, if_neg z, List.append_nil]
    omega
theorem lies_len (d : Int) (ss : List (List Int)) : (ss.filter (withinB d)).length = 0 ↔ liesB d ss = false := by
  unfold liesB
  rw [List.length_eq_zero_iff, List.filter_eq_nil_iff, List.any_eq_false]
section
variable {P : Program} {w : World} {K : PySem.W.Frag} {mg : Str → Option Value} {base : Heap} {f : Addr} {fd : FuncData} (B : Bn mg)
include B
theorem ok_sum_of (F : Fun K "_law_sum_of" "_law_sum_of" s_sum_of f fd) : FnOk P w K mg base CX0 1 f fd p_sum_of spSumOf := by
  refine F.ok sc_sum_of (fun vs H Q E h => ?_) (fun cdv A outer s H vs Q E hr h => ?_)
  · obtain ⟨a, b, sr, tm, u, rs, os, ss, rfl, _⟩ := h; rfl
  obtain ⟨a, b, sr, tm, u, rs, os, ss, rfl, hR, h3, rn, hO, h2, on, hS, s2, sn, q⟩ := h
  refine ⟨_, (pss_cons (ps_set (i := 5) sc_sum_of.nd rfl (Or.inl rfl) pe_int)
    (pss_cons (ps_for PassesOwn.never rfl (pi_list (pv 4)) (pg_tup rfl (pgs_cons (pg_name (i := 6) sc_sum_of.nd rfl (Or.inr rfl)) (pgs_cons (pg_name (i := 7) sc_sum_of.nd rfl (Or.inr rfl)) pgs_nil))) (pss_one (ps_set (i := 5) sc_sum_of.nd rfl (Or.inl rfl) (pe_op op_add (pv 5) (pe_callB (call_sumI rfl) rfl B.sum PyProof.Rows.boot_sum (pa_c (pe_comp (N' := ["_law_day", "_law_count", "_law_first", "_law_last", "_law_term"]) (ix := [none, none, some 6, some 7, some 2]) (g := (gTup K 2 (gCons (gName 0) (gCons (gName 1) gNil)))) (ti := (tAnd (tTest (tOp (rI0 fun i j => .bl (decide (i ≤ j))) (tVar 2) (tVar 0))) (tTest (tOp (rI0 fun i j => .bl (decide (i ≤ j))) (tVar 0) (tOp (rI0 fun i j => .int (i + j)) (tVar 3) (tVar 4)))))) (te := (tVar 1)) rfl (comp_scope (N := n_sum_of) (D := defScope s_sum_of) (by decide +kernel)) (pi_list (pv 1)) (fun C s H fp => (pg_tup rfl (pgs_cons (pg_name (i := 0) (show (["_law_day", "_law_count", "_law_first", "_law_last", "_law_term"] : List Str).Nodup by decide +kernel) rfl (Or.inl rfl)) (pgs_cons (pg_name (i := 1) (show (["_law_day", "_law_count", "_law_first", "_law_last", "_law_term"] : List Str).Nodup by decide +kernel) rfl (Or.inl rfl)) pgs_nil)))) (fun C s H fp => (pifs_one (PW.pt (pw_and (pt_cmpR op_le (pv 2) (pv 0) (nomark _)) (pw_and1 (pt_cmpR op_le (pv 0) (pe_op op_add (pv 3) (pv 4)) (nomark _))))))) (fun C s H fp => (pv 1))) pa_nil))))))
    (pss_cons (ps_for PassesOwn.never rfl (pi_list (pv 0)) (pg_tup rfl (pgs_cons (pg_name (i := 8) sc_sum_of.nd rfl (Or.inr rfl)) (pgs_cons (pg_name (i := 9) sc_sum_of.nd rfl (Or.inl rfl)) (pgs_cons (pg_name (i := 10) sc_sum_of.nd rfl (Or.inl rfl)) pgs_nil)))) (pss_cons (ps_setComp (i := 11) sc_sum_of.nd rfl (Or.inl rfl) (N' := ["_law_one_here", "_law_day"]) (ix := [none, some 8]) (g := (gName 0)) (ti := (tAnd (tTest (tOp (rI0 fun i j => .bl (decide (i ≤ j))) (tOp (rIxT K) (tVar 0) (tC (.int 0))) (tVar 1))) (tTest (tOp (rI0 fun i j => .bl (decide (i ≤ j))) (tVar 1) (tOp (rIxT K) (tVar 0) (tC (.int 1))))))) (te := (tVar 0)) rfl (comp_scope (N := n_sum_of) (D := defScope s_sum_of) (by decide +kernel)) (pi_list (pv 4)) (fun C s H fp => (pg_name (i := 0) (show (["_law_one_here", "_law_day"] : List Str).Nodup by decide +kernel) rfl (Or.inl rfl))) (fun C s H fp => (pifs_one (PW.pt (pw_and (pt_cmpR op_le (pe_ix ix_tup (pv 0) pe_int (fun _ _ => rfl)) (pv 1) (nomark _)) (pw_and1 (pt_cmpR op_le (pv 1) (pe_ix ix_tup (pv 0) pe_int (fun _ _ => rfl)) (nomark _))))))) (fun C s H fp => (pv 0)))
      (pss_one (ps_set (i := 5) sc_sum_of.nd rfl (Or.inl rfl) (pe_op op_add (pv 5) (pe_op op_mul (pv 9) (pe_callTy call_int1 rfl B.int PyProof.Rows.boot_int (pa_c (pe_and (pe_cmpR op_ge (pv 10) (pv 3) (nomark _)) (pe_one (pe_cmpR (op_eqL hr.units) (pv 11) (pe_lst pa_nil) (nomark _)))) pa_nil))))))))
    (pss_one (ps_ret (pv 5)))))), ?_⟩
  obtain ⟨xs, ex, hx⟩ := hS.tups
  obtain ⟨ys, ey, hy⟩ := hO.tups
  obtain ⟨zs, ez, hz⟩ := hR.tups
  refine ⟨_, rfl, sr, rfl, ⟨xs, SqL.of ex⟩, ?_⟩
  refine for_list (xs := xs) (fun i σ H3 => ∃ o6 o7, σ = [some (.ref a), some (.ref b), some (.int tm), some (.int u), some (.ref sr), some (.int (goneOf os tm (ss.take i))), o6, o7, none, none, none, none] ∧ Same H H3) ⟨_, _, rfl, Same.refl H⟩ ?_ ?_ ?_
  · rintro i σ H3 hi ⟨o6, o7, rfl, s3⟩
    exact SqL.of (s3 _ _ ex)
  · rintro i x σ H3 ei ⟨o6, o7, rfl, s3⟩
    obtain ⟨p, r, rfl, er, hp⟩ := hx.at ei
    obtain ⟨fi, la, rfl⟩ := len2 (s2 r (List.mem_of_getElem? er))
    refine ⟨p, _, rfl, SqT.of (s3 _ _ hp), rfl, _, _, rfl, _, _, rfl, rfl, ?_⟩
    refine ⟨_, rfl, _, rfl, b, rfl, ⟨ys, SqL.of (s3 _ _ ey)⟩, fun D hD => ?_⟩
    refine comp_by (fun i zs _ => zs = (((os.take i).filter (goesB tm fi la)).map fun r => r.getD 1 0).map V.int) hD (s3 _ _ ey) (by rw [hy.1]; omega) (fun i zs H1 H2 h k => h) rfl ?_ ?_
    · rintro j x zs H4 ej s4 rfl K1 K2 q1 q2
      obtain ⟨pr, r, rfl, er', hpr⟩ := hy.at ej
      obtain ⟨d, c, rfl⟩ := len2 (h2 r (List.mem_of_getElem? er'))
      have ft := filter_take (rs := os) (goesB tm fi la) er'
      have gb : goesB tm fi la [d, c] = decide (fi ≤ d ∧ d ≤ la + tm) := rfl
      refine ⟨pr, _, rfl, SqT.of (s4 _ _ (s3 _ _ hpr)), rfl, _, _, rfl, _, _, rfl, rfl, keep_set (keep_set keep_refl rfl) rfl, ?_⟩
      have no : ¬ (fi ≤ d ∧ d ≤ la + tm) → K2 H4 := fun z => q2 _ (Same.refl _) (by rw [ft, if_neg (by rw [gb]; intro y; exact z (of_decide_eq_true y)), List.append_nil])
      refine ⟨_, rfl, _, rfl, _, _, rfl, rfl, _, rfl, ?_⟩
      by_cases c1 : fi ≤ d
      · rw [decide_eq_true c1]
        refine iteT ⟨_, rfl, _, rfl, _, rfl, _, _, rfl, rfl, _, _, rfl, rfl, _, rfl, ?_⟩
        by_cases c2 : d ≤ la + tm
        · rw [decide_eq_true c2]
          refine iteT ⟨_, rfl, q1 _ _ (Same.refl _) ?_⟩
          rw [ft, if_pos (by rw [gb]; exact decide_eq_true ⟨c1, c2⟩), List.map_append, List.map_append]; rfl
        · rw [decide_eq_false c2]
          exact iteF (no fun z => c2 z.2)
      · rw [decide_eq_false c1]
        exact iteF (iteF (no fun z => c1 z.1))
    · rintro zs H4 s4 rfl hl4 hz4
      rw [hy.1, List.take_length] at hz4
      refine ⟨D, _, rfl, SqL.of hz4, _, _, rfl, rfl, some (.int fi), some (.int la), ?_, s3.trans s4⟩
      rw [gone_next er]
      rfl
  · rintro σ H3 ⟨o6, o7, rfl, s3⟩
    rw [hx.1, List.take_length]
    refine ⟨_, rfl, a, rfl, ⟨zs, SqL.of (s3 _ _ ez)⟩, ?_⟩
    refine for_list (xs := zs) (fun i σ H4 => ∃ o8 o9 o10 o11, σ = [some (.ref a), some (.ref b), some (.int tm), some (.int u), some (.ref sr), some (.int (unitsOf ((rs.take i).filter (outB u ss)) + goneOf os tm ss)), o6, o7, o8, o9, o10, o11] ∧ Same H H4) ⟨none, none, none, none, ?_, s3⟩ ?_ ?_ ?_
    · rw [show unitsOf ((rs.take 0).filter (outB u ss)) + goneOf os tm ss = goneOf os tm ss from Int.zero_add _]
    · rintro i σ H4 hi ⟨o8, o9, o10, o11, rfl, s4⟩
      exact SqL.of (s4 _ _ ez)
    · rintro i x σ H4 ei ⟨o8, o9, o10, o11, rfl, s4⟩
      obtain ⟨p, r, rfl, er, hp⟩ := hz.at ei
      obtain ⟨d, c, v, rfl⟩ := len3 (h3 r (List.mem_of_getElem? er))
      refine ⟨p, _, rfl, SqT.of (s4 _ _ hp), rfl, _, _, rfl, _, _, rfl, _, _, rfl, rfl, ?_⟩
      -- inside = [..]
      refine ⟨_, rfl, sr, rfl, ⟨xs, SqL.of (s4 _ _ ex)⟩, fun D hD => ?_⟩
      refine comp_by (fun i zs H' => zs.length = ((ss.take i).filter (withinB d)).length) hD (s4 _ _ ex) (by rw [hx.1]; omega) (fun i zs H1 H3 h k => h) rfl ?_ ?_
      · rintro j x zs H5 ej s5 hzs K1 K2 q1 q2
        obtain ⟨pr, r, rfl, er', hpr⟩ := hx.at ej
        obtain ⟨fi, la, rfl⟩ := len2 (s2 r (List.mem_of_getElem? er'))
        have ft := filter_take (rs := ss) (withinB d) er'
        have gb : withinB d [fi, la] = decide (fi ≤ d ∧ d ≤ la) := rfl
        have hp5 := s5 _ _ (s4 _ _ hpr)
        refine ⟨keep_set keep_refl rfl, ?_⟩
        have no : ¬ (fi ≤ d ∧ d ≤ la) → K2 H5 := fun z => q2 _ (Same.refl _) (by rw [ft, if_neg (by rw [gb]; intro y; exact z (of_decide_eq_true y)), List.append_nil]; exact hzs)
        refine ⟨_, rfl, pr, _, _, .int fi, rfl, rfl, SqT.of hp5, rfl, _, rfl, _, _, rfl, rfl, _, rfl, ?_⟩
        by_cases c1 : fi ≤ d
        · rw [decide_eq_true c1]
          refine iteT ⟨_, rfl, _, rfl, pr, _, _, .int la, rfl, rfl, SqT.of hp5, rfl, _, _, rfl, rfl, _, rfl, ?_⟩
          by_cases c2 : d ≤ la
          · rw [decide_eq_true c2]
            refine iteT ⟨_, rfl, q1 _ _ (Same.refl _) ?_⟩
            rw [ft, if_pos (by rw [gb]; exact decide_eq_true ⟨c1, c2⟩), List.length_append, List.length_append, hzs]; rfl
          · rw [decide_eq_false c2]
            exact iteF (no fun z => c2 z.2)
        · rw [decide_eq_false c1]
          exact iteF (iteF (no fun z => c1 z.1))
      · rintro ws H5 s5 hws hl5 hz5
        rw [hx.1, List.take_length] at hws
        have un := units_next (u := u) (ss := ss) er
        have S5 := s4.trans s5
        have eo : outB u ss [d, c, v] = (decide (u ≤ v) && !liesB d ss) := rfl
        have fin : ∀ (k : Bool) H6, Same H5 H6 → k = outB u ss [d, c, v] → ∃ o8 o9 o10 o11, ([some (.ref a), some (.ref b), some (.int tm), some (.int u), some (.ref sr), some (.int (unitsOf ((rs.take i).filter (outB u ss)) + goneOf os tm ss + c * (if k then 1 else 0))), o6, o7, some (.int d), some (.int c), some (.int v), some (.ref D)] : St) = [some (.ref a), some (.ref b), some (.int tm), some (.int u), some (.ref sr), some (.int (unitsOf ((rs.take (i + 1)).filter (outB u ss)) + goneOf os tm ss)), o6, o7, o8, o9, o10, o11] ∧ Same H H6 := fun k H6 s6 ek => by
          refine ⟨some (.int d), some (.int c), some (.int v), some (.ref D), ?_, S5.trans s6⟩
          have e1 : unitsOf ((rs.take i).filter (outB u ss)) + goneOf os tm ss + c * (if k then 1 else 0) = unitsOf ((rs.take (i + 1)).filter (outB u ss)) + goneOf os tm ss := by
            rw [un, ek]
            show _ + c * _ = _ + c * _ + _
            omega
          rw [e1]
        -- found = found + count * int(own >= duty and inside == [])
        refine ⟨_, rfl, _, rfl, _, rfl, _, rfl, _, _, rfl, rfl, _, rfl, ?_⟩
        by_cases c1 : u ≤ v
        · rw [decide_eq_true c1]
          refine iteT ⟨_, rfl, by show 0 ≤ sizeLine; decide, fun e he => ?_⟩
          have sE := same_new (H := H5) he (.lst [])
          refine cmp_nil (sE _ _ hz5) upd_same (.inr ⟨_, rfl, _, _, rfl, rfl, .inr ⟨by split <;> decide, by split <;> decide⟩, _, _, rfl, rfl, ?_⟩)
          refine fin _ _ sE ?_
          rw [eo, decide_eq_true c1, Bool.true_and]
          cases lb : liesB d ss with
          | false => rw [decide_eq_true (by rw [hws]; exact (lies_len d ss).mpr lb)]; rfl
          | true => rw [decide_eq_false (by rw [hws]; intro z; rw [(lies_len d ss).mp z] at lb; cases lb)]; rfl
        · rw [decide_eq_false c1]
          refine iteF (.inr ⟨_, rfl, _, _, rfl, rfl, .inr ⟨by decide, by decide⟩, _, _, rfl, rfl, ?_⟩)
          exact fin _ _ (Same.refl _) (by rw [eo, decide_eq_false c1]; rfl)
    · rintro σ H4 ⟨o8, o9, o10, o11, rfl, s4⟩
      rw [hz.1, List.take_length]
      refine ⟨_, rfl, ?_⟩
      rw [← come_eq]
      exact q H4 s4
variable (G_pick : Cal P w K mg base CX0 1 "_law_pick" p_pick spPick) (G_one : Cal P w K mg base CX0 2 "_law_one" p_one spOne)
include G_pick G_one
theorem ok_some_stretches (F : Fun K "_law_some_stretches" "_law_some_stretches" s_some_stretches f fd) : FnOk P w K mg base CX0 3 f fd p_some_stretches spStrs := by
  refine F.ok sc_some_stretches (fun vs H Q E h => ?_) (fun cdv A outer s H vs Q E hr h => ?_)
  · obtain ⟨a, c, l, ls, rfl, _⟩ := h; rfl
  obtain ⟨a, c, l, ls, rfl, d0, nla, hR, h3, ln, q⟩ := h
  refine ⟨_, (pss_cons (ps_set (i := 2) sc_some_stretches.nd rfl (Or.inl rfl) (pe_callB call_sortI rfl B.sorted PyProof.Rows.boot_sorted (pa_c (pe_op op_cat (pe_comp (N' := ["_law_lot"]) (ix := [none]) (g := (gName 0)) (ti := tIf0) (te := (tOp (rIxT K) (tVar 0) (tC (.int 0)))) rfl (comp_scope (N := n_some_stretches) (D := defScope s_some_stretches) (by decide +kernel)) (pi_list (pv 1)) (fun C s H fp => (pg_name (i := 0) (show (["_law_lot"] : List Str).Nodup by decide +kernel) rfl (Or.inl rfl))) (fun C s H fp => pifs_nil) (fun C s H fp => (pe_ix ix_tup (pv 0) pe_int (fun _ _ => rfl)))) (pe_comp (N' := ["_law_k", "_law_draw"]) (ix := [none, some 0]) (g := (gName 0)) (ti := tIf0) (te := (tOp (rI0 fun i j => .int (i + j)) (tC (.int 1)) (tCall spPick [] E0 (tCons (tVar 1) (tCons (tC (.int 999)) tNil))))) rfl (comp_scope (N := n_some_stretches) (D := defScope s_some_stretches) (by decide +kernel)) (pi_range1 rfl B.range (pa_c pe_int pa_nil)) (fun C s H fp => (pg_name (i := 0) (show (["_law_k", "_law_draw"] : List Str).Nodup by decide +kernel) rfl (Or.inl rfl))) (fun C s H fp => pifs_nil) (fun C s H fp => (pe_op op_add pe_int (pe_cal G_pick hr rfl pass0 (pa_c (pv 1) (pa_c pe_int pa_nil))))))) pa_nil)))
    (pss_cons (ps_set (i := 3) sc_some_stretches.nd rfl (Or.inl rfl) (pe_lst pa_nil))
    (pss_cons (ps_set (i := 4) sc_some_stretches.nd rfl (Or.inr rfl) pe_int)
    (pss_cons (ps_for PassesOwn.never rfl (pi_range1 rfl B.range (pa_c (pe_cal G_pick hr rfl pass0 (pa_c (pv 0) (pa_c pe_int pa_nil))) pa_nil)) (pg_name (i := 5) sc_some_stretches.nd rfl (Or.inl rfl)) (pss_cons (ps_setComp (i := 6) sc_some_stretches.nd rfl (Or.inl rfl) (N' := ["_law_day", "_law_ahead"]) (ix := [none, some 4]) (g := (gName 0)) (ti := (tTest (tOp (rI0 fun i j => .bl (decide (j < i))) (tVar 0) (tVar 1)))) (te := (tVar 0)) rfl (comp_scope (N := n_some_stretches) (D := defScope s_some_stretches) (by decide +kernel)) (pi_list (pv 2)) (fun C s H fp => (pg_name (i := 0) (show (["_law_day", "_law_ahead"] : List Str).Nodup by decide +kernel) rfl (Or.inl rfl))) (fun C s H fp => (pifs_one (pt_cmpR op_gt (pv 0) (pv 1) (nomark _)))) (fun C s H fp => (pv 0)))
      (pss_one (ps_if (pt_cmpR (op_neL hr.units) (pv 6) (pe_lst pa_nil) (nomark _)) (pss_cons (ps_set (i := 7) sc_some_stretches.nd rfl (Or.inr rfl) (pe_cal G_one hr rfl pass0 (pa_c (pv 0) (pa_c (pv 6) pa_nil))))
        (pss_cons (ps_set (i := 8) sc_some_stretches.nd rfl (Or.inl rfl) (pe_cal G_one hr rfl pass0 (pa_c (pv 0) (pa_c (pe_comp (N' := ["_law_day", "_law_first"]) (ix := [none, some 7]) (g := (gName 0)) (ti := (tTest (tOp (rI0 fun i j => .bl (decide (j ≤ i))) (tVar 0) (tVar 1)))) (te := (tVar 0)) rfl (comp_scope (N := n_some_stretches) (D := defScope s_some_stretches) (by decide +kernel)) (pi_list (pv 6)) (fun C s H fp => (pg_name (i := 0) (show (["_law_day", "_law_first"] : List Str).Nodup by decide +kernel) rfl (Or.inl rfl))) (fun C s H fp => (pifs_one (pt_cmpR op_ge (pv 0) (pv 1) (nomark _)))) (fun C s H fp => (pv 0))) pa_nil))))
        (pss_cons (ps_expr (pe_bm PySem.F.plainAttrs_list PySem.F.slot_list_append PySem.F.type_list_append mt_append (pv 3) (pa_c (pe_tup (pa_c (pv 7) (pa_c (pv 8) pa_nil))) pa_nil)))
        (pss_one (ps_set (i := 4) sc_some_stretches.nd rfl (Or.inr rfl) (pv 8)))))) pss_nil))))
    (pss_one (ps_ret (pv 3))))))), ?_⟩
  obtain ⟨xs, ex, hx⟩ := hR.tups
  -- days
  refine ⟨_, rfl, l, rfl, ⟨xs, SqL.of ex⟩, fun D hD => ?_⟩
  refine comp_by (fun i zs _ => zs = ((ls.take i).map fun r => r.getD 0 0).map V.int) hD ex (by rw [hx.1]; omega) (fun i zs H1 H2 h k => h) rfl ?_ ?_
  · rintro i x zs H1 ei s1 rfl K1 K2 q1 q2
    obtain ⟨p, r, rfl, er, hp⟩ := hx.at ei
    obtain ⟨d, cc, v, rfl⟩ := len3 (h3 r (List.mem_of_getElem? er))
    refine ⟨keep_set keep_refl rfl, _, rfl, p, _, _, .int d, rfl, rfl, SqT.of (s1 _ _ hp), rfl, q1 _ _ (Same.refl _) ?_⟩
    rw [getElem_next er, List.map_append, List.map_append]; rfl
  rintro zs H1 s1 rfl hl1 hz1
  rw [hx.1, List.take_length] at hz1
  have d1 := d0.same s1
  have nDa : D ≠ a := d0.ne hD
  refine ⟨3, rfl, by decide, by decide, fun D2 hD2 => ⟨fun i m H3 => i + m = 3 ∧ DrawAt H3 a c ∧ KeepBut a H1 H3 ∧ ∃ ts : List Int, ts.length = i ∧ H3 D2 = some (.lst (ts.map V.int)), ⟨3, rfl, d1.new hD2, KeepBut.refl.new hD2, [], rfl, upd_same⟩, ?_⟩⟩
  have n2a : D2 ≠ a := d1.ne hD2
  have n2c : D2 ≠ c := d1.nc hD2
  rintro i m H3 ⟨him, d3, kb3, ts, hts, hD3⟩
  by_cases hi : i < 3
  · refine .inr ⟨hi, ?_⟩
    rintro x H' ⟨rfl, rfl⟩
    refine ⟨keep_set keep_refl rfl, ?_⟩
    refine ⟨_, rfl, a, c, 999, rfl, d3, by decide, by decide, fun x4 H4 a4 b4 d4 kb4 => ⟨_, _, rfl, rfl, ?_⟩⟩
    refine ⟨_, kb4 _ _ n2a hD3, small1000 (by rw [List.length_map]; omega), m - 1, by omega, by omega, d4.upd n2a n2c, (kb3.trans kb4).young hD2, ts ++ [1 + x4], by rw [List.length_append, hts]; rfl, ?_⟩
    rw [upd_same, List.map_append]; rfl
  refine .inl ⟨by show 3 ≤ i; omega, ?_⟩
  have hz3 := kb3 _ _ nDa hz1
  refine ⟨D, D2, _, _, rfl, rfl, hz3, hD3, Nat.le_of_lt (small1000 (by rw [List.length_map, List.length_map, List.length_map]; omega)), fun D4 hD4 => ?_⟩
  have k4 := kb3.new (o := .lst ((ls.map fun r => r.getD 0 0).map V.int ++ ts.map V.int)) hD4
  have d4 := d3.new (o := .lst ((ls.map fun r => r.getD 0 0).map V.int ++ ts.map V.int)) hD4
  refine ⟨D4, (ls.map fun r => r.getD 0 0) ++ ts, rfl, SqL.of (by rw [upd_same, List.map_append]), by rw [List.length_append, List.length_map]; omega, fun dl ms hdl hpm _ => ?_⟩
  have msn : ms.length ≤ 40 := by rw [hpm.length_eq, List.length_append, List.length_map]; omega
  have d5 := d4.new (o := .lst (ms.map V.int)) hdl
  have k5 := (KeepBut.of_same (a := a) s1).trans (k4.new (o := .lst (ms.map V.int)) hdl)
  have e5 : L2.upd (L2.upd H3 D4 (.lst ((ls.map fun r => r.getD 0 0).map V.int ++ ts.map V.int))) dl (.lst (ms.map V.int)) dl = some (.lst (ms.map V.int)) := upd_same
  have nda : dl ≠ a := d4.ne hdl
  clear d4 k4 hD4 hz3 hD3 kb3 d3 him hz1 d1 hpm hdl
  generalize L2.upd (L2.upd H3 D4 (.lst ((ls.map fun r => r.getD 0 0).map V.int ++ ts.map V.int))) dl (.lst (ms.map V.int)) = H5 at *
  -- found = []; ahead = 0
  refine ⟨by show 0 ≤ sizeLine; decide, fun fo hfo => ?_⟩
  have nfa : fo ≠ a := d5.ne hfo
  have nfc : fo ≠ c := d5.nc hfo
  have nfd : fo ≠ dl := (ne_of_none e5 hfo).symm
  have fo0 : H fo = none := k5.none nfa hfo
  have d6 := d5.new (o := .lst []) hfo
  have k6 := k5.new (o := .lst []) hfo
  have e6 : L2.upd H5 fo (.lst []) dl = some (.lst (ms.map V.int)) := same_new hfo _ _ _ e5
  have f6 : Rows (L2.upd H5 fo (.lst [])) fo [] := Rows.nil upd_same
  clear d5 k5 e5 hfo
  generalize L2.upd H5 fo (.lst []) = H6 at *
  dsimp only [gName]
  refine ⟨_, rfl, a, c, 4, rfl, d6, by decide, by decide, fun r4 H7 r40 r41 d7 kb7 => ?_⟩
  refine ⟨r4, rfl, by omega, by omega, ?_⟩
  refine for_range (n := r4.toNat) (fun i σ H8 => ∃ (ah : Int) (o5 o6 o7 o8 : Option V) (ss : List (List Int)), σ = [some (.ref a), some (.ref l), some (.ref dl), some (.ref fo), some (.int ah), o5, o6, o7, o8] ∧ DrawAt H8 a c ∧ KeepBut a H H8 ∧ H8 dl = some (.lst (ms.map V.int)) ∧ Rows H8 fo ss ∧ (∀ r ∈ ss, r.length = 2) ∧ ss.length ≤ i) ⟨_, _, _, _, _, [], rfl, d7, k6.trans kb7, kb7 _ _ nda e6, f6.keep nfa d6 kb7, fun r hr => (by cases hr), Nat.le_refl _⟩ ?_ ?_
  · clear d6 k6 e6 f6 d7 kb7
    rintro ii σ H8 hii ⟨ah, o5, o6, o7, o8, ss, rfl, d8, k8, e8, f8, s2, sn⟩
    -- later = [day for day in days if day > ahead]
    refine ⟨_, rfl, dl, rfl, ⟨_, SqL.of e8⟩, fun L hL => ?_⟩
    refine comp_by (fun i zs _ => zs = ((ms.take i).filter fun d => decide (ah < d)).map V.int) hL e8 (by rw [List.length_map]; omega) (fun i zs H1 H2 h k => h) rfl ?_ ?_
    · rintro i x zs H9 ei s9 rfl K1 K2 q1 q2
      obtain ⟨v, rfl, ev⟩ := ints_at ei
      have ft := filter_take (rs := ms) (fun d => decide (ah < d)) ev
      refine ⟨keep_set keep_refl rfl, _, rfl, _, rfl, _, _, rfl, rfl, _, rfl, ?_⟩
      by_cases c1 : ah < v
      · rw [decide_eq_true c1]
        refine iteT ⟨_, rfl, q1 _ _ (Same.refl _) ?_⟩
        rw [ft, if_pos (decide_eq_true c1), List.map_append]; rfl
      · rw [decide_eq_false c1]
        exact iteF (q2 _ (Same.refl _) (by rw [ft, if_neg (fun z => c1 (of_decide_eq_true z)), List.append_nil]))
    rintro zs H9 s9 rfl hl9 hz9
    rw [List.length_map] at hl9
    rw [List.length_map, List.take_length] at hz9
    obtain ⟨lt, elt⟩ : ∃ lt, lt = ms.filter fun d => decide (ah < d) := ⟨_, rfl⟩
    rw [← elt] at hz9
    have ltn : lt.length ≤ 40 := by rw [elt]; exact Nat.le_trans (List.length_filter_le _ _) msn
    have d9 := d8.same s9
    have k9 := k8.trans (KeepBut.of_same (a := a) s9)
    have e9 := s9 _ _ e8
    have f9 := f8.same s9
    have nLa : L ≠ a := d8.ne hL
    clear d8 k8 e8 f8 elt hl9
    dsimp only [gName]
    -- if later != []
    refine ⟨_, rfl, by show 0 ≤ sizeLine; decide, fun e he => ?_⟩
    have sE := same_new (H := H9) he (.lst [])
    refine cmp_nil (sE _ _ hz9) upd_same ⟨_, rfl, ?_⟩
    have d10 := d9.same sE
    have k10 := k9.trans (KeepBut.of_same (a := a) sE)
    have e10 := sE _ _ e9
    have f10 := f9.same sE
    have z10 := sE _ _ hz9
    clear d9 k9 e9 f9 hz9 he
    generalize L2.upd H9 e (.lst []) = H10 at *
    by_cases c1 : (lt.map V.int).length = 0
    · rw [decide_eq_true c1]
      exact iteF ⟨_, _, _, _, _, ss, rfl, d10, k10, e10, f10, s2, by omega⟩
    rw [decide_eq_false c1]
    -- first = one(draw, later)
    refine iteT ⟨_, rfl, _, rfl, a, c, L, _, rfl, d10, z10, nLa, by omega, by rw [List.length_map]; omega, fun i1 x1 H11 ei1 d11 kb11 => ?_⟩
    obtain ⟨fi, rfl, efi⟩ := ints_at ei1
    have z11 := kb11 _ _ nLa z10
    -- last = one(draw, [day for day in later if day >= first])
    refine ⟨_, rfl, _, rfl, L, rfl, ⟨_, SqL.of z11⟩, fun L2' hL2 => ?_⟩
    refine comp_by (fun i zs _ => zs = ((lt.take i).filter fun d => decide (fi ≤ d)).map V.int) hL2 z11 (by rw [List.length_map]; omega) (fun i zs H1 H2 h k => h) rfl ?_ ?_
    · rintro i x zs H12 ei s12 rfl K1 K2 q1 q2
      obtain ⟨v, rfl, ev⟩ := ints_at ei
      have ft := filter_take (rs := lt) (fun d => decide (fi ≤ d)) ev
      refine ⟨keep_set keep_refl rfl, _, rfl, _, rfl, _, _, rfl, rfl, _, rfl, ?_⟩
      by_cases c2 : fi ≤ v
      · rw [decide_eq_true c2]
        refine iteT ⟨_, rfl, q1 _ _ (Same.refl _) ?_⟩
        rw [ft, if_pos (decide_eq_true c2), List.map_append]; rfl
      · rw [decide_eq_false c2]
        exact iteF (q2 _ (Same.refl _) (by rw [ft, if_neg (fun z => c2 (of_decide_eq_true z)), List.append_nil]))
    rintro zs H12 s12 rfl hl12 hz12
    rw [List.length_map, List.take_length] at hz12
    have ne12 : 0 < ((lt.filter fun d => decide (fi ≤ d)).map V.int).length := by
      rw [List.length_map]
      exact List.length_pos_of_mem (List.mem_filter.mpr ⟨List.mem_of_getElem? efi, by simp⟩)
    have n2a' : L2' ≠ a := d11.ne hL2
    refine ⟨a, c, L2', _, rfl, d11.same s12, hz12, n2a', ne12, by rw [List.length_map]; exact Nat.le_trans (List.length_filter_le _ _) (by omega), fun i2 x2 H13 ei2 d13 kb13 => ?_⟩
    obtain ⟨la, rfl, ela⟩ := ints_at ei2
    have k1013 : KeepBut a H10 H13 := (kb11.trans (KeepBut.of_same s12)).trans kb13
    have f13 := f10.keep nfa d10 k1013
    have e13 := k1013 _ _ nda e10
    have k13 := k10.trans k1013
    -- found.append((first, last)); ahead = last
    obtain ⟨ys, ey, eyl, _⟩ := f13.get
    refine ⟨_, rfl, .inl ⟨rfl, _, SqL.of ey⟩, ?_⟩
    refine ⟨_, rfl, _, rfl, by show 2 ≤ sizeLine; decide, fun tp htp => ?_⟩
    have sT := same_new (H := H13) htp (.tup [.int fi, .int la])
    refine ⟨fo, ys, .ref tp, rfl, rfl, sT _ _ ey, small1000 (by omega), ?_⟩
    refine ⟨_, rfl, _, _, _, _, _, ss ++ [[fi, la]], rfl, (d13.new htp).upd nfa nfc, (k13.new htp).young fo0, ?_, f13.push (r := [fi, la]) ey htp, fun r hr => ?_, by rw [List.length_append]; show ss.length + 1 ≤ ii + 1; omega⟩
    · rw [upd_ne nfd.symm]
      exact sT _ _ e13
    · rcases List.mem_append.mp hr with z | z
      · exact s2 r z
      · rw [List.mem_singleton.mp z]; rfl
  · rintro σ H8 ⟨ah, o5, o6, o7, o8, ss, rfl, d8, k8, e8, f8, s2, sn⟩
    exact ⟨_, rfl, q fo ss H8 fo0 d8 k8 f8 s2 (by omega)⟩
end
end K17
set_option maxHeartbeats 4000000
namespace K17
open PySem L2
abbrev s_in_order : Stmt := top 45
abbrev n_in_order : List Str := ["_law_stretches", "_law_ahead", "_law_first", "_law_last"]
abbrev p_in_order : List Str := ["_law_stretches"]
theorem sc_in_order : FnScope n_in_order p_in_order (defScope s_in_order) := ⟨rfl, rfl, rfl, by decide +kernel, rfl, by decide +kernel, by decide +kernel⟩
abbrev s_bent : Stmt := top 46
abbrev n_bent : List Str := ["_law_draw", "_law_stretches", "_law_way", "_law_at"]
abbrev p_bent : List Str := ["_law_draw", "_law_stretches"]
theorem sc_bent : FnScope n_bent p_bent (defScope s_bent) := ⟨rfl, rfl, rfl, by decide +kernel, rfl, by decide +kernel, by decide +kernel⟩
def spBent : Sp := fun vs H Q _ => ∃ (a c s : Addr) (ss : List (List Int)), vs = [.ref a, .ref s] ∧ DrawAt H a c ∧ s ≠ a ∧ Rows H s ss ∧ (∀ r ∈ ss, r.length = 2) ∧ ss.length ≤ 40 ∧
  ∀ s' ss' H', H s' = none → DrawAt H' a c → KeepBut a H H' → Rows H' s' ss' → (∀ r ∈ ss', r.length = 2) → ss'.length ≤ 90 → Q (.ref s') H'
section
variable {P : Program} {w : World} {K : PySem.W.Frag} {mg : Str → Option Value} {base : Heap} {f : Addr} {fd : FuncData} (B : Bn mg)
include B
theorem ok_in_order (F : Fun K "_law_in_order" "_law_in_order" s_in_order f fd) : FnOk P w K mg base CX0 1 f fd p_in_order spRising := by
  refine F.ok sc_in_order (fun vs H Q E h => ?_) (fun cdv A outer s H vs Q E hr h => ?_)
  · obtain ⟨a, ss, rfl, _⟩ := h; rfl
  obtain ⟨a, ss, rfl, hR, h2, q⟩ := h
  refine ⟨_, (pss_cons (ps_set (i := 1) sc_in_order.nd rfl (Or.inl rfl) pe_int)
    (pss_cons (ps_for PassesOwn.never rfl (pi_list (pv 0)) (pg_tup rfl (pgs_cons (pg_name (i := 2) sc_in_order.nd rfl (Or.inl rfl)) (pgs_cons (pg_name (i := 3) sc_in_order.nd rfl (Or.inl rfl)) pgs_nil))) (pss_cons (ps_if (PW.pt (pw_or (pt_cmpR op_le (pv 2) (pv 1) (nomark _)) (pw_or (pt_cmpR op_lt (pv 3) (pv 2) (nomark _)) (pw_or1 (pt_cmpR op_gt (pv 3) pe_int (nomark _)))))) (pss_one (ps_ret pe_bl)) pss_nil)
      (pss_one (ps_set (i := 1) sc_in_order.nd rfl (Or.inl rfl) (pv 3)))))
    (pss_one (ps_ret pe_bl)))), ?_⟩
  obtain ⟨xs, ex, ht⟩ := hR.tups
  refine ⟨_, rfl, a, rfl, ⟨xs, SqL.of ex⟩, ?_⟩
  refine for_list (xs := xs) (fun i σ H3 => ∃ (e : Int) (o2 o3 : Option V), σ = [some (.ref a), some (.int e), o2, o3] ∧ H3 = H ∧ risingB 0 ss = risingB e (ss.drop i)) ⟨_, _, _, rfl, rfl, rfl⟩ ?_ ?_ ?_
  · rintro i σ H3 hi ⟨e, o2, o3, rfl, rfl, _⟩
    exact SqL.of ex
  · rintro i x σ H3 ei ⟨e, o2, o3, rfl, rfl, hb⟩
    obtain ⟨p, r, rfl, er, hp⟩ := ht.at ei
    obtain ⟨d, c, rfl⟩ := len2 (h2 r (List.mem_of_getElem? er))
    have hd : ss.drop i = [d, c] :: ss.drop (i + 1) := by
      obtain ⟨hi, e'⟩ := List.getElem?_eq_some_iff.mp er
      rw [List.drop_eq_getElem_cons hi, e']
    have hs : risingB e ([d, c] :: ss.drop (i + 1)) = (decide (e < d ∧ d ≤ c ∧ c ≤ 999) && risingB c (ss.drop (i + 1))) := rfl
    rw [hd, hs] at hb
    refine ⟨p, _, rfl, SqT.of hp, rfl, _, _, rfl, _, _, rfl, rfl, ?_⟩
    have no : ¬ (e < d ∧ d ≤ c ∧ c ≤ 999) → Q (.bl false) H3 := fun z => by
      rw [decide_eq_false z, Bool.false_and] at hb
      rw [← hb]; exact q
    refine ⟨_, rfl, _, rfl, _, _, rfl, rfl, _, rfl, ?_⟩
    by_cases c1 : d ≤ e
    · rw [decide_eq_true c1]
      exact iteT (iteT (no (by omega)))
    · rw [decide_eq_false c1]
      refine iteF ⟨_, rfl, _, rfl, _, _, rfl, rfl, _, rfl, ?_⟩
      by_cases c2 : c < d
      · rw [decide_eq_true c2]
        exact iteT (iteT (no (by omega)))
      · rw [decide_eq_false c2]
        refine iteF ⟨_, rfl, _, _, rfl, rfl, _, rfl, ?_⟩
        by_cases c3 : 999 < c
        · rw [decide_eq_true c3]
          exact iteT (no (by omega))
        · rw [decide_eq_false c3]
          refine iteF ⟨_, rfl, c, _, _, rfl, rfl, ?_⟩
          rw [hb, decide_eq_true ⟨by omega, by omega, by omega⟩, Bool.true_and]
  · rintro σ H3 ⟨e, o2, o3, rfl, rfl, hb⟩
    rw [ht.1, List.drop_length] at hb
    have : risingB 0 ss = true := hb
    rw [this] at q
    exact q
theorem ok_bent (G_pick : Cal P w K mg base CX0 1 "_law_pick" p_pick spPick) (G_odd : Cal P w K mg base CX0 2 "_law_odd" p_odd spOdd) (F : Fun K "_law_bent" "_law_bent" s_bent f fd) : FnOk P w K mg base CX0 3 f fd p_bent spBent := by
  refine F.ok sc_bent (fun vs H Q E h => ?_) (fun cdv A outer s H vs Q E hr h => ?_)
  · obtain ⟨a, c, s, ss, rfl, _⟩ := h; rfl
  obtain ⟨a, c, sr, ss, rfl, d0, nsa, hR, h2, hn, q⟩ := h
  refine ⟨_, (pss_cons (ps_set (i := 2) sc_bent.nd rfl (Or.inl rfl) (pe_cal G_pick hr rfl pass0 (pa_c (pv 0) (pa_c pe_int pa_nil))))
    (pss_cons (ps_if (PW.pt (pw_or (pt_cmpR (op_eqL hr.units) (pv 1) (pe_lst pa_nil) (nomark _)) (pw_or1 (pt_cmpR op_eq (pv 2) pe_int (nomark _))))) (pss_one (ps_ret (pe_op op_cat (pv 1) (pe_lst (pa_c (pe_tup (pa_c (pe_cal G_odd hr rfl pass0 (pa_c (pv 0) pa_nil)) (pa_c (pe_cal G_odd hr rfl pass0 (pa_c (pv 0) pa_nil)) pa_nil))) pa_nil))))) pss_nil)
    (pss_cons (ps_set (i := 3) sc_bent.nd rfl (Or.inl rfl) (pe_cal G_pick hr rfl pass0 (pa_c (pv 0) (pa_c (pe_callB call_len_seq rfl B.len PySem.boot_len (pa_c (pv 1) pa_nil)) pa_nil))))
    (pss_cons (ps_if (pt_cmpR op_eq (pv 2) pe_int (nomark _)) (pss_one (ps_ret (pe_rev (pv 1) pe_m1))) pss_nil)
    (pss_cons (ps_if (pt_cmpR op_eq (pv 2) pe_int (nomark _)) (pss_one (ps_ret (pe_op op_cat (pe_op op_cat (pe_slice sl_list (pv 1) po_none (po_some (pv 3))) (pe_lst (pa_c (pe_ix ix_list (pv 1) (pv 3) (fun _ _ => rfl)) pa_nil))) (pe_slice sl_list (pv 1) (po_some (pv 3)) po_none)))) pss_nil)
    (pss_one (ps_ret (pe_op op_cat (pe_op op_cat (pe_slice sl_list (pv 1) po_none (po_some (pv 3))) (pe_lst (pa_c (pe_tup (pa_c (pe_ix ix_tup (pe_ix ix_list (pv 1) (pv 3) (fun _ _ => rfl)) pe_int (fun _ _ => rfl)) (pa_c (pe_ix ix_tup (pe_ix ix_list (pv 1) (pv 3) (fun _ _ => rfl)) pe_int (fun _ _ => rfl)) pa_nil))) pa_nil))) (pe_slice sl_list (pv 1) (po_some (pe_op op_add (pv 3) pe_int)) po_none))))))))), ?_⟩
  refine ⟨_, rfl, a, c, 4, rfl, d0, by decide, by decide, fun way H1 w0 w1 d1 kb1 => ?_⟩
  have R1 := hR.keep nsa d0 kb1
  obtain ⟨xs, ex, hx⟩ := R1.tups
  have lx := hx.1
  dsimp only [gName]
  -- stretches == [] or way == 0
  refine tSeq_by (fun σ' H' => σ' = [some (.ref a), some (.ref sr), some (.int way), none] ∧ Same H1 H' ∧ DrawAt H' a c ∧ 0 < xs.length ∧ way ≠ 0) (fun D' nx rt => ?_) ?_
  · refine ⟨_, rfl, by show 0 ≤ sizeLine; decide, fun e he => ?_⟩
    have sE := same_new (H := H1) he (.lst [])
    refine cmp_nil (sE _ _ ex) upd_same ⟨_, rfl, ?_⟩
    have d2 := d1.same sE
    have x2 := sE _ _ ex
    have t2 := hx.same sE
    generalize L2.upd H1 e (.lst []) = H2 at *
    have k2 : KeepBut a H H2 := kb1.trans (KeepBut.of_same sE)
    have go : tRet (tOp rCat (tVar 1) (tLst (tCons (tTup (tCons (tCall spOdd [] E0 (tCons (tVar 0) tNil)) (tCons (tCall spOdd [] E0 (tCons (tVar 0) tNil)) tNil))) tNil))) D' [some (.ref a), some (.ref sr), some (.int way), none] H2 := by
      refine ⟨_, rfl, _, rfl, a, c, rfl, d2, fun v3 H3 d3 kb3 => ⟨_, rfl, a, c, rfl, d3, fun v4 H4 d4 kb4 => ⟨by show 2 ≤ sizeLine; decide, fun tp htp => ⟨by show 1 ≤ sizeLine; decide, fun ll hll => ?_⟩⟩⟩⟩
      have k24 : KeepBut a H2 H4 := kb3.trans kb4
      have sT := same_new (H := H4) htp (.tup [.int v3, .int v4])
      have sL := sT.trans (same_new hll (.lst [.ref tp]))
      have x4 := sL _ _ (k24 _ _ nsa x2)
      refine ⟨sr, ll, xs, [.ref tp], rfl, rfl, x4, upd_same, Nat.le_of_lt (small1000 (by rw [List.length_singleton]; omega)), fun s' hs' => ?_⟩
      have sS := sL.trans (same_new hs' (.lst (xs ++ [.ref tp])))
      rw [rt]
      refine q s' (ss ++ [[v3, v4]]) _ ?_ (d4.same sS) ((k2.trans k24).trans (KeepBut.of_same sS)) ?_ (fun r hr => ?_) (by rw [List.length_append, List.length_singleton]; omega)
      · exact (k2.trans k24).none ((d4.same sL).ne hs') (sL.free hs')
      · refine Tups.rows (xs := xs ++ [.ref tp]) ((((t2.draw d2 k24).same sS)).append (Tups.one ?_)) upd_same
        exact same_new hs' _ _ _ (same_new hll _ _ _ upd_same)
      · rcases List.mem_append.mp hr with z | z
        · exact h2 r z
        · rw [List.mem_singleton.mp z]; rfl
    by_cases c1 : xs.length = 0
    · rw [decide_eq_true c1]
      exact iteT (iteT go)
    · rw [decide_eq_false c1]
      refine iteF ⟨_, rfl, rfl, _, rfl, ?_⟩
      by_cases c2 : way = 0
      · rw [decide_eq_true (congrArg V.int c2)]
        exact iteT go
      · rw [decide_eq_false (fun z => c2 (V.int.inj z))]
        exact iteF (nx _ _ ⟨rfl, sE, d2, by omega, c2⟩)
  rintro σ' H2 ⟨rfl, s2, d2, xpos, wne⟩
  have x2 := s2 _ _ ex
  -- at = pick(draw, len(stretches))
  refine ⟨_, rfl, _, rfl, sr, _, rfl, .inl (SqL.of x2), a, c, _, rfl, d2, by omega, by omega, fun at' H3 at0 at1 d3 kb3 => ?_⟩
  have x3 := kb3 _ _ nsa x2
  have t3 := (hx.same s2).draw d2 kb3
  have k3 : KeepBut a H H3 := (kb1.trans (KeepBut.of_same s2)).trans kb3
  clear x2 d2 s2 ex hx R1 kb1 d1
  dsimp only [gName]
  have hat : at'.toNat < xs.length := by omega
  obtain ⟨pa, ra, ea, era, hpa⟩ := t3.at (List.getElem?_eq_getElem hat)
  have eat : atI xs at' = some (.ref pa) := atI_some at0 (by rw [List.getElem?_eq_getElem hat, ea])
  obtain ⟨u, v, rfl⟩ := len2 (h2 ra (List.mem_of_getElem? era))
  refine ⟨_, rfl, rfl, _, rfl, ?_⟩
  by_cases c1 : way = 1
  · rw [decide_eq_true (congrArg V.int c1)]
    -- stretches[::-1]
    refine iteT ⟨_, rfl, sr, xs, rfl, SqL.of x3, fun s' hs' => ?_⟩
    have sS := same_new (H := H3) hs' (.lst xs.reverse)
    exact q s' ss.reverse _ (k3.none (d3.ne hs') hs') (d3.same sS) (k3.trans (KeepBut.of_same sS)) ((t3.reverse.same sS).rows upd_same) (fun r hr => h2 r (List.mem_reverse.mp hr)) (by rw [List.length_reverse]; omega)
  rw [decide_eq_false (fun z => c1 (V.int.inj z))]
  refine iteF ⟨_, rfl, rfl, _, rfl, ?_⟩
  have done : ∀ (H4 : Hp) (s' : Addr) (hs' : H4 s' = none) (s4 : Same H3 H4) (y1 y2 y3 : List V) (r1 r2 r3 : List (List Int)), Tups H4 y1 r1 → Tups H4 y2 r2 → Tups H4 y3 r3 → r1.length ≤ ss.length → r2.length = 1 → r3.length ≤ ss.length → (∀ r ∈ r1, r ∈ ss) → (∀ r ∈ r2, r.length = 2) → (∀ r ∈ r3, r ∈ ss) → Q (.ref s') (L2.upd H4 s' (.lst (y1 ++ y2 ++ y3))) := fun H4 s' hs' s4 y1 y2 y3 r1 r2 r3 t1 t2 t3' n1 n2 n3 m1 m2 m3 => by
    have sS := same_new (H := H4) hs' (.lst (y1 ++ y2 ++ y3))
    refine q s' (r1 ++ r2 ++ r3) _ (k3.none (d3.ne (s4.free hs')) (s4.free hs')) ((d3.same s4).same sS) ((k3.trans (KeepBut.of_same s4)).trans (KeepBut.of_same sS)) ((((t1.append t2).append t3').same sS).rows upd_same) (fun r hr => ?_) (by rw [List.length_append, List.length_append]; omega)
    rcases List.mem_append.mp hr with z | z
    · rcases List.mem_append.mp z with z | z
      · exact h2 r (m1 r z)
      · exact m2 r z
    · exact h2 r (m3 r z)
  by_cases c2 : way = 2
  · rw [decide_eq_true (congrArg V.int c2)]
    -- stretches[:at] + [stretches[at]] + stretches[at:]
    refine iteT ⟨_, rfl, _, rfl, _, rfl, sr, xs, rfl, SqL.of x3, fun z1 hz1 => ?_⟩
    have s4 := same_new (H := H3) hz1 (.lst (cutV xs none (some at')))
    refine ⟨_, rfl, _, rfl, sr, _, _, .ref pa, rfl, rfl, SqL.of (s4 _ _ x3), eat, by show 1 ≤ sizeLine; decide, fun z2 hz2 => ?_⟩
    have s5 := s4.trans (same_new hz2 (.lst [.ref pa]))
    obtain ⟨r1, t1, n1, m1⟩ := t3.cut none (some at')
    have l1 := t1.1
    refine ⟨z1, z2, _, _, rfl, rfl, same_new hz2 _ _ _ upd_same, upd_same, Nat.le_of_lt (small1000 (by rw [List.length_singleton]; omega)), fun z3 hz3 => ?_⟩
    have s6 := s5.trans (same_new hz3 (.lst (cutV xs none (some at') ++ [.ref pa])))
    refine ⟨_, rfl, _, rfl, _, rfl, sr, xs, rfl, SqL.of (s6 _ _ x3), fun z4 hz4 => ?_⟩
    have s7 := s6.trans (same_new hz4 (.lst (cutV xs (some at') none)))
    obtain ⟨r3, t3', n3, m3⟩ := t3.cut (some at') none
    have l3 := t3'.1
    refine ⟨z3, z4, _, _, rfl, rfl, same_new hz4 _ _ _ upd_same, upd_same, Nat.le_of_lt (small1000 (by rw [List.length_append, List.length_singleton]; omega)), fun s' hs' => ?_⟩
    exact done _ s' hs' s7 _ _ _ r1 [[u, v]] r3 (t1.same s7) (Tups.one (s7 _ _ hpa)) (t3'.same s7) n1 rfl n3 m1 (fun r hr => by rw [List.mem_singleton.mp hr]; rfl) m3
  · rw [decide_eq_false (fun z => c2 (V.int.inj z))]
    refine iteF ?_
    -- stretches[:at] + [(stretches[at][1], stretches[at][0])] + stretches[at + 1:]
    refine ⟨_, rfl, _, rfl, _, rfl, sr, xs, rfl, SqL.of x3, fun z1 hz1 => ?_⟩
    have s4 := same_new (H := H3) hz1 (.lst (cutV xs none (some at')))
    refine ⟨_, rfl, _, rfl, sr, _, _, .ref pa, rfl, rfl, SqL.of (s4 _ _ x3), eat, pa, _, _, .int v, rfl, rfl, SqT.of (s4 _ _ hpa), rfl, _, rfl, _, rfl, sr, _, _, .ref pa, rfl, rfl, SqL.of (s4 _ _ x3), eat, pa, _, _, .int u, rfl, rfl, SqT.of (s4 _ _ hpa), rfl, by show 2 ≤ sizeLine; decide, fun tp htp => ⟨by show 1 ≤ sizeLine; decide, fun z2 hz2 => ?_⟩⟩
    have s5 := (s4.trans (same_new htp (.tup [.int v, .int u]))).trans (same_new hz2 (.lst [.ref tp]))
    obtain ⟨r1, t1, n1, m1⟩ := t3.cut none (some at')
    have l1 := t1.1
    refine ⟨z1, z2, _, _, rfl, rfl, same_new hz2 _ _ _ (same_new htp _ _ _ upd_same), upd_same, Nat.le_of_lt (small1000 (by rw [List.length_singleton]; omega)), fun z3 hz3 => ?_⟩
    have s6 := s5.trans (same_new hz3 (.lst (cutV xs none (some at') ++ [.ref tp])))
    refine ⟨_, rfl, _, rfl, _, _, rfl, rfl, _, rfl, sr, xs, rfl, SqL.of (s6 _ _ x3), fun z4 hz4 => ?_⟩
    have s7 := s6.trans (same_new hz4 (.lst (cutV xs (some (at' + 1)) none)))
    obtain ⟨r3, t3', n3, m3⟩ := t3.cut (some (at' + 1)) none
    have l3 := t3'.1
    refine ⟨z3, z4, _, _, rfl, rfl, same_new hz4 _ _ _ upd_same, upd_same, Nat.le_of_lt (small1000 (by rw [List.length_append, List.length_singleton]; omega)), fun s' hs' => ?_⟩
    refine done _ s' hs' s7 _ _ _ r1 [[v, u]] r3 (t1.same s7) (Tups.one ?_) (t3'.same s7) n1 rfl n3 m1 (fun r hr => by rw [List.mem_singleton.mp hr]; rfl) m3
    exact same_new hz4 _ _ _ (same_new hz3 _ _ _ (same_new hz2 _ _ _ upd_same))
end
end K17
set_option maxHeartbeats 4000000
namespace K17
open PySem L2
abbrev s_same : Stmt := top 44
abbrev n_same : List Str := ["_law_found", "_law_due"]
abbrev p_same : List Str := ["_law_found", "_law_due"]
theorem sc_same : FnScope n_same p_same (defScope s_same) := ⟨rfl, rfl, rfl, by decide +kernel, rfl, by decide +kernel, by decide +kernel⟩
/-- equal data are the same; n calls are allowed -/
def spSame : Nat → Sp
  | 0 => fun _ _ _ _ => False
  | n + 1 => fun vs H Q _ => ∃ v u, vs = [v, u] ∧ EqD H n v u ∧ ∀ H', Same H H' → Q (.bl true) H'
/-- the comprehension's own table, read off the text -/
def compScope : Expr → Scope
  | .ListComp _ _ sc _ => sc
  | _ => defScope (.Pass ⟨0, 0, 0, 0⟩)
def retArg : Stmt → Expr
  | .Return (some (.Call _ (e :: _) _ _)) _ => e
  | _ => .Constant .none 0 ⟨0, 0, 0, 0⟩
section
variable {P : Program} {w : World} {K : PySem.W.Frag} {mg : Str → Option Value} {base : Heap} {f : Addr} {fd : FuncData}
theorem nd2 : (["_law_one_here", "_law_other"] : List Str).Nodup := by decide +kernel
abbrev g2 (K : PySem.W.Frag) : TG := gTup K 2 (gCons (gName 0) (gCons (gName 1) gNil))
/-- the walk over the pairs of two sequences of equal data -/
theorem same_comp {m : Nat} {H2 : Hp} {a b : Addr} {xs ys : List V} {bb : Bool} {Q : VK} (hl : xs.length = ys.length) (hs : xs.length ≤ 1000) (hx : ∀ (i : Nat) x y, xs[i]? = some x → ys[i]? = some y → EqD H2 m x y) (hb : ∀ H', Same H2 H' → SqB K H' bb a xs ∧ SqB K H' bb b ys)
    (q : ∀ H', Same H2 H' → Q (.bl true) H') : tComp [none, none] (iZip K (tCons (tVar 0) (tCons (tVar 1) tNil))) (g2 K) tIf0 (tCall (spSame (m + 1)) [] E0 (tCons (tVar 0) (tCons (tVar 1) tNil))) [some (.ref a), some (.ref b)] H2
      (fun x H3 => ∃ (p : Addr) (bs : List Bool), [x] = [V.ref p] ∧ SqL K H3 p (bs.map V.bl) ∧ Q (.bl (bs.all id)) H3) := by
  obtain ⟨q1, q2⟩ := hb H2 (Same.refl H2)
  refine ⟨_, rfl, _, rfl, bb, bb, a, b, xs, ys, rfl, q1, q2, fun D hD => ⟨fun i m' H4 => i + m' = xs.length ∧ Same H2 H4 ∧ H4 D = some (.lst (List.replicate i (.bl true))), ⟨xs.length, by omega, same_new hD _, upd_same⟩, ?_⟩⟩
  rintro i m' H4 ⟨him, sm, hD4⟩
  obtain ⟨r1, r2⟩ := hb H4 sm
  by_cases hi : i < xs.length
  · refine .inr ⟨⟨xs, ys, xs[i], ys[i]'(by omega), r1, r2, List.getElem?_eq_getElem hi, List.getElem?_eq_getElem (by omega)⟩, ?_⟩
    rintro x H' ⟨p, x', y', rfl, hp, rfl, hxy⟩
    obtain ⟨e1, e2⟩ := hxy xs ys r1 r2
    refine ⟨p, _, rfl, SqT.of upd_same, rfl, _, _, rfl, _, _, rfl, rfl, ?_, ?_⟩
    · intro k v e
      match k, e with
      | 0, e => cases e
      | 1, e => cases e
      | k + 2, e => cases e
    · refine ⟨_, rfl, _, rfl, x', y', rfl, (hx i x' y' e1 e2).same (sm.trans (same_new hp _)), fun H5 s5 => ?_⟩
      have hD5 := s5 _ _ (show L2.upd H4 p (.tup [x', y']) D = some (.lst (List.replicate i (.bl true))) by rw [upd_ne (ne_of_none hD4 hp)]; exact hD4)
      refine ⟨_, hD5, small1000 (by rw [List.length_replicate]; omega), m' - 1, by omega, by omega, fun c o e => ?_, ?_⟩
      · rw [upd_ne (ne_of_none e hD)]
        exact s5 _ _ (same_new hp _ _ _ (sm _ _ e))
      · rw [upd_same, List.replicate_succ']
  · refine .inl ⟨⟨xs, ys, r1, r2, .inl (by omega)⟩, D, List.replicate i true, rfl, SqL.of (by rw [List.map_replicate]; exact hD4), ?_⟩
    have e : (List.replicate i true).all id = true := List.all_eq_true.mpr fun b hb => by rw [List.eq_of_mem_replicate hb]; rfl
    rw [e]
    exact q H4 sm
theorem ok_same1 {n : Nat} (F : Fun K "_law_same" "_law_same" s_same f fd) (B : Bn mg) (G : FnOk P w K mg base CX0 n f fd n_same (spSame n)) (b1 : Binds K fd n_same []) (k1 : PySem.W.keepIn K (.ref f) = true) (m1 : mg "_law_same" = some (.ref f)) :
    FnOk P w K mg base CX0 (n + 1) f fd n_same (spSame (n + 1)) := by
  refine F.ok sc_same (fun vs H Q E h => ?_) (fun cdv A outer s H vs Q E hr h => ?_)
  · obtain ⟨v, u, rfl, _⟩ := h; rfl
  obtain ⟨v, u, rfl, heq, q⟩ := h
  refine ⟨_, pss_cons (ps_if (pt_cmpR op_isN (pv 1) pe_non (nomark _)) (pss_one (ps_ret (pe_cmpR op_isN (pv 0) pe_non (nomark _)))) pss_nil)
    (pss_cons (ps_if (PW.pt (pw_or (pt_truth (pe_callB call_isi rfl B.isi PyProof.Rows.boot_isinstance (pa_c (pv 1) (pa_c (pe_bltn rfl B.bool PyProof.Rows.boot_bool (v := .ty "bool") rfl) pa_nil))) (fun _ => rfl)) (pw_or1 (pt_truth (pe_callB call_isi rfl B.isi PyProof.Rows.boot_isinstance (pa_c (pv 0) (pa_c (pe_bltn rfl B.bool PyProof.Rows.boot_bool (v := .ty "bool") rfl) pa_nil))) (fun _ => rfl)))))
      (pss_one (ps_ret (pe_and (pe_callB call_isi rfl B.isi PyProof.Rows.boot_isinstance (pa_c (pv 1) (pa_c (pe_bltn rfl B.bool PyProof.Rows.boot_bool (v := .ty "bool") rfl) pa_nil))) (pe_and (pe_callB call_isi rfl B.isi PyProof.Rows.boot_isinstance (pa_c (pv 0) (pa_c (pe_bltn rfl B.bool PyProof.Rows.boot_bool (v := .ty "bool") rfl) pa_nil))) (pe_one (pe_cmpR op_eq (pv 0) (pv 1) (nomark _))))))) pss_nil)
    (pss_cons (ps_if (pt_truth (pe_callB call_isT rfl B.isi PyProof.Rows.boot_isinstance (pa_c (pv 1) (pa_c (pe_tup (pa_c (pe_bltn rfl B.int PyProof.Rows.boot_int (v := .ty "int") rfl) (pa_c (pe_bltn rfl B.str PyProof.Rows.boot_str (v := .ty "str") rfl) pa_nil))) pa_nil))) (fun _ => rfl))
      (pss_one (ps_ret (pe_and (pe_cmpR op_eq (pe_callB call_isi rfl B.isi PyProof.Rows.boot_isinstance (pa_c (pv 0) (pa_c (pe_bltn rfl B.int PyProof.Rows.boot_int (v := .ty "int") rfl) pa_nil))) (pe_callB call_isi rfl B.isi PyProof.Rows.boot_isinstance (pa_c (pv 1) (pa_c (pe_bltn rfl B.int PyProof.Rows.boot_int (v := .ty "int") rfl) pa_nil))) (nomark _))
        (pe_and (pe_callB call_isT rfl B.isi PyProof.Rows.boot_isinstance (pa_c (pv 0) (pa_c (pe_tup (pa_c (pe_bltn rfl B.int PyProof.Rows.boot_int (v := .ty "int") rfl) (pa_c (pe_bltn rfl B.str PyProof.Rows.boot_str (v := .ty "str") rfl) pa_nil))) pa_nil))) (pe_one (pe_cmpR op_eq (pv 0) (pv 1) (nomark _))))))) pss_nil)
    (pss_cons (ps_if (PW.pt (pw_or (pt_cmpR op_ne (pe_callB call_isi rfl B.isi PyProof.Rows.boot_isinstance (pa_c (pv 0) (pa_c (pe_bltn rfl B.list PyProof.Rows.boot_list (v := .ty "list") rfl) pa_nil))) (pe_callB call_isi rfl B.isi PyProof.Rows.boot_isinstance (pa_c (pv 1) (pa_c (pe_bltn rfl B.list PyProof.Rows.boot_list (v := .ty "list") rfl) pa_nil))) (nomark _))
        (pw_or1 (pt_cmpR op_ne (pe_callB call_isi rfl B.isi PyProof.Rows.boot_isinstance (pa_c (pv 0) (pa_c (pe_bltn rfl B.tuple PyProof.Rows.boot_tuple (v := .ty "tuple") rfl) pa_nil))) (pe_callB call_isi rfl B.isi PyProof.Rows.boot_isinstance (pa_c (pv 1) (pa_c (pe_bltn rfl B.tuple PyProof.Rows.boot_tuple (v := .ty "tuple") rfl) pa_nil))) (nomark _)))))
      (pss_one (ps_ret pe_bl)) pss_nil)
    (pss_cons (ps_if (pt_cmpR op_ne (pe_callB call_len_seq rfl B.len PySem.boot_len (pa_c (pv 0) pa_nil)) (pe_callB call_len_seq rfl B.len PySem.boot_len (pa_c (pv 1) pa_nil)) (nomark _)) (pss_one (ps_ret pe_bl)) pss_nil)
    (pss_one (ps_ret (pe_callB (call_allB rfl) rfl B.all PyProof.Rows.boot_all (pa_c (pe_comp (N' := ["_law_one_here", "_law_other"]) (ix := [none, none]) (g := g2 K) (ti := tIf0) (te := tCall (spSame n) [] E0 (tCons (tVar 0) (tCons (tVar 1) tNil))) rfl (comp_scope (N := n_same) (D := defScope s_same) (by decide +kernel)) (pi_zip rfl B.zip (pa_c (pv 0) (pa_c (pv 1) pa_nil)))
      (fun C s H fp => pg_tup rfl (pgs_cons (pg_name (i := 0) nd2 rfl (Or.inl rfl)) (pgs_cons (pg_name (i := 1) nd2 rfl (Or.inl rfl)) pgs_nil))) (fun _ _ _ _ => pifs_nil) (fun C s H fp => pe_call G hr rfl m1 k1 b1 .nil pass0 (pa_c (pv 0) (pa_c (pv 1) pa_nil)))) pa_nil)))))))), ?_⟩
  have sN : ∀ {p : Addr} {o : HO}, H p = none → Same H (L2.upd H p o) := fun hp => same_new hp _
  cases heq with
  | flat hf =>
    cases v with
    | non =>
      refine ⟨_, rfl, rfl, _, rfl, ?_⟩
      refine iteT ?_
      exact ⟨_, rfl, rfl, q H (Same.refl H)⟩
    | bl b =>
      refine ⟨_, rfl, rfl, _, rfl, ?_⟩
      refine iteF ?_
      refine ⟨_, rfl, _, _, _, _, true, rfl, rfl, TyOf.bl b, by kernel_rfl, _, rfl, ?_⟩
      refine iteT (iteT ?_)
      refine ⟨_, rfl, _, _, _, _, true, rfl, rfl, TyOf.bl b, by kernel_rfl, _, rfl, ?_⟩
      refine iteT ⟨_, rfl, _, _, _, _, true, rfl, rfl, TyOf.bl b, by kernel_rfl, _, rfl, ?_⟩
      refine iteT ⟨_, rfl, _, rfl, rfl, ?_⟩
      rw [decide_eq_true (rfl : V.bl b = V.bl b)]
      exact q H (Same.refl H)
    | int i =>
      refine ⟨_, rfl, rfl, _, rfl, ?_⟩
      refine iteF ?_
      refine ⟨_, rfl, _, _, _, _, false, rfl, rfl, TyOf.int i, by kernel_rfl, _, rfl, ?_⟩
      refine iteF ⟨_, rfl, _, _, _, _, false, rfl, rfl, TyOf.int i, by kernel_rfl, _, rfl, ?_⟩
      refine iteF ?_
      refine ⟨_, rfl, by show 2 ≤ sizeLine; decide, fun p hp => ⟨_, p, _, _, [.type "int", .type "str"], true, rfl, upd_same, rfl, TyOf.int i, by kernel_rfl, _, rfl, ?_⟩⟩
      refine iteT ?_
      refine ⟨_, rfl, _, _, _, _, true, rfl, rfl, TyOf.int i, by kernel_rfl, _, rfl, _, _, _, _, true, rfl, rfl, TyOf.int i, by kernel_rfl, rfl, _, rfl, ?_⟩
      refine iteT ⟨_, rfl, by show 2 ≤ sizeLine; decide, fun p2 hp2 => ⟨_, p2, _, _, [.type "int", .type "str"], true, rfl, upd_same, rfl, TyOf.int i, by kernel_rfl, _, rfl, ?_⟩⟩
      refine iteT ⟨_, rfl, _, rfl, rfl, ?_⟩
      rw [decide_eq_true (rfl : V.int i = V.int i)]
      exact q _ ((sN hp).trans (same_new hp2 _))
    | str x =>
      refine ⟨_, rfl, rfl, _, rfl, ?_⟩
      refine iteF ?_
      refine ⟨_, rfl, _, _, _, _, false, rfl, rfl, TyOf.str x, by kernel_rfl, _, rfl, ?_⟩
      refine iteF ⟨_, rfl, _, _, _, _, false, rfl, rfl, TyOf.str x, by kernel_rfl, _, rfl, ?_⟩
      refine iteF ?_
      refine ⟨_, rfl, by show 2 ≤ sizeLine; decide, fun p hp => ⟨_, p, _, _, [.type "int", .type "str"], true, rfl, upd_same, rfl, TyOf.str x, by kernel_rfl, _, rfl, ?_⟩⟩
      refine iteT ?_
      refine ⟨_, rfl, _, _, _, _, false, rfl, rfl, TyOf.str x, by kernel_rfl, _, rfl, _, _, _, _, false, rfl, rfl, TyOf.str x, by kernel_rfl, rfl, _, rfl, ?_⟩
      refine iteT ⟨_, rfl, by show 2 ≤ sizeLine; decide, fun p2 hp2 => ⟨_, p2, _, _, [.type "int", .type "str"], true, rfl, upd_same, rfl, TyOf.str x, by kernel_rfl, _, rfl, ?_⟩⟩
      refine iteT ⟨_, rfl, _, rfl, rfl, ?_⟩
      rw [decide_eq_true (rfl : V.str x = V.str x)]
      exact q _ ((sN hp).trans (same_new hp2 _))
    | _ => exact absurd (show false = true from hf) Bool.false_ne_true
  | @tup m a b xs ys h1 h2 hl hs hx =>
    refine ⟨_, rfl, rfl, _, rfl, ?_⟩
    refine iteF ?_
    refine ⟨_, rfl, _, _, _, _, false, rfl, rfl, TyOf.tup h2, by kernel_rfl, _, rfl, ?_⟩
    refine iteF ⟨_, rfl, _, _, _, _, false, rfl, rfl, TyOf.tup h1, by kernel_rfl, _, rfl, ?_⟩
    refine iteF ?_
    refine ⟨_, rfl, by show 2 ≤ sizeLine; decide, fun p hp => ?_⟩
    have g1 := sN (o := .tup [.ty "int", .ty "str"]) hp _ _ h1
    have g2 := sN (o := .tup [.ty "int", .ty "str"]) hp _ _ h2
    refine ⟨_, p, _, _, [.type "int", .type "str"], false, rfl, upd_same, rfl, TyOf.tup g2, by kernel_rfl, _, rfl, ?_⟩
    refine iteF ?_
    refine ⟨_, rfl, _, _, _, _, false, rfl, rfl, TyOf.tup g1, by kernel_rfl, _, rfl, _, _, _, _, false, rfl, rfl, TyOf.tup g2, by kernel_rfl, rfl, _, rfl, ?_⟩
    refine iteF ⟨_, rfl, _, _, _, _, true, rfl, rfl, TyOf.tup g1, by kernel_rfl, _, rfl, _, _, _, _, true, rfl, rfl, TyOf.tup g2, by kernel_rfl, rfl, _, rfl, ?_⟩
    refine iteF ?_
    refine ⟨_, rfl, a, _, rfl, .inr (SqT.of g1), _, rfl, b, _, rfl, .inr (SqT.of g2), rfl, _, rfl, ?_⟩
    refine iteNS (by rw [hl]) ?_
    exact same_comp (bb := false) hl hs (fun i x y e1 e2 => (hx i x y e1 e2).same (sN hp)) (fun H' sm => ⟨SqT.of (sm _ _ g1), SqT.of (sm _ _ g2)⟩) fun H' sm => q H' ((sN hp).trans sm)
  | @lst m a b xs ys h1 h2 hl hs hx =>
    refine ⟨_, rfl, rfl, _, rfl, ?_⟩
    refine iteF ?_
    refine ⟨_, rfl, _, _, _, _, false, rfl, rfl, TyOf.lst h2, by kernel_rfl, _, rfl, ?_⟩
    refine iteF ⟨_, rfl, _, _, _, _, false, rfl, rfl, TyOf.lst h1, by kernel_rfl, _, rfl, ?_⟩
    refine iteF ?_
    refine ⟨_, rfl, by show 2 ≤ sizeLine; decide, fun p hp => ?_⟩
    have g1 := sN (o := .tup [.ty "int", .ty "str"]) hp _ _ h1
    have g2 := sN (o := .tup [.ty "int", .ty "str"]) hp _ _ h2
    refine ⟨_, p, _, _, [.type "int", .type "str"], false, rfl, upd_same, rfl, TyOf.lst g2, by kernel_rfl, _, rfl, ?_⟩
    refine iteF ?_
    refine ⟨_, rfl, _, _, _, _, true, rfl, rfl, TyOf.lst g1, by kernel_rfl, _, rfl, _, _, _, _, true, rfl, rfl, TyOf.lst g2, by kernel_rfl, rfl, _, rfl, ?_⟩
    refine iteF ⟨_, rfl, _, _, _, _, false, rfl, rfl, TyOf.lst g1, by kernel_rfl, _, rfl, _, _, _, _, false, rfl, rfl, TyOf.lst g2, by kernel_rfl, rfl, _, rfl, ?_⟩
    refine iteF ?_
    refine ⟨_, rfl, a, _, rfl, .inl (SqL.of g1), _, rfl, b, _, rfl, .inl (SqL.of g2), rfl, _, rfl, ?_⟩
    refine iteNS (by rw [hl]) ?_
    exact same_comp (bb := true) hl hs (fun i x y e1 e2 => (hx i x y e1 e2).same (sN hp)) (fun H' sm => ⟨SqL.of (sm _ _ g1), SqL.of (sm _ _ g2)⟩) fun H' sm => q H' ((sN hp).trans sm)
theorem ok_same (F : Fun K "_law_same" "_law_same" s_same f fd) (B : Bn mg) (b1 : Binds K fd n_same []) (k1 : PySem.W.keepIn K (.ref f) = true) (m1 : mg "_law_same" = some (.ref f)) : ∀ n : Nat, FnOk P w K mg base CX0 n f fd n_same (spSame n)
  | 0 => ⟨fun _ _ _ _ h => False.elim h, fun _ _ _ _ _ _ _ _ _ _ _ _ _ h => False.elim h⟩
  | n + 1 => ok_same1 F B (ok_same F B b1 k1 m1 n) b1 k1 m1
end
end K17
set_option maxHeartbeats 4000000
namespace K17
open PySem L2
abbrev s_law : Stmt := top 47
abbrev n_law : List Str := ["_law_script", "_law_draw", "_law_lots", "_law_outs", "_law_term", "_law_k", "_law_duty", "_law_stretches", "_law_units", "_law_kept", "_law_due"]
abbrev p_law : List Str := ["_law_script"]
theorem sc_law : FnScope n_law p_law (defScope s_law) := ⟨rfl, rfl, rfl, by decide +kernel, rfl, by decide +kernel, by decide +kernel⟩
def spLaw (K : PySem.W.Frag) : Sp := fun vs H Q _ => ∃ (a : Addr) (ns : List Int), vs = [.ref a] ∧ SqL K H a (ns.map V.int) ∧ ns.length ≤ 63 ∧ ∀ H', Q (.bl true) H'
theorem rows_ok {lo n sc : Int} {rs : List (List Int)} (h : (∀ r ∈ rs, LotIn lo n sc r) ∨ ∀ r ∈ rs, OutIn lo n sc r) (l1 : 1 ≤ lo) (l2 : lo + n ≤ 1000) (s1 : sc ≤ 10000000000) : rowsBad rs = none := by
  unfold rowsBad
  rw [List.findSome?_eq_none_iff]
  intro r hr
  rcases h with h | h
  · obtain ⟨d, c, u, rfl, h1, h2, h3, h4, h5, h6⟩ := h r hr
    simp only [rowBad]
    rw [if_pos ⟨by omega, by omega⟩, if_pos ⟨by omega, by omega⟩, if_pos ⟨by omega, by omega⟩]
  · obtain ⟨d, c, rfl, h1, h2, h3, h4⟩ := h r hr
    simp only [rowBad]
    rw [if_pos ⟨by omega, by omega⟩, if_pos ⟨by omega, by omega⟩]
section
variable {P : Program} {w : World} {K : PySem.W.Frag} {mg : Str → Option Value} {base : Heap} {f : Addr} {fd : FuncData} {cl : Nat → Addr} (B : Bn mg)
  (G_begin : Cal P w K mg base CX0 1 "_law_begin" p_begin (spBegin K)) (G_pick : Cal P w K mg base CX0 1 "_law_pick" p_pick spPick) (G_case : Cal P w K mg base CX0 3 "_law_case" p_case spCase) (G_odd : Cal P w K mg base CX0 2 "_law_odd" p_odd spOdd)
  (G_one : Cal P w K mg base CX0 2 "_law_one" p_one spOne) (G_some_stretches : Cal P w K mg base CX0 3 "_law_some_stretches" p_some_stretches spStrs) (G_sum_of : Cal P w K mg base CX0 1 "_law_sum_of" p_sum_of spSumOf) (G_in_order : Cal P w K mg base CX0 1 "_law_in_order" p_in_order spRising) (G_bent : Cal P w K mg base CX0 3 "_law_bent" p_bent spBent)
  (G_same : Cal P w K mg base CX0 3 "_law_same" n_same (spSame 3)) (G_good_paper : Cal P w K mg base (CXE P w) 5 "good_paper" p_good_paper (spGood cl))
include B G_begin G_pick G_case G_odd G_one G_some_stretches G_sum_of G_in_order G_bent G_same G_good_paper
theorem ok_law (F : Fun K "law" "law" s_law f fd) : FnOk P w K mg base CX0 6 f fd p_law (spLaw K) := by
  refine F.ok sc_law (fun vs H Q E h => ?_) (fun cdv A outer s H vs Q E hr h => ?_)
  · obtain ⟨a, ns, rfl, _⟩ := h; rfl
  obtain ⟨a0, ns, rfl, hS, hlen, q⟩ := h
  refine ⟨_, (pss_cons (ps_set (i := 1) sc_law.nd rfl (Or.inl rfl) (pe_cal G_begin hr rfl pass0 (pa_c (pv 0) pa_nil)))
    (pss_cons (ps_asg (pe_cal G_case hr rfl pass0 (pa_c (pv 1) (pa_c pe_int pa_nil))) (pg_tup rfl (pgs_cons (pg_name (i := 2) sc_law.nd rfl (Or.inl rfl)) (pgs_cons (pg_name (i := 3) sc_law.nd rfl (Or.inl rfl)) (pgs_cons (pg_name (i := 4) sc_law.nd rfl (Or.inl rfl)) pgs_nil)))))
    (pss_cons (ps_for PassesOwn.never rfl (pi_range1 rfl B.range (pa_c pe_int pa_nil)) (pg_name (i := 5) sc_law.nd rfl (Or.inl rfl)) (pss_cons (ps_set (i := 6) sc_law.nd rfl (Or.inl rfl) (pe_cal G_odd hr rfl pass0 (pa_c (pv 1) pa_nil)))
      (pss_cons (ps_if (PW.pt (pw_and (pt_cmpR (op_neL hr.units) (pv 2) (pe_lst pa_nil) (nomark _)) (pw_and1 (pt_cmpR op_gt (pe_cal G_pick hr rfl pass0 (pa_c (pv 1) (pa_c pe_int pa_nil))) pe_int (nomark _))))) (pss_one (ps_set (i := 6) sc_law.nd rfl (Or.inl rfl) (pe_op op_add (pe_ix ix_tup (pe_cal G_one hr rfl pass0 (pa_c (pv 1) (pa_c (pv 2) pa_nil))) pe_int (fun _ _ => rfl)) (pe_cal G_pick hr rfl pass0 (pa_c (pv 1) (pa_c pe_int pa_nil)))))) pss_nil)
      (pss_cons (ps_set (i := 7) sc_law.nd rfl (Or.inl rfl) (pe_cal G_some_stretches hr rfl pass0 (pa_c (pv 1) (pa_c (pv 2) pa_nil))))
      (pss_cons (ps_if (pt_cmpR op_eq (pe_cal G_pick hr rfl pass0 (pa_c (pv 1) (pa_c pe_int pa_nil))) pe_int (nomark _)) (pss_one (ps_set (i := 7) sc_law.nd rfl (Or.inl rfl) (pe_cal G_bent hr rfl pass0 (pa_c (pv 1) (pa_c (pv 7) pa_nil))))) pss_nil)
      (pss_cons (ps_set (i := 8) sc_law.nd rfl (Or.inl rfl) (pe_op op_add (pe_cal G_sum_of hr rfl pass0 (pa_c (pv 2) (pa_c (pv 3) (pa_c (pv 4) (pa_c (pv 6) (pa_c (pv 7) pa_nil)))))) (pe_ix ix_tup (pe_tup (pa_c pe_int (pa_c pe_int (pa_c pe_int (pa_c (pe_un un_neg pe_int) pa_nil))))) (pe_cal G_pick hr rfl pass0 (pa_c (pv 1) (pa_c pe_int pa_nil))) (fun _ _ => rfl))))
      (pss_cons (ps_set (i := 9) sc_law.nd rfl (Or.inl rfl) (pe_tup (pa_c (pe_callTy call_list_of rfl B.list PyProof.Rows.boot_list (pa_c (pv 2) pa_nil)) (pa_c (pe_callTy call_list_of rfl B.list PyProof.Rows.boot_list (pa_c (pv 3) pa_nil)) (pa_c (pe_callTy call_list_of rfl B.list PyProof.Rows.boot_list (pa_c (pv 7) pa_nil)) pa_nil)))))
      (pss_cons (ps_set (i := 10) sc_law.nd rfl (Or.inl rfl) (pe_and (pe_cal G_in_order hr rfl pass0 (pa_c (pv 7) pa_nil)) (pe_one (pe_cmpR op_eq (pv 8) (pe_cal G_sum_of hr rfl pass0 (pa_c (pv 2) (pa_c (pv 3) (pa_c (pv 4) (pa_c (pv 6) (pa_c (pv 7) pa_nil)))))) (nomark _)))))
      (pss_cons (ps_if (pt_not (pt_truth (pe_cal G_same hr rfl pass0 (pa_c (pe_cal G_good_paper hr rfl passN (pa_c (pv 2) (pa_c (pv 3) (pa_c (pv 4) (pa_c (pe_tup (pa_c (pv 6) (pa_c (pv 8) (pa_c (pv 7) pa_nil)))) pa_nil))))) (pa_c (pv 10) pa_nil))) (fun _ => rfl))) (pss_one (ps_ret pe_bl)) pss_nil)
      (pss_one (ps_if (pt_cmpR (op_neT hr.units) (pe_tup (pa_c (pv 2) (pa_c (pv 3) (pa_c (pv 7) pa_nil)))) (pv 9) (nomark _)) (pss_one (ps_ret pe_bl)) pss_nil)))))))))))
    (pss_one (ps_ret pe_bl))))), ?_⟩
  refine ⟨_, rfl, a0, ns, rfl, hS, hlen, fun a c H1 ha hc s1 d1 => ?_⟩
  refine ⟨_, rfl, a, c, 8, rfl, d1, by decide, by decide, fun t l o tm lo n sc ls os H2 hl ho nlo t0 t4 lo1 n6 h1000 sc0 sc1 hls hos lsn osn d2 kb2 R2l R2o ht => ?_⟩
  have nla : l ≠ a := d1.ne hl
  have noa : o ≠ a := d1.ne ho
  refine ⟨t, _, rfl, SqT.of ht, rfl, _, _, rfl, _, _, rfl, _, _, rfl, rfl, ?_⟩
  have h3 : ∀ r ∈ ls, r.length = 3 := fun r hr => by obtain ⟨d, c, u, rfl, _⟩ := hls r hr; rfl
  have h2 : ∀ r ∈ os, r.length = 2 := fun r hr => by obtain ⟨d, c, rfl, _⟩ := hos r hr; rfl
  have bn : bothNo ls os tm = none := by
    rw [bothNo_term (rowsNo_ok (by omega) (rows_ok (.inl hls) lo1 h1000 sc1)) (rowsNo_ok (by omega) (rows_ok (.inr hos) lo1 h1000 sc1)), if_pos ⟨t0, t4⟩]
  refine ⟨4, rfl, by decide, by decide, for_range (n := 4) (fun _ σ H5 => ∃ o5 o6 o7 o8 o9 o10, σ = [some (.ref a0), some (.ref a), some (.ref l), some (.ref o), some (.int tm), o5, o6, o7, o8, o9, o10] ∧ DrawAt H5 a c ∧ Rows H5 l ls ∧ Rows H5 o os) ⟨_, _, _, _, _, _, rfl, d2, R2l, R2o⟩ ?_ ?_⟩
  · clear d1 s1 ha hc d2 R2l R2o kb2 ht hl ho
    rintro ii σ H5 hii ⟨o5, o6, o7, o8, o9, o10, rfl, d5, L5, O5⟩
    -- duty = odd(draw)
    refine ⟨_, rfl, a, c, rfl, d5, fun u6 H6 d6 kb6 => ?_⟩
    have L6 := L5.keep nla d5 kb6
    have O6 := O5.keep noa d5 kb6
    clear d5 L5 O5 kb6
    dsimp only [gName]
    refine tSeq_by (fun σ' H' => ∃ u : Int, σ' = [some (.ref a0), some (.ref a), some (.ref l), some (.ref o), some (.int tm), some (.int (0 + (ii : Int))), some (.int u), o7, o8, o9, o10] ∧ DrawAt H' a c ∧ Rows H' l ls ∧ Rows H' o os) (fun D' nx _ => ?_) ?_
    · refine ⟨_, rfl, by show 0 ≤ sizeLine; decide, fun e he => ?_⟩
      obtain ⟨xs, ex, hx⟩ := L6.tups
      have sE := same_new (H := H6) he (.lst [])
      refine cmp_nil (sE _ _ ex) upd_same ⟨_, rfl, ?_⟩
      have d7 := d6.same sE
      have L7 := L6.same sE
      have O7 := O6.same sE
      have x7 := sE _ _ ex
      have t7 := hx.same sE
      generalize L2.upd H6 e (.lst []) = H7 at *
      have lx := hx.1
      by_cases c1 : xs.length = 0
      · rw [decide_eq_true c1]
        exact iteF (iteF (nx _ _ ⟨_, rfl, d7, L7, O7⟩))
      · rw [decide_eq_false c1]
        refine iteT ⟨_, rfl, a, c, 4, rfl, d7, by decide, by decide, fun y H8 y0 y1 d8 kb8 => ⟨_, _, rfl, rfl, _, rfl, ?_⟩⟩
        have L8 := L7.keep nla d7 kb8
        have O8 := O7.keep noa d7 kb8
        by_cases c2 : 0 < y
        · rw [decide_eq_true c2]
          refine iteT ⟨_, rfl, _, rfl, a, c, l, xs, rfl, d8, kb8 _ _ nla x7, nla, by omega, by omega, fun i z H9 ez d9 kb9 => ?_⟩
          obtain ⟨pr, r, rfl, er, hpr⟩ := ((t7.draw d7 kb8).draw d8 kb9).at ez
          obtain ⟨dd, cc, uu, rfl⟩ := len3 (h3 r (List.mem_of_getElem? er))
          refine ⟨pr, _, _, .int uu, rfl, rfl, SqT.of hpr, rfl, _, rfl, a, c, 2, rfl, d9, by decide, by decide, fun y3 H10 _ _ d10 kb10 => ⟨_, _, rfl, rfl, ?_⟩⟩
          exact nx _ _ ⟨_, rfl, d10, (L8.keep nla d8 kb9).keep nla d9 kb10, (O8.keep noa d8 kb9).keep noa d9 kb10⟩
        · rw [decide_eq_false c2]
          exact iteF (nx _ _ ⟨_, rfl, d8, L8, O8⟩)
    clear d6 L6 O6
    rintro σ' H7 ⟨u, rfl, d7, L7, O7⟩
    -- stretches = some_stretches(draw, lots)
    refine ⟨_, rfl, _, rfl, a, c, l, ls, rfl, d7, nla, L7, h3, by omega, fun s8 ss H8 hs8 d8 kb8 S8 s2 sn => ?_⟩
    have L8 := L7.keep nla d7 kb8
    have O8 := O7.keep noa d7 kb8
    have nsa : s8 ≠ a := d7.ne hs8
    clear d7 L7 O7 kb8 hs8
    dsimp only [gName]
    refine tSeq_by (fun σ' H' => ∃ (sr : Addr) (ss : List (List Int)), σ' = [some (.ref a0), some (.ref a), some (.ref l), some (.ref o), some (.int tm), some (.int (0 + (ii : Int))), some (.int u), some (.ref sr), o8, o9, o10] ∧ DrawAt H' a c ∧ Rows H' l ls ∧ Rows H' o os ∧ Rows H' sr ss ∧ sr ≠ a ∧ (∀ r ∈ ss, r.length = 2) ∧ ss.length ≤ 90) (fun D' nx _ => ?_) ?_
    · refine ⟨_, rfl, a, c, 3, rfl, d8, by decide, by decide, fun y H9 _ _ d9 kb9 => ⟨rfl, _, rfl, ?_⟩⟩
      have L9 := L8.keep nla d8 kb9
      have O9 := O8.keep noa d8 kb9
      have S9 := S8.keep nsa d8 kb9
      by_cases c1 : y = 1
      · rw [decide_eq_true (congrArg V.int c1)]
        refine iteT ⟨_, rfl, _, rfl, a, c, s8, ss, rfl, d9, nsa, S9, s2, by omega, fun s' ss' H' hs' d' kb' S' s2' sn' => ?_⟩
        exact nx _ _ ⟨s', ss', rfl, d', L9.keep nla d9 kb', O9.keep noa d9 kb', S', d9.ne hs', s2', sn'⟩
      · rw [decide_eq_false (fun z => c1 (V.int.inj z))]
        exact iteF (nx _ _ ⟨s8, ss, rfl, d9, L9, O9, S9, nsa, s2, by omega⟩)
    clear d8 L8 O8 S8 nsa s2 sn ss s8
    rintro σ' H8 ⟨sr, ss, rfl, d8, L8, O8, S8, nsa, s2, sn⟩
    -- units = sum_of(..) + (0, 0, 1, -1)[pick(draw, 4)]
    refine ⟨_, rfl, _, rfl, _, rfl, _, rfl, _, rfl, l, o, sr, tm, u, ls, os, ss, rfl, L8, h3, by omega, O8, h2, by omega, S8, s2, by omega, fun H9 s9 => ?_⟩
    refine ⟨_, rfl, by show 4 ≤ sizeLine; decide, fun tp htp => ?_⟩
    have sT := s9.trans (same_new htp (.tup [.int 0, .int 0, .int 1, .int (-1)]))
    have d10 := d8.same sT
    refine ⟨_, rfl, a, c, 4, rfl, d10, by decide, by decide, fun y H11 y0 y1 d11 kb11 => ?_⟩
    have T11 := kb11 tp _ ((d8.same s9).ne htp) upd_same
    obtain ⟨v, ev⟩ : ∃ v, atI [V.int 0, .int 0, .int 1, .int (-1)] y = some (.int v) := at_int (by
      intro x hx
      simp only [List.mem_cons, List.not_mem_nil, or_false] at hx
      rcases hx with h | h | h | h <;> exact ⟨_, h⟩) y0 y1
    refine ⟨tp, _, _, .int v, rfl, rfl, SqT.of T11, ev, _, _, rfl, rfl, ?_⟩
    have L11 := (L8.same sT).keep nla d10 kb11
    have O11 := (O8.same sT).keep noa d10 kb11
    have S11 := (S8.same sT).keep nsa d10 kb11
    clear d8 L8 O8 S8 s9 htp sT d10 kb11 T11 ev
    -- kept = (list(lots), list(outs), list(stretches))
    obtain ⟨xs, ex, hx⟩ := L11.tups
    obtain ⟨ys, ey, hy⟩ := O11.tups
    obtain ⟨zs, ez, hz⟩ := S11.tups
    refine ⟨_, rfl, l, _, rfl, .inl (SqL.of ex), fun cl' hcl => ?_⟩
    have s12 := same_new (H := H11) hcl (.lst xs)
    refine ⟨_, rfl, o, _, rfl, .inl (SqL.of (s12 _ _ ey)), fun co hco => ?_⟩
    have s13 := s12.trans (same_new hco (.lst ys))
    refine ⟨_, rfl, sr, _, rfl, .inl (SqL.of (s13 _ _ ez)), fun cs hcs => ⟨by show 3 ≤ sizeLine; decide, fun kt hkt => ?_⟩⟩
    have s14 := (s13.trans (same_new hcs (.lst zs))).trans (same_new hkt (.tup [.ref cl', .ref co, .ref cs]))
    have C14 := same_new hkt (.tup [.ref cl', .ref co, .ref cs]) _ _ (same_new hcs (.lst zs) _ _ (same_new hco (.lst ys) _ _ (upd_same (H := H11) (a := cl') (o := .lst xs))))
    have P14 := same_new hkt (.tup [.ref cl', .ref co, .ref cs]) _ _ (same_new hcs (.lst zs) _ _ (upd_same (H := L2.upd H11 cl' (.lst xs)) (a := co) (o := .lst ys)))
    have Q14 := same_new hkt (.tup [.ref cl', .ref co, .ref cs]) _ _ (upd_same (H := L2.upd (L2.upd H11 cl' (.lst xs)) co (.lst ys)) (a := cs) (o := .lst zs))
    have K14 := upd_same (H := L2.upd (L2.upd (L2.upd H11 cl' (.lst xs)) co (.lst ys)) cs (.lst zs)) (a := kt) (o := .tup [.ref cl', .ref co, .ref cs])
    have n1 : l ≠ cl' := ne_of_none ex hcl
    have n2 : o ≠ co := ne_of_none (s12 _ _ ey) hco
    have n3 : sr ≠ cs := ne_of_none (s13 _ _ ez) hcs
    clear s12 s13 hcl hco hcs hkt
    generalize L2.upd (L2.upd (L2.upd (L2.upd H11 cl' (.lst xs)) co (.lst ys)) cs (.lst zs)) kt (.tup [.ref cl', .ref co, .ref cs]) = H14 at *
    dsimp only [gName]
    -- due = in_order(stretches) and units == sum_of(..)
    refine tSeq_by (fun σ' H' => σ' = [some (.ref a0), some (.ref a), some (.ref l), some (.ref o), some (.int tm), some (.int (0 + (ii : Int))), some (.int u), some (.ref sr), some (.int (comeTo ls os tm u ss + v)), some (.ref kt), some (.bl (risingB 0 ss && decide ((comeTo ls os tm u ss + v) = comeTo ls os tm u ss)))] ∧ Same H14 H') (fun D' nx _ => ?_) ?_
    · refine ⟨_, rfl, sr, ss, rfl, S11.same s14, s2, _, rfl, ?_⟩
      cases rb : risingB 0 ss with
      | false =>
        rw [rb] at nx
        exact iteF (nx _ _ ⟨rfl, Same.refl _⟩)
      | true =>
        rw [rb] at nx
        refine iteT ⟨_, rfl, _, rfl, _, rfl, _, rfl, _, rfl, _, rfl, l, o, sr, tm, u, ls, os, ss, rfl, L11.same s14, h3, by omega, O11.same s14, h2, by omega, S11.same s14, s2, by omega, fun H15 s15 => ⟨rfl, ?_⟩⟩
        have e : decide (V.int (comeTo ls os tm u ss + v) = V.int (comeTo ls os tm u ss)) = (true && decide ((comeTo ls os tm u ss + v) = comeTo ls os tm u ss)) := by
          rw [Bool.true_and]
          by_cases z : (comeTo ls os tm u ss + v) = comeTo ls os tm u ss
          · rw [decide_eq_true z, decide_eq_true (congrArg V.int z)]
          · rw [decide_eq_false z, decide_eq_false (fun y => z (V.int.inj y))]
        have := nx _ _ ⟨rfl, s15⟩
        rw [← e] at this
        exact this
    rintro σ' H15 ⟨rfl, s15⟩
    have S15 := s14.trans s15
    -- not same(good_paper(lots, outs, term, (duty, units, stretches)), due)
    refine ⟨_, rfl, _, rfl, _, rfl, _, rfl, _, rfl, _, rfl, by show 3 ≤ sizeLine; decide, fun pp hpp => ?_⟩
    have sP := S15.trans (same_new (H := H15) hpp (.tup [.int u, .int (comeTo ls os tm u ss + v), .ref sr]))
    refine ⟨l, o, pp, sr, tm, u, (comeTo ls os tm u ss + v), ls, os, ss, rfl, L11.same sP, h3, O11.same sP, h2, upd_same, S11.same sP, s2, by omega, fun n e => (by rw [bn] at e; cases e), fun _ H16 s16 => ?_⟩
    have S16 := sP.trans s16
    refine ⟨_, rfl, _, _, rfl, .flat rfl, fun H17 s17 => ⟨_, rfl, iteF ?_⟩⟩
    have S17 := S16.trans s17
    -- (lots, outs, stretches) != kept
    refine ⟨_, rfl, _, rfl, _, rfl, by show 3 ≤ sizeLine; decide, fun tq htq => ?_⟩
    have sQ := same_new (H := H17) htq (.tup [.ref l, .ref o, .ref sr])
    have S18 := S17.trans sQ
    have s1418 : Same H14 (L2.upd H17 tq (.tup [.ref l, .ref o, .ref sr])) := (((s15.trans (same_new hpp _)).trans s16).trans s17).trans sQ
    refine ⟨_, rfl, tq, kt, _, _, rfl, rfl, SqT.of upd_same, SqT.of (s1418 _ _ K14), 1, fun _ => true, by decide, fun j x y e1 e2 => ?_, _, rfl, iteF ?_⟩
    · match j, e1, e2 with
      | 0, e1, e2 => cases e1; cases e2; exact (hx.same S18).eqB (S18 _ _ ex) (s1418 _ _ C14) n1
      | 1, e1, e2 => cases e1; cases e2; exact (hy.same S18).eqB (S18 _ _ ey) (s1418 _ _ P14) n2
      | 2, e1, e2 => cases e1; cases e2; exact (hz.same S18).eqB (S18 _ _ ez) (s1418 _ _ Q14) n3
      | j + 3, e1, e2 => cases e1
    exact ⟨_, _, _, _, _, _, rfl, d11.same S18, L11.same S18, O11.same S18⟩
  · rintro σ H5 _
    exact q H5
end
end K17
set_option maxHeartbeats 4000000
namespace K17
open PySem L2
def clF (c_0 c_1 c_2 c_3 c_4 c_5 : Addr) : Nat → Addr
  | 0 => c_0
  | 1 => c_1
  | 2 => c_2
  | 3 => c_3
  | 4 => c_4
  | 5 => c_5
  | _ => c_0
theorem all_mk {l : PySem.W.OpenLaw} {w : World} {K : PySem.W.Frag} {h : Heap} {mg : Str → Option Value} {fa f_is_day f_check_day f_check_term f_check_many f_check_count f_check_duty f_checked_lots f_checked_outs f_checked_both f_going f_dear_ones f_units_of f_are_rising f_lies_in f_good_paper f_pick f_odd f_begin f_span f_some_term f_some_lots f_some_outs f_case f_one f_some_stretches f_sum_of f_same f_in_order f_bent f_law c_0 c_1 c_2 c_3 c_4 c_5 : Addr} {u_FIRST_DAY u_LAST_DAY u_MOST_TERM u_MOST_ROWS u_MOST_COUNT u_MOST_DUTY : Tok} (X : K.In h) (G : h.Ns mainGlobals mg) (hfa : mg "law" = some (.ref fa))
    {od_is_day an_is_day od_check_day an_check_day od_check_term an_check_term od_check_many an_check_many od_check_count an_check_count od_check_duty an_check_duty od_checked_lots an_checked_lots od_checked_outs an_checked_outs od_checked_both an_checked_both od_going an_going od_dear_ones an_dear_ones od_units_of an_units_of od_are_rising an_are_rising od_lies_in an_lies_in od_good_paper an_good_paper od_pick an_pick od_odd an_odd od_begin an_begin od_span an_span od_some_term an_some_term od_some_lots an_some_lots od_some_outs an_some_outs od_case an_case od_one an_one od_some_stretches an_some_stretches od_sum_of an_sum_of od_same an_same od_in_order an_in_order od_bent an_bent od_law an_law : Option Addr} {sl_is_day sl_check_day sl_check_term sl_check_many sl_check_count sl_check_duty sl_checked_lots sl_checked_outs sl_checked_both sl_going sl_dear_ones sl_units_of sl_are_rising sl_lies_in sl_good_paper sl_pick sl_odd sl_begin sl_span sl_some_term sl_some_lots sl_some_outs sl_case sl_one sl_some_stretches sl_sum_of sl_same sl_in_order sl_bent sl_law : Array (Option Value)} {oc_is_day kV_is_day dc_is_day pm_is_day cd_is_day ct_is_day oc_check_day kV_check_day dc_check_day pm_check_day cd_check_day ct_check_day oc_check_term kV_check_term dc_check_term pm_check_term cd_check_term ct_check_term oc_check_many kV_check_many dc_check_many pm_check_many cd_check_many ct_check_many oc_check_count kV_check_count dc_check_count pm_check_count cd_check_count ct_check_count oc_check_duty kV_check_duty dc_check_duty pm_check_duty cd_check_duty ct_check_duty oc_checked_lots kV_checked_lots dc_checked_lots pm_checked_lots cd_checked_lots ct_checked_lots oc_checked_outs kV_checked_outs dc_checked_outs pm_checked_outs cd_checked_outs ct_checked_outs oc_checked_both kV_checked_both dc_checked_both pm_checked_both cd_checked_both ct_checked_both oc_going kV_going dc_going pm_going cd_going ct_going oc_dear_ones kV_dear_ones dc_dear_ones pm_dear_ones cd_dear_ones ct_dear_ones oc_units_of kV_units_of dc_units_of pm_units_of cd_units_of ct_units_of oc_are_rising kV_are_rising dc_are_rising pm_are_rising cd_are_rising ct_are_rising oc_lies_in kV_lies_in dc_lies_in pm_lies_in cd_lies_in ct_lies_in oc_good_paper kV_good_paper dc_good_paper pm_good_paper cd_good_paper ct_good_paper oc_pick kV_pick dc_pick pm_pick cd_pick ct_pick oc_odd kV_odd dc_odd pm_odd cd_odd ct_odd oc_begin kV_begin dc_begin pm_begin cd_begin ct_begin oc_span kV_span dc_span pm_span cd_span ct_span oc_some_term kV_some_term dc_some_term pm_some_term cd_some_term ct_some_term oc_some_lots kV_some_lots dc_some_lots pm_some_lots cd_some_lots ct_some_lots oc_some_outs kV_some_outs dc_some_outs pm_some_outs cd_some_outs ct_some_outs oc_case kV_case dc_case pm_case cd_case ct_case oc_one kV_one dc_one pm_one cd_one ct_one oc_some_stretches kV_some_stretches dc_some_stretches pm_some_stretches cd_some_stretches ct_some_stretches oc_sum_of kV_sum_of dc_sum_of pm_sum_of cd_sum_of ct_sum_of oc_same kV_same dc_same pm_same cd_same ct_same oc_in_order kV_in_order dc_in_order pm_in_order cd_in_order ct_in_order oc_bent kV_bent dc_bent pm_bent cd_bent ct_bent oc_law kV_law dc_law pm_law cd_law ct_law : Value}
    (a_is_day : PySem.W.nsIn K mainGlobals "is_day" = some (some (.ref f_is_day)))
    (l_is_day : K.lookup f_is_day = some ⟨oc_is_day, od_is_day, .func (PySem.W.fnOf "is_day" "is_day" (defArgs s_is_day) (defBody s_is_day) (defScope s_is_day) .none kV_is_day dc_is_day pm_is_day an_is_day cd_is_day ct_is_day), sl_is_day⟩)
    (c_is_day : PySem.W.codeIn K cd_is_day "is_day" = true)
    (k_is_day : PySem.W.keepIn K (.ref f_is_day) = true)
    (a_check_day : PySem.W.nsIn K mainGlobals "check_day" = some (some (.ref f_check_day)))
    (l_check_day : K.lookup f_check_day = some ⟨oc_check_day, od_check_day, .func (PySem.W.fnOf "check_day" "check_day" (defArgs s_check_day) (defBody s_check_day) (defScope s_check_day) .none kV_check_day dc_check_day pm_check_day an_check_day cd_check_day ct_check_day), sl_check_day⟩)
    (c_check_day : PySem.W.codeIn K cd_check_day "check_day" = true)
    (k_check_day : PySem.W.keepIn K (.ref f_check_day) = true)
    (a_check_term : PySem.W.nsIn K mainGlobals "check_term" = some (some (.ref f_check_term)))
    (l_check_term : K.lookup f_check_term = some ⟨oc_check_term, od_check_term, .func (PySem.W.fnOf "check_term" "check_term" (defArgs s_check_term) (defBody s_check_term) (defScope s_check_term) .none kV_check_term dc_check_term pm_check_term an_check_term cd_check_term ct_check_term), sl_check_term⟩)
    (c_check_term : PySem.W.codeIn K cd_check_term "check_term" = true)
    (k_check_term : PySem.W.keepIn K (.ref f_check_term) = true)
    (a_check_many : PySem.W.nsIn K mainGlobals "check_many" = some (some (.ref f_check_many)))
    (l_check_many : K.lookup f_check_many = some ⟨oc_check_many, od_check_many, .func (PySem.W.fnOf "check_many" "check_many" (defArgs s_check_many) (defBody s_check_many) (defScope s_check_many) .none kV_check_many dc_check_many pm_check_many an_check_many cd_check_many ct_check_many), sl_check_many⟩)
    (c_check_many : PySem.W.codeIn K cd_check_many "check_many" = true)
    (k_check_many : PySem.W.keepIn K (.ref f_check_many) = true)
    (a_check_count : PySem.W.nsIn K mainGlobals "check_count" = some (some (.ref f_check_count)))
    (l_check_count : K.lookup f_check_count = some ⟨oc_check_count, od_check_count, .func (PySem.W.fnOf "check_count" "check_count" (defArgs s_check_count) (defBody s_check_count) (defScope s_check_count) .none kV_check_count dc_check_count pm_check_count an_check_count cd_check_count ct_check_count), sl_check_count⟩)
    (c_check_count : PySem.W.codeIn K cd_check_count "check_count" = true)
    (k_check_count : PySem.W.keepIn K (.ref f_check_count) = true)
    (a_check_duty : PySem.W.nsIn K mainGlobals "check_duty" = some (some (.ref f_check_duty)))
    (l_check_duty : K.lookup f_check_duty = some ⟨oc_check_duty, od_check_duty, .func (PySem.W.fnOf "check_duty" "check_duty" (defArgs s_check_duty) (defBody s_check_duty) (defScope s_check_duty) .none kV_check_duty dc_check_duty pm_check_duty an_check_duty cd_check_duty ct_check_duty), sl_check_duty⟩)
    (c_check_duty : PySem.W.codeIn K cd_check_duty "check_duty" = true)
    (k_check_duty : PySem.W.keepIn K (.ref f_check_duty) = true)
    (a_checked_lots : PySem.W.nsIn K mainGlobals "checked_lots" = some (some (.ref f_checked_lots)))
    (l_checked_lots : K.lookup f_checked_lots = some ⟨oc_checked_lots, od_checked_lots, .func (PySem.W.fnOf "checked_lots" "checked_lots" (defArgs s_checked_lots) (defBody s_checked_lots) (defScope s_checked_lots) .none kV_checked_lots dc_checked_lots pm_checked_lots an_checked_lots cd_checked_lots ct_checked_lots), sl_checked_lots⟩)
    (c_checked_lots : PySem.W.codeIn K cd_checked_lots "checked_lots" = true)
    (k_checked_lots : PySem.W.keepIn K (.ref f_checked_lots) = true)
    (a_checked_outs : PySem.W.nsIn K mainGlobals "checked_outs" = some (some (.ref f_checked_outs)))
    (l_checked_outs : K.lookup f_checked_outs = some ⟨oc_checked_outs, od_checked_outs, .func (PySem.W.fnOf "checked_outs" "checked_outs" (defArgs s_checked_outs) (defBody s_checked_outs) (defScope s_checked_outs) .none kV_checked_outs dc_checked_outs pm_checked_outs an_checked_outs cd_checked_outs ct_checked_outs), sl_checked_outs⟩)
    (c_checked_outs : PySem.W.codeIn K cd_checked_outs "checked_outs" = true)
    (k_checked_outs : PySem.W.keepIn K (.ref f_checked_outs) = true)
    (a_checked_both : PySem.W.nsIn K mainGlobals "checked_both" = some (some (.ref f_checked_both)))
    (l_checked_both : K.lookup f_checked_both = some ⟨oc_checked_both, od_checked_both, .func (PySem.W.fnOf "checked_both" "checked_both" (defArgs s_checked_both) (defBody s_checked_both) (defScope s_checked_both) .none kV_checked_both dc_checked_both pm_checked_both an_checked_both cd_checked_both ct_checked_both), sl_checked_both⟩)
    (c_checked_both : PySem.W.codeIn K cd_checked_both "checked_both" = true)
    (k_checked_both : PySem.W.keepIn K (.ref f_checked_both) = true)
    (a_going : PySem.W.nsIn K mainGlobals "going" = some (some (.ref f_going)))
    (l_going : K.lookup f_going = some ⟨oc_going, od_going, .func (PySem.W.fnOf "going" "going" (defArgs s_going) (defBody s_going) (defScope s_going) .none kV_going dc_going pm_going an_going cd_going ct_going), sl_going⟩)
    (c_going : PySem.W.codeIn K cd_going "going" = true)
    (k_going : PySem.W.keepIn K (.ref f_going) = true)
    (a_dear_ones : PySem.W.nsIn K mainGlobals "dear_ones" = some (some (.ref f_dear_ones)))
    (l_dear_ones : K.lookup f_dear_ones = some ⟨oc_dear_ones, od_dear_ones, .func (PySem.W.fnOf "dear_ones" "dear_ones" (defArgs s_dear_ones) (defBody s_dear_ones) (defScope s_dear_ones) .none kV_dear_ones dc_dear_ones pm_dear_ones an_dear_ones cd_dear_ones ct_dear_ones), sl_dear_ones⟩)
    (c_dear_ones : PySem.W.codeIn K cd_dear_ones "dear_ones" = true)
    (k_dear_ones : PySem.W.keepIn K (.ref f_dear_ones) = true)
    (a_units_of : PySem.W.nsIn K mainGlobals "units_of" = some (some (.ref f_units_of)))
    (l_units_of : K.lookup f_units_of = some ⟨oc_units_of, od_units_of, .func (PySem.W.fnOf "units_of" "units_of" (defArgs s_units_of) (defBody s_units_of) (defScope s_units_of) .none kV_units_of dc_units_of pm_units_of an_units_of cd_units_of ct_units_of), sl_units_of⟩)
    (c_units_of : PySem.W.codeIn K cd_units_of "units_of" = true)
    (k_units_of : PySem.W.keepIn K (.ref f_units_of) = true)
    (a_are_rising : PySem.W.nsIn K mainGlobals "are_rising" = some (some (.ref f_are_rising)))
    (l_are_rising : K.lookup f_are_rising = some ⟨oc_are_rising, od_are_rising, .func (PySem.W.fnOf "are_rising" "are_rising" (defArgs s_are_rising) (defBody s_are_rising) (defScope s_are_rising) .none kV_are_rising dc_are_rising pm_are_rising an_are_rising cd_are_rising ct_are_rising), sl_are_rising⟩)
    (c_are_rising : PySem.W.codeIn K cd_are_rising "are_rising" = true)
    (k_are_rising : PySem.W.keepIn K (.ref f_are_rising) = true)
    (a_lies_in : PySem.W.nsIn K mainGlobals "lies_in" = some (some (.ref f_lies_in)))
    (l_lies_in : K.lookup f_lies_in = some ⟨oc_lies_in, od_lies_in, .func (PySem.W.fnOf "lies_in" "lies_in" (defArgs s_lies_in) (defBody s_lies_in) (defScope s_lies_in) .none kV_lies_in dc_lies_in pm_lies_in an_lies_in cd_lies_in ct_lies_in), sl_lies_in⟩)
    (c_lies_in : PySem.W.codeIn K cd_lies_in "lies_in" = true)
    (k_lies_in : PySem.W.keepIn K (.ref f_lies_in) = true)
    (a_good_paper : PySem.W.nsIn K mainGlobals "good_paper" = some (some (.ref f_good_paper)))
    (l_good_paper : K.lookup f_good_paper = some ⟨oc_good_paper, od_good_paper, .func (PySem.W.fnOf "good_paper" "good_paper" (defArgs s_good_paper) (defBody s_good_paper) (defScope s_good_paper) .none kV_good_paper dc_good_paper pm_good_paper an_good_paper cd_good_paper ct_good_paper), sl_good_paper⟩)
    (c_good_paper : PySem.W.codeIn K cd_good_paper "good_paper" = true)
    (k_good_paper : PySem.W.keepIn K (.ref f_good_paper) = true)
    (a_pick : PySem.W.nsIn K mainGlobals "_law_pick" = some (some (.ref f_pick)))
    (l_pick : K.lookup f_pick = some ⟨oc_pick, od_pick, .func (PySem.W.fnOf "_law_pick" "_law_pick" (defArgs s_pick) (defBody s_pick) (defScope s_pick) .none kV_pick dc_pick pm_pick an_pick cd_pick ct_pick), sl_pick⟩)
    (c_pick : PySem.W.codeIn K cd_pick "_law_pick" = true)
    (k_pick : PySem.W.keepIn K (.ref f_pick) = true)
    (a_odd : PySem.W.nsIn K mainGlobals "_law_odd" = some (some (.ref f_odd)))
    (l_odd : K.lookup f_odd = some ⟨oc_odd, od_odd, .func (PySem.W.fnOf "_law_odd" "_law_odd" (defArgs s_odd) (defBody s_odd) (defScope s_odd) .none kV_odd dc_odd pm_odd an_odd cd_odd ct_odd), sl_odd⟩)
    (c_odd : PySem.W.codeIn K cd_odd "_law_odd" = true)
    (k_odd : PySem.W.keepIn K (.ref f_odd) = true)
    (a_begin : PySem.W.nsIn K mainGlobals "_law_begin" = some (some (.ref f_begin)))
    (l_begin : K.lookup f_begin = some ⟨oc_begin, od_begin, .func (PySem.W.fnOf "_law_begin" "_law_begin" (defArgs s_begin) (defBody s_begin) (defScope s_begin) .none kV_begin dc_begin pm_begin an_begin cd_begin ct_begin), sl_begin⟩)
    (c_begin : PySem.W.codeIn K cd_begin "_law_begin" = true)
    (k_begin : PySem.W.keepIn K (.ref f_begin) = true)
    (a_span : PySem.W.nsIn K mainGlobals "_law_span" = some (some (.ref f_span)))
    (l_span : K.lookup f_span = some ⟨oc_span, od_span, .func (PySem.W.fnOf "_law_span" "_law_span" (defArgs s_span) (defBody s_span) (defScope s_span) .none kV_span dc_span pm_span an_span cd_span ct_span), sl_span⟩)
    (c_span : PySem.W.codeIn K cd_span "_law_span" = true)
    (k_span : PySem.W.keepIn K (.ref f_span) = true)
    (a_some_term : PySem.W.nsIn K mainGlobals "_law_some_term" = some (some (.ref f_some_term)))
    (l_some_term : K.lookup f_some_term = some ⟨oc_some_term, od_some_term, .func (PySem.W.fnOf "_law_some_term" "_law_some_term" (defArgs s_some_term) (defBody s_some_term) (defScope s_some_term) .none kV_some_term dc_some_term pm_some_term an_some_term cd_some_term ct_some_term), sl_some_term⟩)
    (c_some_term : PySem.W.codeIn K cd_some_term "_law_some_term" = true)
    (k_some_term : PySem.W.keepIn K (.ref f_some_term) = true)
    (a_some_lots : PySem.W.nsIn K mainGlobals "_law_some_lots" = some (some (.ref f_some_lots)))
    (l_some_lots : K.lookup f_some_lots = some ⟨oc_some_lots, od_some_lots, .func (PySem.W.fnOf "_law_some_lots" "_law_some_lots" (defArgs s_some_lots) (defBody s_some_lots) (defScope s_some_lots) .none kV_some_lots dc_some_lots pm_some_lots an_some_lots cd_some_lots ct_some_lots), sl_some_lots⟩)
    (c_some_lots : PySem.W.codeIn K cd_some_lots "_law_some_lots" = true)
    (k_some_lots : PySem.W.keepIn K (.ref f_some_lots) = true)
    (a_some_outs : PySem.W.nsIn K mainGlobals "_law_some_outs" = some (some (.ref f_some_outs)))
    (l_some_outs : K.lookup f_some_outs = some ⟨oc_some_outs, od_some_outs, .func (PySem.W.fnOf "_law_some_outs" "_law_some_outs" (defArgs s_some_outs) (defBody s_some_outs) (defScope s_some_outs) .none kV_some_outs dc_some_outs pm_some_outs an_some_outs cd_some_outs ct_some_outs), sl_some_outs⟩)
    (c_some_outs : PySem.W.codeIn K cd_some_outs "_law_some_outs" = true)
    (k_some_outs : PySem.W.keepIn K (.ref f_some_outs) = true)
    (a_case : PySem.W.nsIn K mainGlobals "_law_case" = some (some (.ref f_case)))
    (l_case : K.lookup f_case = some ⟨oc_case, od_case, .func (PySem.W.fnOf "_law_case" "_law_case" (defArgs s_case) (defBody s_case) (defScope s_case) .none kV_case dc_case pm_case an_case cd_case ct_case), sl_case⟩)
    (c_case : PySem.W.codeIn K cd_case "_law_case" = true)
    (k_case : PySem.W.keepIn K (.ref f_case) = true)
    (a_one : PySem.W.nsIn K mainGlobals "_law_one" = some (some (.ref f_one)))
    (l_one : K.lookup f_one = some ⟨oc_one, od_one, .func (PySem.W.fnOf "_law_one" "_law_one" (defArgs s_one) (defBody s_one) (defScope s_one) .none kV_one dc_one pm_one an_one cd_one ct_one), sl_one⟩)
    (c_one : PySem.W.codeIn K cd_one "_law_one" = true)
    (k_one : PySem.W.keepIn K (.ref f_one) = true)
    (a_some_stretches : PySem.W.nsIn K mainGlobals "_law_some_stretches" = some (some (.ref f_some_stretches)))
    (l_some_stretches : K.lookup f_some_stretches = some ⟨oc_some_stretches, od_some_stretches, .func (PySem.W.fnOf "_law_some_stretches" "_law_some_stretches" (defArgs s_some_stretches) (defBody s_some_stretches) (defScope s_some_stretches) .none kV_some_stretches dc_some_stretches pm_some_stretches an_some_stretches cd_some_stretches ct_some_stretches), sl_some_stretches⟩)
    (c_some_stretches : PySem.W.codeIn K cd_some_stretches "_law_some_stretches" = true)
    (k_some_stretches : PySem.W.keepIn K (.ref f_some_stretches) = true)
    (a_sum_of : PySem.W.nsIn K mainGlobals "_law_sum_of" = some (some (.ref f_sum_of)))
    (l_sum_of : K.lookup f_sum_of = some ⟨oc_sum_of, od_sum_of, .func (PySem.W.fnOf "_law_sum_of" "_law_sum_of" (defArgs s_sum_of) (defBody s_sum_of) (defScope s_sum_of) .none kV_sum_of dc_sum_of pm_sum_of an_sum_of cd_sum_of ct_sum_of), sl_sum_of⟩)
    (c_sum_of : PySem.W.codeIn K cd_sum_of "_law_sum_of" = true)
    (k_sum_of : PySem.W.keepIn K (.ref f_sum_of) = true)
    (a_same : PySem.W.nsIn K mainGlobals "_law_same" = some (some (.ref f_same)))
    (l_same : K.lookup f_same = some ⟨oc_same, od_same, .func (PySem.W.fnOf "_law_same" "_law_same" (defArgs s_same) (defBody s_same) (defScope s_same) .none kV_same dc_same pm_same an_same cd_same ct_same), sl_same⟩)
    (c_same : PySem.W.codeIn K cd_same "_law_same" = true)
    (k_same : PySem.W.keepIn K (.ref f_same) = true)
    (a_in_order : PySem.W.nsIn K mainGlobals "_law_in_order" = some (some (.ref f_in_order)))
    (l_in_order : K.lookup f_in_order = some ⟨oc_in_order, od_in_order, .func (PySem.W.fnOf "_law_in_order" "_law_in_order" (defArgs s_in_order) (defBody s_in_order) (defScope s_in_order) .none kV_in_order dc_in_order pm_in_order an_in_order cd_in_order ct_in_order), sl_in_order⟩)
    (c_in_order : PySem.W.codeIn K cd_in_order "_law_in_order" = true)
    (k_in_order : PySem.W.keepIn K (.ref f_in_order) = true)
    (a_bent : PySem.W.nsIn K mainGlobals "_law_bent" = some (some (.ref f_bent)))
    (l_bent : K.lookup f_bent = some ⟨oc_bent, od_bent, .func (PySem.W.fnOf "_law_bent" "_law_bent" (defArgs s_bent) (defBody s_bent) (defScope s_bent) .none kV_bent dc_bent pm_bent an_bent cd_bent ct_bent), sl_bent⟩)
    (c_bent : PySem.W.codeIn K cd_bent "_law_bent" = true)
    (k_bent : PySem.W.keepIn K (.ref f_bent) = true)
    (a_law : PySem.W.nsIn K mainGlobals "law" = some (some (.ref f_law)))
    (l_law : K.lookup f_law = some ⟨oc_law, od_law, .func (PySem.W.fnOf "law" "law" (defArgs s_law) (defBody s_law) (defScope s_law) .none kV_law dc_law pm_law an_law cd_law ct_law), sl_law⟩)
    (c_law : PySem.W.codeIn K cd_law "law" = true)
    (k_law : PySem.W.keepIn K (.ref f_law) = true)
    (z_len : PySem.W.nsIn K mainGlobals "len" = some none)
    (z_list : PySem.W.nsIn K mainGlobals "list" = some none)
    (z_isi : PySem.W.nsIn K mainGlobals "isinstance" = some none)
    (z_bool : PySem.W.nsIn K mainGlobals "bool" = some none)
    (z_int : PySem.W.nsIn K mainGlobals "int" = some none)
    (z_str : PySem.W.nsIn K mainGlobals "str" = some none)
    (z_tuple : PySem.W.nsIn K mainGlobals "tuple" = some none)
    (z_all : PySem.W.nsIn K mainGlobals "all" = some none)
    (z_any : PySem.W.nsIn K mainGlobals "any" = some none)
    (z_zip : PySem.W.nsIn K mainGlobals "zip" = some none)
    (z_range : PySem.W.nsIn K mainGlobals "range" = some none)
    (z_max : PySem.W.nsIn K mainGlobals "max" = some none)
    (z_min : PySem.W.nsIn K mainGlobals "min" = some none)
    (z_enumerate : PySem.W.nsIn K mainGlobals "enumerate" = some none)
    (z_sum : PySem.W.nsIn K mainGlobals "sum" = some none)
    (z_sorted : PySem.W.nsIn K mainGlobals "sorted" = some none)
    (z_verr : PySem.W.nsIn K mainGlobals "ValueError" = some none)
    (g_FIRST_DAY : PySem.W.nsIn K mainGlobals "FIRST_DAY" = some (some (.int 1 u_FIRST_DAY)))
    (g_LAST_DAY : PySem.W.nsIn K mainGlobals "LAST_DAY" = some (some (.int 999 u_LAST_DAY)))
    (g_MOST_TERM : PySem.W.nsIn K mainGlobals "MOST_TERM" = some (some (.int 400 u_MOST_TERM)))
    (g_MOST_ROWS : PySem.W.nsIn K mainGlobals "MOST_ROWS" = some (some (.int 30 u_MOST_ROWS)))
    (g_MOST_COUNT : PySem.W.nsIn K mainGlobals "MOST_COUNT" = some (some (.int 10000000000 u_MOST_COUNT)))
    (g_MOST_DUTY : PySem.W.nsIn K mainGlobals "MOST_DUTY" = some (some (.int 1000000 u_MOST_DUTY)))
    (g_CustomsError : PySem.W.nsIn K mainGlobals "CustomsError" = some (some (.ref c_0)))
    (g_BadDay : PySem.W.nsIn K mainGlobals "BadDay" = some (some (.ref c_1)))
    (g_BadTerm : PySem.W.nsIn K mainGlobals "BadTerm" = some (some (.ref c_2)))
    (g_BadCount : PySem.W.nsIn K mainGlobals "BadCount" = some (some (.ref c_3)))
    (g_BadDuty : PySem.W.nsIn K mainGlobals "BadDuty" = some (some (.ref c_4)))
    (g_BadRows : PySem.W.nsIn K mainGlobals "BadRows" = some (some (.ref c_5)))
    (x_BadDay : PySem.W.excIn K c_1 vbm "ValueError.__new__" = true)
    (x_BadTerm : PySem.W.excIn K c_2 vbm "ValueError.__new__" = true)
    (x_BadCount : PySem.W.excIn K c_3 vbm "ValueError.__new__" = true)
    (x_BadDuty : PySem.W.excIn K c_4 vbm "ValueError.__new__" = true)
    (x_BadRows : PySem.W.excIn K c_5 vbm "ValueError.__new__" = true)
    : ∃ fd : FuncData, (∀ (s : Shared) (v : Value), BindsTo s fd ⟨[v], []⟩ [("_law_script", v)]) ∧ ∀ base : Heap, K.In base → base.Ns mainGlobals mg → FnOk l.prog w K mg base CX0 6 fa fd ["_law_script"] (spLaw K) := by
  have e := hfa.symm.trans (PySem.W.mg_of X G a_law)
  cases e
  have F_is_day := fun_mk (st := s_is_day) l_is_day c_is_day k_is_day
  have F_check_day := fun_mk (st := s_check_day) l_check_day c_check_day k_check_day
  have F_check_term := fun_mk (st := s_check_term) l_check_term c_check_term k_check_term
  have F_check_many := fun_mk (st := s_check_many) l_check_many c_check_many k_check_many
  have F_check_count := fun_mk (st := s_check_count) l_check_count c_check_count k_check_count
  have F_check_duty := fun_mk (st := s_check_duty) l_check_duty c_check_duty k_check_duty
  have F_checked_lots := fun_mk (st := s_checked_lots) l_checked_lots c_checked_lots k_checked_lots
  have F_checked_outs := fun_mk (st := s_checked_outs) l_checked_outs c_checked_outs k_checked_outs
  have F_checked_both := fun_mk (st := s_checked_both) l_checked_both c_checked_both k_checked_both
  have F_going := fun_mk (st := s_going) l_going c_going k_going
  have F_dear_ones := fun_mk (st := s_dear_ones) l_dear_ones c_dear_ones k_dear_ones
  have F_units_of := fun_mk (st := s_units_of) l_units_of c_units_of k_units_of
  have F_are_rising := fun_mk (st := s_are_rising) l_are_rising c_are_rising k_are_rising
  have F_lies_in := fun_mk (st := s_lies_in) l_lies_in c_lies_in k_lies_in
  have F_good_paper := fun_mk (st := s_good_paper) l_good_paper c_good_paper k_good_paper
  have F_pick := fun_mk (st := s_pick) l_pick c_pick k_pick
  have F_odd := fun_mk (st := s_odd) l_odd c_odd k_odd
  have F_begin := fun_mk (st := s_begin) l_begin c_begin k_begin
  have F_span := fun_mk (st := s_span) l_span c_span k_span
  have F_some_term := fun_mk (st := s_some_term) l_some_term c_some_term k_some_term
  have F_some_lots := fun_mk (st := s_some_lots) l_some_lots c_some_lots k_some_lots
  have F_some_outs := fun_mk (st := s_some_outs) l_some_outs c_some_outs k_some_outs
  have F_case := fun_mk (st := s_case) l_case c_case k_case
  have F_one := fun_mk (st := s_one) l_one c_one k_one
  have F_some_stretches := fun_mk (st := s_some_stretches) l_some_stretches c_some_stretches k_some_stretches
  have F_sum_of := fun_mk (st := s_sum_of) l_sum_of c_sum_of k_sum_of
  have F_same := fun_mk (st := s_same) l_same c_same k_same
  have F_in_order := fun_mk (st := s_in_order) l_in_order c_in_order k_in_order
  have F_bent := fun_mk (st := s_bent) l_bent c_bent k_bent
  have F_law := fun_mk (st := s_law) l_law c_law k_law
  have b_is_day := F_is_day.binds (ps := p_is_day) fun _ _ _ _ _ _ us hl => match us, hl with | [_], _ => rfl
  have m_is_day := PySem.W.mg_of X G a_is_day
  have b_check_day := F_check_day.binds (ps := p_check_day) fun _ _ _ _ _ _ us hl => match us, hl with | [_], _ => rfl
  have m_check_day := PySem.W.mg_of X G a_check_day
  have b_check_term := F_check_term.binds (ps := p_check_term) fun _ _ _ _ _ _ us hl => match us, hl with | [_], _ => rfl
  have m_check_term := PySem.W.mg_of X G a_check_term
  have b_check_many := F_check_many.binds (ps := p_check_many) fun _ _ _ _ _ _ us hl => match us, hl with | [_], _ => rfl
  have m_check_many := PySem.W.mg_of X G a_check_many
  have b_check_count := F_check_count.binds (ps := p_check_count) fun _ _ _ _ _ _ us hl => match us, hl with | [_], _ => rfl
  have m_check_count := PySem.W.mg_of X G a_check_count
  have b_check_duty := F_check_duty.binds (ps := p_check_duty) fun _ _ _ _ _ _ us hl => match us, hl with | [_], _ => rfl
  have m_check_duty := PySem.W.mg_of X G a_check_duty
  have b_checked_lots := F_checked_lots.binds (ps := p_checked_lots) fun _ _ _ _ _ _ us hl => match us, hl with | [_], _ => rfl
  have m_checked_lots := PySem.W.mg_of X G a_checked_lots
  have b_checked_outs := F_checked_outs.binds (ps := p_checked_outs) fun _ _ _ _ _ _ us hl => match us, hl with | [_], _ => rfl
  have m_checked_outs := PySem.W.mg_of X G a_checked_outs
  have b_checked_both := F_checked_both.binds (ps := p_checked_both) fun _ _ _ _ _ _ us hl => match us, hl with | [_, _, _], _ => rfl
  have m_checked_both := PySem.W.mg_of X G a_checked_both
  have b_going := F_going.binds (ps := p_going) fun _ _ _ _ _ _ us hl => match us, hl with | [_, _, _], _ => rfl
  have m_going := PySem.W.mg_of X G a_going
  have b_dear_ones := F_dear_ones.binds (ps := p_dear_ones) fun _ _ _ _ _ _ us hl => match us, hl with | [_, _], _ => rfl
  have m_dear_ones := PySem.W.mg_of X G a_dear_ones
  have b_units_of := F_units_of.binds (ps := p_units_of) fun _ _ _ _ _ _ us hl => match us, hl with | [_], _ => rfl
  have m_units_of := PySem.W.mg_of X G a_units_of
  have b_are_rising := F_are_rising.binds (ps := p_are_rising) fun _ _ _ _ _ _ us hl => match us, hl with | [_], _ => rfl
  have m_are_rising := PySem.W.mg_of X G a_are_rising
  have b_lies_in := F_lies_in.binds (ps := p_lies_in) fun _ _ _ _ _ _ us hl => match us, hl with | [_, _], _ => rfl
  have m_lies_in := PySem.W.mg_of X G a_lies_in
  have b_good_paper := F_good_paper.binds (ps := p_good_paper) fun _ _ _ _ _ _ us hl => match us, hl with | [_, _, _, _], _ => rfl
  have m_good_paper := PySem.W.mg_of X G a_good_paper
  have b_pick := F_pick.binds (ps := p_pick) fun _ _ _ _ _ _ us hl => match us, hl with | [_, _], _ => rfl
  have m_pick := PySem.W.mg_of X G a_pick
  have b_odd := F_odd.binds (ps := p_odd) fun _ _ _ _ _ _ us hl => match us, hl with | [_], _ => rfl
  have m_odd := PySem.W.mg_of X G a_odd
  have b_begin := F_begin.binds (ps := p_begin) fun _ _ _ _ _ _ us hl => match us, hl with | [_], _ => rfl
  have m_begin := PySem.W.mg_of X G a_begin
  have b_span := F_span.binds (ps := p_span) fun _ _ _ _ _ _ us hl => match us, hl with | [_], _ => rfl
  have m_span := PySem.W.mg_of X G a_span
  have b_some_term := F_some_term.binds (ps := p_some_term) fun _ _ _ _ _ _ us hl => match us, hl with | [_], _ => rfl
  have m_some_term := PySem.W.mg_of X G a_some_term
  have b_some_lots := F_some_lots.binds (ps := p_some_lots) fun _ _ _ _ _ _ us hl => match us, hl with | [_, _, _, _], _ => rfl
  have m_some_lots := PySem.W.mg_of X G a_some_lots
  have b_some_outs := F_some_outs.binds (ps := p_some_outs) fun _ _ _ _ _ _ us hl => match us, hl with | [_, _, _, _], _ => rfl
  have m_some_outs := PySem.W.mg_of X G a_some_outs
  have b_case := F_case.binds (ps := p_case) fun _ _ _ _ _ _ us hl => match us, hl with | [_, _], _ => rfl
  have m_case := PySem.W.mg_of X G a_case
  have b_one := F_one.binds (ps := p_one) fun _ _ _ _ _ _ us hl => match us, hl with | [_, _], _ => rfl
  have m_one := PySem.W.mg_of X G a_one
  have b_some_stretches := F_some_stretches.binds (ps := p_some_stretches) fun _ _ _ _ _ _ us hl => match us, hl with | [_, _], _ => rfl
  have m_some_stretches := PySem.W.mg_of X G a_some_stretches
  have b_sum_of := F_sum_of.binds (ps := p_sum_of) fun _ _ _ _ _ _ us hl => match us, hl with | [_, _, _, _, _], _ => rfl
  have m_sum_of := PySem.W.mg_of X G a_sum_of
  have b_same := F_same.binds (ps := p_same) fun _ _ _ _ _ _ us hl => match us, hl with | [_, _], _ => rfl
  have m_same := PySem.W.mg_of X G a_same
  have b_in_order := F_in_order.binds (ps := p_in_order) fun _ _ _ _ _ _ us hl => match us, hl with | [_], _ => rfl
  have m_in_order := PySem.W.mg_of X G a_in_order
  have b_bent := F_bent.binds (ps := p_bent) fun _ _ _ _ _ _ us hl => match us, hl with | [_, _], _ => rfl
  have m_bent := PySem.W.mg_of X G a_bent
  have B : Bn mg := ⟨PySem.W.mg_none_of X G z_len, PySem.W.mg_none_of X G z_list, PySem.W.mg_none_of X G z_isi, PySem.W.mg_none_of X G z_bool, PySem.W.mg_none_of X G z_int, PySem.W.mg_none_of X G z_str, PySem.W.mg_none_of X G z_tuple, PySem.W.mg_none_of X G z_all, PySem.W.mg_none_of X G z_any, PySem.W.mg_none_of X G z_zip, PySem.W.mg_none_of X G z_range, PySem.W.mg_none_of X G z_max, PySem.W.mg_none_of X G z_min, PySem.W.mg_none_of X G z_enumerate, PySem.W.mg_none_of X G z_sum, PySem.W.mg_none_of X G z_sorted, PySem.W.mg_none_of X G z_verr⟩
  have TY : ∃ cl, Txt K mg cl := by
    refine ⟨(clF c_0 c_1 c_2 c_3 c_4 c_5), ⟨⟨_, PySem.W.mg_of X G g_FIRST_DAY⟩, ⟨_, PySem.W.mg_of X G g_LAST_DAY⟩, ⟨_, PySem.W.mg_of X G g_MOST_TERM⟩, ⟨_, PySem.W.mg_of X G g_MOST_ROWS⟩, ⟨_, PySem.W.mg_of X G g_MOST_COUNT⟩, ⟨_, PySem.W.mg_of X G g_MOST_DUTY⟩, PySem.W.mg_of X G g_CustomsError, PySem.W.mg_of X G g_BadDay, PySem.W.mg_of X G g_BadTerm, PySem.W.mg_of X G g_BadCount, PySem.W.mg_of X G g_BadDuty, PySem.W.mg_of X G g_BadRows, x_BadDay, x_BadTerm, x_BadCount, x_BadDuty, x_BadRows⟩⟩
  obtain ⟨cl, T⟩ := TY
  refine ⟨PySem.W.fnOf "law" "law" (defArgs s_law) (defBody s_law) (defScope s_law) .none kV_law dc_law pm_law an_law cd_law ct_law, fun s v => .of_eq rfl, fun base _ _ => ?_⟩
  have G_is_day : Cal l.prog w K mg base CX0 1 "is_day" p_is_day spIsDay := ⟨⟨_, _, ok_is_day T B F_is_day, b_is_day, k_is_day, m_is_day⟩⟩
  have G_check_day : Cal l.prog w K mg base (CXE l.prog w) 2 "check_day" p_check_day (spIn (cl 1) 999) := ⟨⟨_, _, ok_check_day T B G_is_day F_check_day, b_check_day, k_check_day, m_check_day⟩⟩
  have G_check_term : Cal l.prog w K mg base (CXE l.prog w) 2 "check_term" p_check_term (spTerm (cl 2)) := ⟨⟨_, _, ok_check_term T B F_check_term, b_check_term, k_check_term, m_check_term⟩⟩
  have G_check_many : Cal l.prog w K mg base (CXE l.prog w) 2 "check_many" p_check_many (spMany (cl 5)) := ⟨⟨_, _, ok_check_many T B F_check_many, b_check_many, k_check_many, m_check_many⟩⟩
  have G_check_count : Cal l.prog w K mg base (CXE l.prog w) 2 "check_count" p_check_count (spIn (cl 3) 10000000000) := ⟨⟨_, _, ok_check_count T B F_check_count, b_check_count, k_check_count, m_check_count⟩⟩
  have G_check_duty : Cal l.prog w K mg base (CXE l.prog w) 2 "check_duty" p_check_duty (spIn (cl 4) 1000000) := ⟨⟨_, _, ok_check_duty T B F_check_duty, b_check_duty, k_check_duty, m_check_duty⟩⟩
  have G_checked_lots : Cal l.prog w K mg base (CXE l.prog w) 3 "checked_lots" p_checked_lots (spChk (cl 5) (clCol cl) 3) := ⟨⟨_, _, ok_checked_lots T B G_check_many G_check_day G_check_count G_check_duty F_checked_lots, b_checked_lots, k_checked_lots, m_checked_lots⟩⟩
  have G_checked_outs : Cal l.prog w K mg base (CXE l.prog w) 3 "checked_outs" p_checked_outs (spChk (cl 5) (clCol cl) 2) := ⟨⟨_, _, ok_checked_outs T B G_check_many G_check_day G_check_count F_checked_outs, b_checked_outs, k_checked_outs, m_checked_outs⟩⟩
  have G_checked_both : Cal l.prog w K mg base (CXE l.prog w) 4 "checked_both" p_checked_both (spBoth cl) := ⟨⟨_, _, ok_checked_both T B G_checked_lots G_checked_outs G_check_term F_checked_both, b_checked_both, k_checked_both, m_checked_both⟩⟩
  have G_going : Cal l.prog w K mg base CX0 1 "going" p_going spGoing := ⟨⟨_, _, ok_going T B F_going, b_going, k_going, m_going⟩⟩
  have G_dear_ones : Cal l.prog w K mg base CX0 1 "dear_ones" p_dear_ones spDear := ⟨⟨_, _, ok_dear_ones T B F_dear_ones, b_dear_ones, k_dear_ones, m_dear_ones⟩⟩
  have G_units_of : Cal l.prog w K mg base CX0 1 "units_of" p_units_of spUnits := ⟨⟨_, _, ok_units_of T B F_units_of, b_units_of, k_units_of, m_units_of⟩⟩
  have G_are_rising : Cal l.prog w K mg base CX0 1 "are_rising" p_are_rising spRising := ⟨⟨_, _, ok_are_rising T B F_are_rising, b_are_rising, k_are_rising, m_are_rising⟩⟩
  have G_lies_in : Cal l.prog w K mg base CX0 1 "lies_in" p_lies_in spLies := ⟨⟨_, _, ok_lies_in T B F_lies_in, b_lies_in, k_lies_in, m_lies_in⟩⟩
  have G_good_paper : Cal l.prog w K mg base (CXE l.prog w) 5 "good_paper" p_good_paper (spGood cl) := ⟨⟨_, _, ok_good_paper T B G_checked_both G_are_rising G_dear_ones G_lies_in G_going G_units_of F_good_paper, b_good_paper, k_good_paper, m_good_paper⟩⟩
  have G_pick : Cal l.prog w K mg base CX0 1 "_law_pick" p_pick spPick := ⟨⟨_, _, ok_pick F_pick B, b_pick, k_pick, m_pick⟩⟩
  have G_odd : Cal l.prog w K mg base CX0 2 "_law_odd" p_odd spOdd := ⟨⟨_, _, ok_odd B G_pick F_odd, b_odd, k_odd, m_odd⟩⟩
  have G_begin : Cal l.prog w K mg base CX0 1 "_law_begin" p_begin (spBegin K) := ⟨⟨_, _, ok_begin F_begin B, b_begin, k_begin, m_begin⟩⟩
  have G_span : Cal l.prog w K mg base CX0 2 "_law_span" p_span spSpan := ⟨⟨_, _, ok_span B G_pick F_span, b_span, k_span, m_span⟩⟩
  have G_some_term : Cal l.prog w K mg base CX0 2 "_law_some_term" p_some_term spSome := ⟨⟨_, _, ok_some_term B G_pick F_some_term, b_some_term, k_some_term, m_some_term⟩⟩
  have G_some_lots : Cal l.prog w K mg base CX0 2 "_law_some_lots" p_some_lots spLots := ⟨⟨_, _, ok_some_lots B G_pick F_some_lots, b_some_lots, k_some_lots, m_some_lots⟩⟩
  have G_some_outs : Cal l.prog w K mg base CX0 2 "_law_some_outs" p_some_outs spOuts := ⟨⟨_, _, ok_some_outs B G_pick F_some_outs, b_some_outs, k_some_outs, m_some_outs⟩⟩
  have G_case : Cal l.prog w K mg base CX0 3 "_law_case" p_case spCase := ⟨⟨_, _, ok_case B G_pick G_span G_some_term G_some_lots G_some_outs F_case, b_case, k_case, m_case⟩⟩
  have G_one : Cal l.prog w K mg base CX0 2 "_law_one" p_one spOne := ⟨⟨_, _, ok_one B G_pick F_one, b_one, k_one, m_one⟩⟩
  have G_some_stretches : Cal l.prog w K mg base CX0 3 "_law_some_stretches" p_some_stretches spStrs := ⟨⟨_, _, ok_some_stretches B G_pick G_one F_some_stretches, b_some_stretches, k_some_stretches, m_some_stretches⟩⟩
  have G_sum_of : Cal l.prog w K mg base CX0 1 "_law_sum_of" p_sum_of spSumOf := ⟨⟨_, _, ok_sum_of B F_sum_of, b_sum_of, k_sum_of, m_sum_of⟩⟩
  have G_same : Cal l.prog w K mg base CX0 3 "_law_same" p_same (spSame 3) := ⟨⟨_, _, ok_same F_same B b_same k_same m_same 3, b_same, k_same, m_same⟩⟩
  have G_in_order : Cal l.prog w K mg base CX0 1 "_law_in_order" p_in_order spRising := ⟨⟨_, _, ok_in_order B F_in_order, b_in_order, k_in_order, m_in_order⟩⟩
  have G_bent : Cal l.prog w K mg base CX0 3 "_law_bent" p_bent spBent := ⟨⟨_, _, ok_bent B G_pick G_odd F_bent, b_bent, k_bent, m_bent⟩⟩
  exact ok_law B G_begin G_pick G_case G_odd G_one G_some_stretches G_sum_of G_in_order G_bent G_same G_good_paper F_law
theorem walk {l : PySem.W.OpenLaw} {q : Program} {loose : List Str} {XP : (Str → Option Value) → Heap → Prop} {YP : World → Heap → Prop} {d : DefRec} {K : Params → PySem.W.Frag} (hn : l.most = some 63) (hdf : d.params.defaults = [])
    (hY : ∀ (w : World) (h : Heap), YP w h → (K w.params).In h)
    (F : ∀ (w : World) (mg : Str → Option Value) (fa : Addr) (h : Heap), (K w.params).In h → h.Ns mainGlobals mg → mg d.name = some (.ref fa) →
      ∃ fd : FuncData, (∀ (s : Shared) (u : Value), BindsTo s fd ⟨[u], []⟩ [("_law_script", u)]) ∧ ∀ base : Heap, (K w.params).In base → base.Ns mainGlobals mg → FnOk l.prog w (K w.params) mg base CX0 6 fa fd ["_law_script"] (spLaw (K w.params))) :
    PySem.W.WalkO q loose XP YP l.row.toRowW d [] (fun f vs => PySem.call f vs) :=
  L2.walk_of (n := 63) (k := 6) (x := "_law_script") (CX := fun _ => CX0) (sp := fun w => spLaw (K w.params)) hn (by decide) hdf ⟨rfl, by decide, by decide⟩ hY F (fun _ _ a ns hl _ hS => ⟨a, ns, rfl, hS, hl, fun _ => rfl⟩) fun _ _ _ _ _ z => z
end K17
open PySem PySem.W PyProof.Rows
set_option maxRecDepth 100000 in
set_option maxHeartbeats 0 in
theorem PySem.Challenge.cw_drawback_k17_papers_judged_holds : PySem.Challenge.rw_drawback_k17_papers_judged.Holds := by
  w_on; o_law; k_head; (case hw => w_witness2)
  k_fill
  refine K17.walk (l := PySem.Challenge.rw_drawback_k17_papers_judged) rfl rfl (fun w h Y => PySem.W.kIn_of Y) ?F
  case F =>
    intro w mg fa h KX G hmg
    refine' K17.all_mk KX G hmg ?a_is_day ?l_is_day ?c_is_day ?k_is_day ?a_check_day ?l_check_day ?c_check_day ?k_check_day ?a_check_term ?l_check_term ?c_check_term ?k_check_term ?a_check_many ?l_check_many ?c_check_many ?k_check_many ?a_check_count ?l_check_count ?c_check_count ?k_check_count ?a_check_duty ?l_check_duty ?c_check_duty ?k_check_duty ?a_checked_lots ?l_checked_lots ?c_checked_lots ?k_checked_lots ?a_checked_outs ?l_checked_outs ?c_checked_outs ?k_checked_outs ?a_checked_both ?l_checked_both ?c_checked_both ?k_checked_both ?a_going ?l_going ?c_going ?k_going ?a_dear_ones ?l_dear_ones ?c_dear_ones ?k_dear_ones ?a_units_of ?l_units_of ?c_units_of ?k_units_of ?a_are_rising ?l_are_rising ?c_are_rising ?k_are_rising ?a_lies_in ?l_lies_in ?c_lies_in ?k_lies_in ?a_good_paper ?l_good_paper ?c_good_paper ?k_good_paper ?a_pick ?l_pick ?c_pick ?k_pick ?a_odd ?l_odd ?c_odd ?k_odd ?a_begin ?l_begin ?c_begin ?k_begin ?a_span ?l_span ?c_span ?k_span ?a_some_term ?l_some_term ?c_some_term ?k_some_term ?a_some_lots ?l_some_lots ?c_some_lots ?k_some_lots ?a_some_outs ?l_some_outs ?c_some_outs ?k_some_outs ?a_case ?l_case ?c_case ?k_case ?a_one ?l_one ?c_one ?k_one ?a_some_stretches ?l_some_stretches ?c_some_stretches ?k_some_stretches ?a_sum_of ?l_sum_of ?c_sum_of ?k_sum_of ?a_same ?l_same ?c_same ?k_same ?a_in_order ?l_in_order ?c_in_order ?k_in_order ?a_bent ?l_bent ?c_bent ?k_bent ?a_law ?l_law ?c_law ?k_law ?z_len ?z_list ?z_isi ?z_bool ?z_int ?z_str ?z_tuple ?z_all ?z_any ?z_zip ?z_range ?z_max ?z_min ?z_enumerate ?z_sum ?z_sorted ?z_verr ?g_FIRST_DAY ?g_LAST_DAY ?g_MOST_TERM ?g_MOST_ROWS ?g_MOST_COUNT ?g_MOST_DUTY ?g_CustomsError ?g_BadDay ?g_BadTerm ?g_BadCount ?g_BadDuty ?g_BadRows ?x_BadDay ?x_BadTerm ?x_BadCount ?x_BadDuty ?x_BadRows
    (case a_is_day => k_is)
    (case l_is_day => k_is)
    (case c_is_day => k_is)
    (case k_is_day => k_is)
    (case a_check_day => k_is)
    (case l_check_day => k_is)
    (case c_check_day => k_is)
    (case k_check_day => k_is)
    (case a_check_term => k_is)
    (case l_check_term => k_is)
    (case c_check_term => k_is)
    (case k_check_term => k_is)
    (case a_check_many => k_is)
    (case l_check_many => k_is)
    (case c_check_many => k_is)
    (case k_check_many => k_is)
    (case a_check_count => k_is)
    (case l_check_count => k_is)
    (case c_check_count => k_is)
    (case k_check_count => k_is)
    (case a_check_duty => k_is)
    (case l_check_duty => k_is)
    (case c_check_duty => k_is)
    (case k_check_duty => k_is)
    (case a_checked_lots => k_is)
    (case l_checked_lots => k_is)
    (case c_checked_lots => k_is)
    (case k_checked_lots => k_is)
    (case a_checked_outs => k_is)
    (case l_checked_outs => k_is)
    (case c_checked_outs => k_is)
    (case k_checked_outs => k_is)
    (case a_checked_both => k_is)
    (case l_checked_both => k_is)
    (case c_checked_both => k_is)
    (case k_checked_both => k_is)
    (case a_going => k_is)
    (case l_going => k_is)
    (case c_going => k_is)
    (case k_going => k_is)
    (case a_dear_ones => k_is)
    (case l_dear_ones => k_is)
    (case c_dear_ones => k_is)
    (case k_dear_ones => k_is)
    (case a_units_of => k_is)
    (case l_units_of => k_is)
    (case c_units_of => k_is)
    (case k_units_of => k_is)
    (case a_are_rising => k_is)
    (case l_are_rising => k_is)
    (case c_are_rising => k_is)
    (case k_are_rising => k_is)
    (case a_lies_in => k_is)
    (case l_lies_in => k_is)
    (case c_lies_in => k_is)
    (case k_lies_in => k_is)
    (case a_good_paper => k_is)
    (case l_good_paper => k_is)
    (case c_good_paper => k_is)
    (case k_good_paper => k_is)
    (case a_pick => k_is)
    (case l_pick => k_is)
    (case c_pick => k_is)
    (case k_pick => k_is)
    (case a_odd => k_is)
    (case l_odd => k_is)
    (case c_odd => k_is)
    (case k_odd => k_is)
    (case a_begin => k_is)
    (case l_begin => k_is)
    (case c_begin => k_is)
    (case k_begin => k_is)
    (case a_span => k_is)
    (case l_span => k_is)
    (case c_span => k_is)
    (case k_span => k_is)
    (case a_some_term => k_is)
    (case l_some_term => k_is)
    (case c_some_term => k_is)
    (case k_some_term => k_is)
    (case a_some_lots => k_is)
    (case l_some_lots => k_is)
    (case c_some_lots => k_is)
    (case k_some_lots => k_is)
    (case a_some_outs => k_is)
    (case l_some_outs => k_is)
    (case c_some_outs => k_is)
    (case k_some_outs => k_is)
    (case a_case => k_is)
    (case l_case => k_is)
    (case c_case => k_is)
    (case k_case => k_is)
    (case a_one => k_is)
    (case l_one => k_is)
    (case c_one => k_is)
    (case k_one => k_is)
    (case a_some_stretches => k_is)
    (case l_some_stretches => k_is)
    (case c_some_stretches => k_is)
    (case k_some_stretches => k_is)
    (case a_sum_of => k_is)
    (case l_sum_of => k_is)
    (case c_sum_of => k_is)
    (case k_sum_of => k_is)
    (case a_same => k_is)
    (case l_same => k_is)
    (case c_same => k_is)
    (case k_same => k_is)
    (case a_in_order => k_is)
    (case l_in_order => k_is)
    (case c_in_order => k_is)
    (case k_in_order => k_is)
    (case a_bent => k_is)
    (case l_bent => k_is)
    (case c_bent => k_is)
    (case k_bent => k_is)
    (case a_law => k_is)
    (case l_law => k_is)
    (case c_law => k_is)
    (case k_law => k_is)
    (case z_len => k_is)
    (case z_list => k_is)
    (case z_isi => k_is)
    (case z_bool => k_is)
    (case z_int => k_is)
    (case z_str => k_is)
    (case z_tuple => k_is)
    (case z_all => k_is)
    (case z_any => k_is)
    (case z_zip => k_is)
    (case z_range => k_is)
    (case z_max => k_is)
    (case z_min => k_is)
    (case z_enumerate => k_is)
    (case z_sum => k_is)
    (case z_sorted => k_is)
    (case z_verr => k_is)
    (case g_FIRST_DAY => k_is)
    (case g_LAST_DAY => k_is)
    (case g_MOST_TERM => k_is)
    (case g_MOST_ROWS => k_is)
    (case g_MOST_COUNT => k_is)
    (case g_MOST_DUTY => k_is)
    (case g_CustomsError => k_is)
    (case g_BadDay => k_is)
    (case g_BadTerm => k_is)
    (case g_BadCount => k_is)
    (case g_BadDuty => k_is)
    (case g_BadRows => k_is)
    (case x_BadDay => first | k_is | k_exc)
    (case x_BadTerm => first | k_is | k_exc)
    (case x_BadCount => first | k_is | k_exc)
    (case x_BadDuty => first | k_is | k_exc)
    (case x_BadRows => first | k_is | k_exc)
