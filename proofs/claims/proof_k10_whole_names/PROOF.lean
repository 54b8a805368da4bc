import PyProof.Rows.All
import Wide.All
import OpenK.AllK
import Wide.FinOn
import Lean
import PyProof.EqAt
import PyProof.EqKinds
import PyProof.TupleCall
import PyProof.StationsW
import PyProof.RulesAs
import PyProof.Rows.MatchSeqLen
import PyProof.CodeObj
import PyProof.ExcClass2
import PyProof.ExcBaseAll.ValueError
import PyProof.ExcAttrAll.ValueError
import KE.KLam
import KE.KNestM
import PySem.Challenge.RW_joinedfolk_k10_whole_names
set_option Elab.async false
set_option linter.all false
set_option maxRecDepth 100000
/-! THE HAND LAYER, for ints, bools, texts, own classes, LISTS and tuples (index, slices, in, append, pop ..), calls, loops. Paste it whole ahead of your own text; what your proof does not reach may be deleted. -/
namespace L2
open PySem PySem.Spec PyProof.Rows

/-- a key: an int or a str -/
abbrev Key := Sum Int Str
def keyIs : Key → Value → Bool
  | .inl k, v => Value.isInt k v
  | .inr x, v => Value.isStrOf x v
def keyH (w : World) : Key → Int
  | .inl k => hashInt k
  | .inr x => hashStr w x
theorem keyIs_shape : ∀ {k : Key} {v : Value}, keyIs k v = true → (∃ i t, k = Sum.inl i ∧ v = Value.int i t) ∨ (∃ x t, k = Sum.inr x ∧ v = Value.str x t)
  | .inl i, v, h => by
    obtain ⟨t, e⟩ := Value.isInt_shape (k := i) (v := v) h
    exact .inl ⟨i, t, rfl, e⟩
  | .inr x, v, h => by
    obtain ⟨t, e⟩ := Value.isStrOf_shape (x := x) (v := v) h
    exact .inr ⟨x, t, rfl, e⟩
theorem key_ll (a b : Int) : decide ((Sum.inl a : Key) = Sum.inl b) = (a == b) := by
  by_cases e : a = b
  · subst e; simp
  · have h : ¬ (Sum.inl a : Key) = Sum.inl b := fun q => e (Sum.inl.inj q)
    rw [decide_eq_false h]
    exact (beq_eq_false_iff_ne.mpr e).symm
theorem key_rr (a b : Str) : decide ((Sum.inr a : Key) = Sum.inr b) = decide (a = b) := by
  by_cases e : a = b
  · subst e; simp
  · have h : ¬ (Sum.inr a : Key) = Sum.inr b := fun q => e (Sum.inr.inj q)
    rw [decide_eq_false h, decide_eq_false e]
theorem key_lr (a : Int) (b : Str) : decide ((Sum.inl a : Key) = Sum.inr b) = false := decide_eq_false (fun q => nomatch q)
theorem key_rl (a : Str) (b : Int) : decide ((Sum.inr a : Key) = Sum.inl b) = false := decide_eq_false (fun q => nomatch q)

def mixKind (prog : Program) (w : World) : PySem.KeyKind prog w Key where
  is := keyIs
  hash := keyH w
  inj := fun v a b ha hb => by
    rcases keyIs_shape ha with ⟨i, t, rfl, rfl⟩ | ⟨x, t, rfl, rfl⟩
    · rcases keyIs_shape hb with ⟨j, u, rfl, e⟩ | ⟨y, u, rfl, e⟩
      · injection e with e1 _; rw [e1]
      · exact nomatch e
    · rcases keyIs_shape hb with ⟨j, u, rfl, e⟩ | ⟨y, u, rfl, e⟩
      · exact nomatch e
      · injection e with e1 _; rw [e1]
  byValue := fun k v h => by
    rcases keyIs_shape h with ⟨i, t, rfl, rfl⟩ | ⟨x, t, rfl, rfl⟩ <;> rfl
  pyHash := fun hv h => by
    rcases keyIs_shape hv with ⟨i, t, rfl, rfl⟩ | ⟨x, t, rfl, rfl⟩
    · exact wpAny_pyHash_int h
    · exact wpAny_pyHash_str h
  eqBool := fun hu hv h => by
    rcases keyIs_shape hu with ⟨i, t, rfl, rfl⟩ | ⟨x, t, rfl, rfl⟩
    · rcases keyIs_shape hv with ⟨j, u, rfl, rfl⟩ | ⟨y, u, rfl, rfl⟩
      · rw [key_ll] at h; exact wpAny_eqBool_int h
      · rw [key_lr] at h; exact SeqAt.EqAt.int_str i t y u _ _ _ _ h
    · rcases keyIs_shape hv with ⟨j, u, rfl, rfl⟩ | ⟨y, u, rfl, rfl⟩
      · rw [key_rl] at h; exact SeqAt.EqAt.str_int x t j u _ _ _ _ h
      · rw [key_rr] at h; exact wpAny_eqBool_str h
  «strs» := fun k x t v h => by
    rcases keyIs_shape h with ⟨i, u, rfl, e⟩ | ⟨y, u, rfl, e⟩
    · exact nomatch e
    · injection e with e1 _
      subst e1
      cases v <;> rfl

end L2

namespace L2
open PySem PySem.Spec PyProof.Rows

/-- a value, without the heap -/
inductive V where
  | non | bl (b : Bool) | int (i : Int) | str (x : Str) | byt (b : Array UInt8) | flt (b : UInt64) | ref (a : Addr) | ty (n : String)
  deriving DecidableEq

def RelV : V → Value → Prop
  | .non, u => u = Value.none
  | .bl b, u => u = Value.bool b
  | .int i, u => ∃ t, u = Value.int i t
  | .str x, u => ∃ t, u = Value.str x t
  | .byt b, u => ∃ t, u = Value.bytes b t
  | .flt b, u => ∃ t, u = Value.float b t
  | .ref a, u => u = Value.ref a
  | .ty n, u => u = Value.type n

abbrev Vals : List V → List Value → Prop := Paired RelV
theorem Vals.length {xs : List V} {us : List Value} (r : Vals xs us) : xs.length = us.length := Paired.length r
theorem Vals.get : ∀ {xs : List V} {us : List Value} {i : Nat} {x : V}, Vals xs us → xs[i]? = some x → ∃ u, us[i]? = some u ∧ RelV x u
  | _, _, _, _, .nil, e => by simp at e
  | _, _, 0, _, .cons r _, e => by simp at e; subst e; exact ⟨_, rfl, r⟩
  | _, _, i + 1, x, .cons _ t, e => by
    obtain ⟨u, h1, h2⟩ := Vals.get (i := i) (x := x) t (by simpa using e)
    exact ⟨u, by simpa using h1, h2⟩
theorem Vals.set {x : V} {u : Value} (r : RelV x u) : ∀ {xs : List V} {us : List Value} (i : Nat), Vals xs us → Vals (xs.set i x) (us.set i u)
  | _, _, _, .nil => .nil
  | _, _, 0, .cons _ t => .cons r t
  | _, _, i + 1, .cons q t => .cons q (Vals.set r i t)
theorem Vals.append : ∀ {xs ys : List V} {us ws : List Value}, Vals xs us → Vals ys ws → Vals (xs ++ ys) (us ++ ws)
  | _, _, _, _, .nil, s => s
  | _, _, _, _, .cons r t, s => .cons r (Vals.append t s)
theorem Vals.take : ∀ {xs : List V} {us : List Value} (n : Nat), Vals xs us → Vals (xs.take n) (us.take n)
  | _, _, 0, _ => .nil
  | _, _, _ + 1, .nil => .nil
  | _, _, n + 1, .cons r t => .cons r (Vals.take n t)
theorem Vals.drop : ∀ {xs : List V} {us : List Value} (n : Nat), Vals xs us → Vals (xs.drop n) (us.drop n)
  | _, _, 0, r => r
  | _, _, _ + 1, .nil => .nil
  | _, _, n + 1, .cons _ t => Vals.drop n t

def RelO : Option V → Option Value → Prop
  | some v, some u => RelV v u
  | none, none => True
  | _, _ => False
def KV {κ : Type} : List (κ × V) → List (κ × Value) → Prop := Paired fun (p : κ × V) (q : κ × Value) => p.1 = q.1 ∧ RelV p.2 q.2

/-- a key of a dict (00_mix): an int or a text -/
def kV : Key → V
  | .inl i => .int i
  | .inr x => .str x

/-- what stands at a tracked address -/
inductive HO where
  /-- a list -/
  | lst (xs : List V)
  /-- a tuple (never changes) -/
  | tup (xs : List V)
  /-- a dict whose keys are ints and texts; one whose keys are tuples of ints and texts (the empty one is both) -/
  | dK (kvs : List (Key × V)) | dT (kvs : List (List Key × V))
  /-- a set of ints: its members, its size -/
  | set (S : Int → Bool) (n : Nat)
  /-- an instance of the class at C, its dict at dx, its attributes -/
  | ins (C dx : Addr) (fs : List (Str × V))
  /-- the dict of the instance at x -/
  | own (x : Addr)
  /-- the dict of an exception -/
  | xd (fs : List (Str × V))
  /-- a bound method, f of x -/
  | met (f x : Addr)
  /-- a range object lo, lo + 1, .. below hi -/
  | rng (lo hi : Int)
  /-- a thing that is known to the object (the script; a dict while a loop walks it): read, never written while it is so -/
  | frz (o : Obj) (u : HO)
  /-- a code object's table -/
  | tbl (ps : Array Value)
  /-- any other thing, by what is true of its one object (a def of one's own: SetO a S n := HO.ext fun h => ..) -/
  | ext (φ : Heap → Prop)

abbrev Hp := Addr → Option HO
def upd (H : Hp) (a : Addr) (o : HO) : Hp := fun b => if b = a then some o else H b
theorem upd_same {H : Hp} {a : Addr} {o : HO} : upd H a o a = some o := by unfold upd; rw [if_pos rfl]
theorem upd_ne {H : Hp} {a b : Addr} {o : HO} (h : b ≠ a) : upd H a o b = H b := by unfold upd; rw [if_neg h]
/-- two objects of different content stand apart -/
theorem ne_of {H : Hp} {a b : Addr} {o u : HO} (h : H a = some o) (h' : H b = some u) (d : o ≠ u) : a ≠ b := by
  intro e; subst e; rw [h] at h'; exact d (Option.some.inj h')
theorem ne_of_none {H : Hp} {a b : Addr} {o : HO} (h : H a = some o) (h' : H b = none) : a ≠ b := by
  intro e; subst e; rw [h] at h'; cases h'

section
variable (P : Program) (w : World)
def ObjOk (H : Hp) (h : Heap) (a : Addr) : HO → Prop
  | .lst xs => xs.length ≤ sizeLine ∧ ∃ (its : List Value) (n : Nat), Vals xs its ∧ h.get? a = some { cls := .type "list", data := .seq its.toArray n }
  | .tup xs => xs.length ≤ sizeLine ∧ ∃ its : List Value, Vals xs its ∧ IsTup h a its.toArray
  | .dK kvs => kvs.length ≤ sizeLine ∧ (a == sysModules) = false ∧ ∃ vs, KV kvs vs ∧ h.DictOf (mixKind P w) a vs
  | .dT kvs => kvs.length ≤ sizeLine ∧ (a == sysModules) = false ∧ ∃ xs : List (List Key × Addr × Value),
      Paired (fun (p : List Key × V) (q : List Key × Addr × Value) => p.1 = q.1 ∧ H q.2.1 = some (.tup (p.1.map kV)) ∧ RelV p.2 q.2.2) kvs xs ∧
      ∃ o es ep, h.get? a = some o ∧ o.ExactDict ∧ o.data = .dict es ep ∧ es.toList = xs.map (entryOfKey (tupleKind (mixKind P w))) ∧ (xs.map (·.1)).Nodup
  | .set S n => h.SetOf (intKind P w) a S n
  | .ins C dx fs => H dx = some (.own a) ∧ fs.length ≤ 1000 ∧ dx ≠ a ∧ h.get? a = some (PySem.W.instObj C dx) ∧
      ∃ mA, h.Ns1 dx mA ∧ (∀ f, RelO (fs.lookup f) (mA f)) ∧ PySem.Within mA (fs.map (·.1))
  | .own _ => ∃ o, h.get? a = some o
  | .xd fs => ∃ mA, h.Ns1 a mA ∧ ∀ f, RelO (fs.lookup f) (mA f)
  | .rng lo hi => ∃ t u v, h.get? a = some { cls := .type "range", data := .fields #[.int lo t, .int hi u, .int 1 v] }
  | .frz o u => h.get? a = some o ∧ ObjOk H h a u
  | .tbl ps => h.get? a = some { cls := .none, data := .fields ps }
  | .met f x => h.get? a = some (PySem.W.methodObj (.ref f) (.ref x))
  | .ext φ => φ h ∧ (∃ o, h.get? a = some o) ∧ ∀ h1 h2 : Heap, φ h1 → (∀ o, h1.get? a = some o → h2.get? a = some o) → φ h2
/-- the abstract heap is held -/
def HOk (H : Hp) (h : Heap) : Prop := ∀ a o, H a = some o → ObjOk P w H h a o
end

section
variable {P : Program} {w : World} {H H' : Hp} {h h' : Heap} {a : Addr} {o : HO}
theorem ObjOk.lt (x : ObjOk P w H h a o) : a < h.objs.size := by
  cases o with
  | lst xs => obtain ⟨_, _, _, _, e⟩ := x; exact Heap.lt_size e
  | tup xs => obtain ⟨_, _, _, p⟩ := x; exact p.lt
  | dK kvs => obtain ⟨_, _, _, _, o, _, _, e, _⟩ := x; exact Heap.lt_size e
  | dT kvs => obtain ⟨_, _, _, _, o, _, _, e, _⟩ := x; exact Heap.lt_size e
  | set S n => obtain ⟨o, _, _, _, e, _⟩ := x; exact Heap.lt_size e
  | ins C dx fs => obtain ⟨_, _, _, e, _⟩ := x; exact Heap.lt_size e
  | own y => obtain ⟨_, e⟩ := x; exact Heap.lt_size e
  | xd fs => obtain ⟨_, ⟨_, _, _, e, _⟩, _⟩ := x; exact Heap.lt_size e
  | rng lo hi => obtain ⟨_, _, _, e⟩ := x; exact Heap.lt_size e
  | frz ob u => obtain ⟨e, _⟩ := x; exact Heap.lt_size e
  | tbl ps => exact Heap.lt_size (show h.get? a = some _ from x)
  | met f y => exact Heap.lt_size (show h.get? a = some _ from x)
  | ext φ => obtain ⟨_, ⟨_, e⟩, _⟩ := x; exact Heap.lt_size e
theorem Paired.mapP {α β : Type} {F G : α → β → Prop} : ∀ {l₁ : List α} {l₂ : List β}, Paired F l₁ l₂ → (∀ a b, F a b → G a b) → Paired G l₁ l₂
  | _, _, .nil, _ => .nil
  | _, _, .cons r t, f => .cons (f _ _ r) (Paired.mapP t f)
/-- what an object's description leans on: its own object, its own dict, the tuples -/
theorem ObjOk.stay (x : ObjOk P w H h a o) (k : ∀ b u, (b = a ∨ H b = some (.own a)) → h.get? b = some u → h'.get? b = some u)
    (ho : ∀ b, H b = some (.own a) → H' b = some (.own a)) (ht : ∀ b xs, H b = some (.tup xs) → H' b = some (.tup xs)) : ObjOk P w H' h' a o := by
  induction o with
  | lst xs => obtain ⟨z, its, n, r, e⟩ := x; exact ⟨z, its, n, r, k _ _ (.inl rfl) e⟩
  | tup xs => obtain ⟨z, its, r, ob, e, c⟩ := x; exact ⟨z, its, r, ob, k _ _ (.inl rfl) e, c⟩
  | dK kvs => obtain ⟨z, y, vs, r, ob, es, ep, e, c⟩ := x; exact ⟨z, y, vs, r, ob, es, ep, k _ _ (.inl rfl) e, c⟩
  | dT kvs =>
    obtain ⟨z, y, xs, r, ob, es, ep, e, c⟩ := x
    exact ⟨z, y, xs, Paired.mapP r fun p q z => ⟨z.1, ht _ _ z.2.1, z.2.2⟩, ob, es, ep, k _ _ (.inl rfl) e, c⟩
  | set S n => obtain ⟨ob, es, ep, t, e, c⟩ := x; exact ⟨ob, es, ep, t, k _ _ (.inl rfl) e, c⟩
  | ins C dx fs =>
    obtain ⟨d, z, ne, e, mA, ⟨od, es, ep, e2, c⟩, r⟩ := x
    exact ⟨ho _ d, z, ne, k _ _ (.inl rfl) e, mA, ⟨od, es, ep, k _ _ (.inr d) e2, c⟩, r⟩
  | own y => obtain ⟨ob, e⟩ := x; exact ⟨ob, k _ _ (.inl rfl) e⟩
  | xd fs => obtain ⟨mA, ⟨od, es, ep, e, c⟩, r⟩ := x; exact ⟨mA, ⟨od, es, ep, k _ _ (.inl rfl) e, c⟩, r⟩
  | rng lo hi => obtain ⟨t, u, v, e⟩ := x; exact ⟨t, u, v, k _ _ (.inl rfl) e⟩
  | frz ob u ih => obtain ⟨e, q⟩ := x; exact ⟨k _ _ (.inl rfl) e, ih q⟩
  | tbl ps =>
    have e : h.get? a = some { cls := .none, data := .fields ps } := x
    show h'.get? a = some { cls := .none, data := .fields ps }
    exact k a _ (.inl rfl) e
  | met f y =>
    have e : h.get? a = some (PySem.W.methodObj (.ref f) (.ref y)) := x
    show h'.get? a = some (PySem.W.methodObj (.ref f) (.ref y))
    exact k a _ (.inl rfl) e
  | ext φ => obtain ⟨p, ⟨o, e⟩, st⟩ := x; exact ⟨st _ _ p fun o q => k _ _ (.inl rfl) q, ⟨o, k _ _ (.inl rfl) e⟩, st⟩
theorem HOk.lt (x : HOk P w H h) (e : H a = some o) : a < h.objs.size := (x a o e).lt
theorem HOk.fresh (x : HOk P w H h) (e : h.objs.size ≤ a) : H a = none := by
  cases q : H a with
  | none => rfl
  | some u => exact absurd (Nat.lt_of_lt_of_le (x.lt q) e) (Nat.lt_irrefl _)
/-- every object of the heap is kept -/
theorem HOk.kept (x : HOk P w H h) (k : ∀ b u, h.get? b = some u → h'.get? b = some u) : HOk P w H h' := fun a o e =>
  (x a o e).stay (fun b u _ q => k b u q) (fun _ q => q) fun _ _ q => q
/-- a new object is laid and tracked -/
theorem HOk.laid (x : HOk P w H h) (k : ∀ b u, h.get? b = some u → h'.get? b = some u) (hp : h.objs.size ≤ a) (new : ObjOk P w (upd H a o) h' a o) : HOk P w (upd H a o) h' := fun b u e => by
  have hn := x.fresh hp
  by_cases hb : b = a
  · subst hb; rw [upd_same] at e; cases e; exact new
  · rw [upd_ne hb] at e
    exact (x b u e).stay (fun c v _ q => k c v q) (fun c q => by rw [upd_ne (ne_of_none q hn)]; exact q) fun c xs q => by rw [upd_ne (ne_of_none q hn)]; exact q
end

/-- what may be read as u: it is u, or a known u -/
def Rd (H : Hp) (a : Addr) (u : HO) : Prop := H a = some u ∨ ∃ o, H a = some (.frz o u)
theorem Rd.ok {P : Program} {w : World} {H : Hp} {h : Heap} {a : Addr} {u : HO} (r : Rd H a u) (x : HOk P w H h) : ObjOk P w H h a u := by
  rcases r with r | ⟨o, r⟩
  · exact x a u r
  · obtain ⟨_, q⟩ := x a _ r
    exact q
/-- what may be written -/
def Mut : Option HO → Prop
  | some (.lst _) => True
  | some (.dK _) => True
  | some (.dT _) => True
  | some (.set _ _) => True
  | some (.ins _ _ _) => True
  | some (.ext _) => True
  | _ => False
section
variable {P : Program} {w : World} {H : Hp} {h h' : Heap} {x e : Addr} {o' : HO}
/-- the object at e is changed: x itself, or the dict of the instance x -/
theorem HOk.write (ok : HOk P w H h) (mu : Mut (H x)) (he : e = x ∨ H e = some (.own x)) (k : ∀ b u, b ≠ e → h.get? b = some u → h'.get? b = some u) (heo : ∃ u, h'.get? e = some u)
    (new : ObjOk P w (upd H x o') h' x o') : HOk P w (upd H x o') h' := fun b u q => by
  have nown : ∀ c y, H c = some (.own y) → c ≠ x := fun c y r z => by subst z; rw [r] at mu; exact mu
  have ntup : ∀ c xs, H c = some (.tup xs) → c ≠ x := fun c xs r z => by subst z; rw [r] at mu; exact mu
  by_cases hb : b = x
  · subst hb; rw [upd_same] at q; cases q; exact new
  · rw [upd_ne hb] at q
    by_cases hbe : b = e
    · have q' : H b = some (.own x) := by
        rcases he with z | z
        · exact absurd (hbe.trans z) hb
        · rw [hbe]; exact z
      rw [q] at q'; cases q'
      obtain ⟨v, hv⟩ := heo
      exact ⟨v, by rw [hbe]; exact hv⟩
    · refine (ok b u q).stay (fun c v hc r => k c v ?_ r) (fun c r => by rw [upd_ne (nown c b r)]; exact r) fun c xs r => by rw [upd_ne (ntup c xs r)]; exact r
      rcases hc with rfl | hc
      · exact hbe
      · rintro rfl
        rcases he with z | z
        · exact nown c b hc z
        · rw [hc] at z; cases z; exact hb rfl
end

/-! ### kept unless tracked; of the frames at fs (the callers') the slots may change (an exception that passes writes there); of the records at ex (iterators) nothing is said -/
structure Un (fs ex : List Addr) (H H' : Hp) (h h' : Heap) : Prop where
  keep : ∀ b o, h.get? b = some o → H b = none → b ∉ fs → b ∉ ex → h'.get? b = some o
  slot : ∀ b o, h.get? b = some o → H b = none → b ∈ fs → b ∉ ex → ∃ sl, h'.get? b = some { o with slots := sl }
  free : ∀ b o, h.get? b = some o → H b = none → b ∉ ex → H' b = none
  there : ∀ b o, h.get? b = some o → b ∉ ex → ∃ o', h'.get? b = some o'
  tups : ∀ b xs, H b = some (.tup xs) → H' b = some (.tup xs)
  frzs : ∀ b o u, H b = some (.frz o u) → H' b = some (.frz o u)
  tbls : ∀ b ps, H b = some (.tbl ps) → ∃ more, H' b = some (.tbl (ps ++ more))
section
variable {fs fs' ex ex' : List Addr} {H H1 H2 : Hp} {h h1 h2 h' : Heap} {a x e : Addr} {o : HO}
theorem Un.any (u : Un fs ex H H1 h h1) {b : Addr} {ob : Obj} (q : h.get? b = some ob) (n : H b = none) (hx : b ∉ ex) : ∃ sl, h1.get? b = some { ob with slots := sl } := by
  by_cases hb : b ∈ fs
  · exact u.slot b ob q n hb hx
  · exact ⟨ob.slots, u.keep b ob q n hb hx⟩
theorem Un.kept (k : ∀ b u, h.get? b = some u → h'.get? b = some u) : Un fs ex H H h h' :=
  ⟨fun b ob q _ _ _ => k b ob q, fun b ob q _ _ _ => ⟨ob.slots, k b ob q⟩, fun _ _ _ n _ => n, fun b ob q _ => ⟨ob, k b ob q⟩, fun _ _ q => q, fun _ _ _ q => q, fun _ ps q => ⟨#[], by rw [q]; simp⟩⟩
theorem Un.refl : Un fs ex H H h h := Un.kept fun _ _ q => q
theorem Un.laid (k : ∀ b u, h.get? b = some u → h'.get? b = some u) (hp : h.objs.size ≤ a) (hn : H a = none) : Un fs ex H (upd H a o) h h' where
  keep := fun b u q _ _ _ => k b u q
  slot := fun b u q _ _ _ => ⟨u.slots, k b u q⟩
  free := fun b u q n _ => by rw [upd_ne (Nat.ne_of_lt (Nat.lt_of_lt_of_le (Heap.lt_size q) hp))]; exact n
  there := fun b u q _ => ⟨u, k b u q⟩
  tups := fun b xs q => by rw [upd_ne (ne_of_none q hn)]; exact q
  frzs := fun b u xs q => by rw [upd_ne (ne_of_none q hn)]; exact q
  tbls := fun b ps q => ⟨#[], by rw [upd_ne (ne_of_none q hn), q]; simp⟩
theorem Un.write (mu : Mut (H x)) (he : e = x ∨ H e = some (.own x)) (k : ∀ b u, b ≠ e → h.get? b = some u → h'.get? b = some u) (heo : ∃ u, h'.get? e = some u) : Un fs ex H (upd H x o) h h' := by
  have hx : ∀ b, H b = none → b ≠ x := fun b n z => by subst z; rw [n] at mu; exact mu
  have hb : ∀ b, H b = none → b ≠ e := fun b n z => by
    subst z
    rcases he with r | r
    · exact hx b n r
    · rw [n] at r; cases r
  have hm : ∀ b u, H b = some u → ¬ Mut (some u) → b ≠ x := fun b u q nm z => by subst z; rw [q] at mu; exact nm mu
  refine ⟨fun b u q n _ _ => k b u (hb b n) q, fun b u q n _ _ => ⟨u.slots, k b u (hb b n) q⟩, fun b u q n _ => by rw [upd_ne (hx b n)]; exact n, fun b u q _ => ?_,
    fun b xs q => by rw [upd_ne (hm b _ q fun z => z)]; exact q, fun b u xs q => by rw [upd_ne (hm b _ q fun z => z)]; exact q, fun b ps q => ⟨#[], by rw [upd_ne (hm b _ q fun z => z), q]; simp⟩⟩
  by_cases hbe : b = e
  · subst hbe; exact heo
  · exact ⟨u, k b u hbe q⟩
end

/-! ### the heap without what is tracked -/
def trk (h : Heap) (H : Hp) : List Addr := (List.range h.objs.size).filter fun a => (H a).isSome
def hidT (h : Heap) (H : Hp) : Heap := PySem.W.hideAll h (trk h H)
theorem hidT_size (h : Heap) (H : Hp) : (hidT h H).objs.size = h.objs.size := PySem.W.hideAll_size _ _
theorem hidT_get {h : Heap} {H : Hp} {b : Addr} {o : Obj} (e : h.get? b = some o) (n : H b = none) : (hidT h H).get? b = some o :=
  PySem.W.hideAll_get _ e fun hm => by
    have q : (H b).isSome = true := (List.mem_filter.mp hm).2
    rw [n] at q; simp at q
theorem of_hidT {h : Heap} {H : Hp} {b : Addr} {o : Obj} (e : (hidT h H).get? b = some o) : h.get? b = some o ∧ H b = none := by
  have e' : h.get? b = some o := PySem.W.of_hideAll (trk h H) e
  refine ⟨e', ?_⟩
  cases q : H b with
  | none => rfl
  | some x =>
    have hm : b ∈ trk h H := List.mem_filter.mpr ⟨List.mem_range.mpr (Heap.lt_size e'), by simp [q]⟩
    have z : (hidT h H).get? b = none := PySem.W.hideAll_none (trk h H) hm
    rw [z] at e; cases e

/-! ### OpenK's ledger, filled with every new object but one -/
def allNews (g h : Heap) (L : Addr) : List (Addr × Obj) := (List.range h.objs.size).filterMap fun a => if a = L ∨ (g.get? a).isSome = true then none else (h.get? a).map fun o => (a, o)
def rest (g h : Heap) (L d : Addr) : List (Addr × Obj) := (allNews g h L).filter fun p => decide (p.1 ≠ d)
end L2

namespace L2
open PySem PySem.Spec PyProof.Rows

/-- the module's facts, over the base: the heap at the law's entry without what is tracked there -/
structure Mod (K : PySem.W.Frag) (mg : Str → Option Value) (base : Heap) : Prop where
  kin : K.In base
  glob : base.Ns mainGlobals mg
  blt : ∃ mb, base.Ns builtinsNs mb ∧ ∀ x : Str, x ≠ "__name__" → mb x = bootBuiltins x
  nolimit : base.NoLimit

/-- the context: a def's body (or a comprehension's block) running. base: fixed through the whole law; s₀, H₀: the entry; outer: the frames whose slots others may change (a def's callers); stack: all frames that run;
   ex: iterators that were made ahead of the entry and are walked here (a comprehension's); fn: the names whose cells were made at the entry (a def: all; a comprehension's block: its own); calm: not within an except suite; pn: pins that every state bears; xe: what is wanted of an exception that leaves the code -/
structure Cx where
  prog : Program
  w : World
  K : PySem.W.Frag
  mg : Str → Option Value
  base : Heap
  A : Around
  N : List Str
  s₀ : Shared
  H₀ : Hp
  env : Env
  outer : List Env
  stack : List Env
  ex : List Addr
  fn : Str → Bool
  calm : Bool
  pn : List (Addr × Obj)
  xe : Value → Shared → Prop
/-- the callers' frames -/
def frs (l : List Env) : List Addr := l.filterMap (·.frame)
abbrev Cx.fs (X : Cx) : List Addr := frs X.outer

def Vis (sc : Scope) (x : Str) : Prop := sc.names.lookup x = some .local ∨ sc.names.lookup x = some .cell ∨ sc.names.lookup x = some .free
def Loc (sc : Scope) (x : Str) : Prop := sc.names.lookup x = some .local ∨ sc.names.lookup x = some .cell
def Look (env : Env) (h : Heap) (m : Str → Option Value) (x : Str) (u : Value) : Prop :=
  (env.kindOf x = some .local ∧ m x = some u) ∨ ((env.kindOf x = some .cell ∨ env.kindOf x = some .free) ∧ ∃ c, env.cells.lookup x = some c ∧ h.IsCell c (some u))

structure Cx.Ok (X : Cx) : Prop where
  mod : Mod X.K X.mg X.base
  kind : X.env.scope.kind = .function
  glob : X.env.globals = mainGlobals
  blt : X.env.builtins = builtinsNs
  above : X.s₀.heap.objs.size ≤ X.env.locals
  inj : ∀ x y c, X.env.cells.lookup x = some c → X.env.cells.lookup y = some c → x = y
  has : ∀ x, (X.env.kindOf x = some .cell ∨ X.env.kindOf x = some .free) → ∃ c, X.env.cells.lookup x = some c
  cab : ∀ x c, X.fn x = true → X.env.cells.lookup x = some c → X.s₀.heap.objs.size ≤ c
  hd : X.calm = true → X.A.handled = none
  frames : X.A.frames = some X.stack
  stk : X.stack = X.outer ∨ (X.stack = X.env :: X.outer ∧ X.env.frame = some X.env.locals)
  exf : ∀ b ∈ X.ex, b ≠ X.env.locals ∧ ∀ x c, X.env.cells.lookup x = some c → c ≠ b
  bs : ∀ b o, X.base.get? b = some o → X.s₀.heap.get? b = some o ∧ X.H₀ b = none
  bsz : X.base.objs.size ≤ X.s₀.heap.objs.size
  noex : ∀ b o, X.base.get? b = some o → b ∉ X.ex
  exfs : ∀ b ∈ X.ex, b ∉ X.fs
  funs : X.s₀.heap.FunFrames X.base X.outer
  frf : ∀ b ∈ X.fs, X.H₀ b = none

structure Inv (X : Cx) (pins : List (Addr × Obj)) (σ : List (Option V)) (H : Hp) (s : Shared) : Prop where
  ok : X.Ok
  os : s.os = X.s₀.os
  bare : AllBare s.gens
  base : Un X.fs X.ex X.H₀ H X.s₀.heap s.heap
  loc : ∃ m, s.heap.Ns X.env.locals m ∧ ∀ (i : Nat) (x : Str) (v : V), X.N[i]? = some x → σ[i]? = some (some v) → Vis X.env.scope x → ∃ u, RelV v u ∧ Look X.env s.heap m x u
  cell : ∀ x c, X.env.cells.lookup x = some c → ∃ v, s.heap.IsCell c v
  free : H X.env.locals = none
  freeC : ∀ x c, X.env.cells.lookup x = some c → H c = none
  pin : ∀ p ∈ X.pn ++ pins, s.heap.get? p.1 = some p.2 ∧ H p.1 = none ∧ p.1 ≠ X.env.locals ∧ p.1 ∉ X.fs ∧ ∀ v, p.2.data ≠ .cell v
  hok : HOk X.prog X.w H s.heap
  len : σ.length = X.N.length

section
variable {X : Cx} {pins : List (Addr × Obj)} {σ : List (Option V)} {H H' : Hp} {s : Shared} {h' : Heap}

theorem Cx.Ok.nofr (ok : X.Ok) {b : Addr} {o : Obj} (e : X.base.get? b = some o) : b ∉ X.fs := fun hb => by
  have := (ok.funs.mem hb).1
  rw [e] at this; cases this
theorem Inv.bs (I : Inv X pins σ H s) : ∀ b o, X.base.get? b = some o → s.heap.get? b = some o ∧ H b = none := fun b o e =>
  ⟨I.base.keep b o (I.ok.bs b o e).1 (I.ok.bs b o e).2 (I.ok.nofr e) (I.ok.noex b o e), I.base.free b o (I.ok.bs b o e).1 (I.ok.bs b o e).2 (I.ok.noex b o e)⟩
theorem Inv.bk (I : Inv X pins σ H s) : ∀ b o, X.base.get? b = some o → s.heap.get? b = some o := fun b o e => (I.bs b o e).1
theorem Inv.mod (I : Inv X pins σ H s) : Mod X.K X.mg X.base := I.ok.mod
theorem Inv.kIn (I : Inv X pins σ H s) : X.K.In s.heap := I.ok.mod.kin.keeps I.bk
theorem Inv.nolimit (I : Inv X pins σ H s) : s.heap.NoLimit := I.ok.mod.nolimit.keeps I.bk
theorem Inv.lt (I : Inv X pins σ H s) : X.env.locals < s.heap.objs.size := let ⟨_, hn, _⟩ := I.loc; hn.lt
theorem Inv.sz (I : Inv X pins σ H s) : X.s₀.heap.objs.size ≤ s.heap.objs.size := Nat.le_trans I.ok.above (Nat.le_of_lt I.lt)
theorem Inv.nofs (I : Inv X pins σ H s) {a : Addr} (h : s.heap.objs.size ≤ a) : a ∉ X.fs := fun hb => by
  obtain ⟨_, o, ho, _⟩ := I.ok.funs.mem hb
  exact absurd (Nat.lt_of_lt_of_le (Heap.lt_size ho) (Nat.le_trans I.sz h)) (Nat.lt_irrefl _)
theorem Inv.cne (I : Inv X pins σ H s) : ∀ x c, X.env.cells.lookup x = some c → c ≠ X.env.locals := fun x c e z => by
  obtain ⟨v, o, ho, hd⟩ := I.cell x c e
  obtain ⟨m, ⟨o', es, ep, ho', hd', _⟩, _⟩ := I.loc
  rw [z, ho'] at ho; cases ho; rw [hd'] at hd; cases hd
theorem Inv.funs (I : Inv X pins σ H s) : s.heap.FunFrames X.base X.outer := by
  have all : ∀ (l : List Env), (∀ b ∈ frs l, b ∈ X.fs) → X.s₀.heap.FunFrames X.base l → s.heap.FunFrames X.base l := by
    intro l
    induction l with
    | nil => intro _ _; trivial
    | cons env r ih =>
      intro hs hl
      obtain ⟨hk, ⟨L, o, hf, hn, ho, hd⟩, hr⟩ := hl
      have hL : L ∈ X.fs := hs L (by unfold frs; rw [List.filterMap_cons, hf]; exact List.mem_cons_self)
      obtain ⟨sl, e⟩ := I.base.slot L o ho (I.ok.frf L hL) hL fun z => I.ok.exfs L z hL
      exact ⟨hk, ⟨L, _, hf, hn, e, hd⟩, ih (fun b hb => hs b (by unfold frs; rw [List.filterMap_cons, hf]; exact List.mem_cons_of_mem _ hb)) hr⟩
  exact all X.outer (fun _ hb => hb) I.ok.funs

/-- the frames that run, for a call -/
theorem Inv.stack (I : Inv X pins σ H s) : s.heap.FunFrames X.base X.stack := by
  rcases I.ok.stk with e | ⟨e, hf⟩
  · rw [e]; exact I.funs
  · rw [e]
    obtain ⟨m, hn, _⟩ := I.loc
    refine .cons (by rw [I.ok.kind]; decide) hf hn ?_ I.funs
    exact Heap.get?_none_of_le (Nat.le_trans I.ok.bsz I.ok.above)
theorem Inv.stkSub (I : Inv X pins σ H s) : ∀ b ∈ frs X.stack, b ∈ X.env.locals :: X.fs := fun b hb => by
  rcases I.ok.stk with e | ⟨e, hf⟩
  · rw [e] at hb; exact List.mem_cons_of_mem _ hb
  · rw [e] at hb
    unfold frs at hb
    rw [List.filterMap_cons, hf] at hb
    exact hb
theorem Inv.stkFree (I : Inv X pins σ H s) : ∀ b ∈ frs X.stack, H b = none := fun b hb => by
  rcases List.mem_cons.mp (I.stkSub b hb) with e | hb
  · rw [e]; exact I.free
  · obtain ⟨_, o, ho, _⟩ := I.ok.funs.mem hb
    exact I.base.free b o ho (I.ok.frf b hb) fun z => I.ok.exfs b z hb

/-- THE STEP: the untracked objects but the frame and the records at ch are kept (the callers' frames up to slots), the frame's map is kept, the new abstract heap is held -/
theorem Inv.step {g' : Array GenState} {t' : Nat} {d' : Drawn} {ch : List Addr} (I : Inv X pins σ H s)
    (hch : ∀ b ∈ ch, (b ∈ X.ex ∨ X.s₀.heap.objs.size ≤ b) ∧ b ≠ X.env.locals ∧ (∀ x c, X.env.cells.lookup x = some c → c ≠ b) ∧ ∀ p ∈ X.pn ++ pins, p.1 ≠ b)
    (keep : ∀ b o, b ≠ X.env.locals → b ∉ X.fs → b ∉ ch → s.heap.get? b = some o → H b = none → h'.get? b = some o)
    (slot : ∀ b o, b ≠ X.env.locals → b ∈ X.fs → b ∉ ch → s.heap.get? b = some o → H b = none → ∃ sl, h'.get? b = some { o with slots := sl }) (free : ∀ b o, b ∉ ch → s.heap.get? b = some o → H b = none → H' b = none)
    (there : ∀ b o, b ∉ ch → s.heap.get? b = some o → ∃ o', h'.get? b = some o')
    (tups : ∀ b xs, H b = some (.tup xs) → H' b = some (.tup xs)) (frzs : ∀ b o u, H b = some (.frz o u) → H' b = some (.frz o u)) (tbls : ∀ b ps, H b = some (.tbl ps) → ∃ more, H' b = some (.tbl (ps ++ more)))
    (ns : ∀ m, s.heap.Ns X.env.locals m → h'.Ns X.env.locals m) (hok : HOk X.prog X.w H' h') (hg : AllBare g') :
    Inv X pins σ H' { s with heap := h', gens := g', drawn := d', toks := t' } := by
  have neL : ∀ b o, X.s₀.heap.get? b = some o → b ≠ X.env.locals := fun b o e => Nat.ne_of_lt (Nat.lt_of_lt_of_le (Heap.lt_size e) I.ok.above)
  have neC : ∀ b o, X.s₀.heap.get? b = some o → b ∉ X.ex → b ∉ ch := fun b o e hx hb => by
    rcases (hch b hb).1 with z | z
    · exact hx z
    · exact absurd (Nat.lt_of_lt_of_le (Heap.lt_size e) z) (Nat.lt_irrefl _)
  have cellK : ∀ x c, X.env.cells.lookup x = some c → ∀ v, s.heap.IsCell c v → h'.IsCell c v := fun x c e v ⟨o, ho, hd⟩ => by
    have nch : c ∉ ch := fun z => (hch c z).2.2.1 x c e rfl
    by_cases hc : c ∈ X.fs
    · obtain ⟨sl, q⟩ := slot c o (I.cne x c e) hc nch ho (I.freeC x c e)
      exact ⟨_, q, hd⟩
    · exact ⟨o, keep c o (I.cne x c e) hc nch ho (I.freeC x c e), hd⟩
  refine ⟨I.ok, I.os, hg, ⟨fun b o e n hb hx => ?_, fun b o e n hb hx => ?_, fun b o e n hx => ?_, fun b o e hx => ?_, fun b xs e => tups b xs (I.base.tups b xs e), fun b o xs e => frzs b o xs (I.base.frzs b o xs e), fun b ps e => ?_⟩, ?_, fun x c e => ?_, ?_, fun x c e => ?_, fun p hp => ?_, hok, I.len⟩
  · exact keep b o (neL b o e) hb (neC b o e hx) (I.base.keep b o e n hb hx) (I.base.free b o e n hx)
  · obtain ⟨sl, e1⟩ := I.base.slot b o e n hb hx
    obtain ⟨sl', e2⟩ := slot b _ (neL b o e) hb (neC b o e hx) e1 (I.base.free b o e n hx)
    exact ⟨sl', e2⟩
  · obtain ⟨o', e1⟩ := I.base.there b o e hx
    exact free b o' (neC b o e hx) e1 (I.base.free b o e n hx)
  · obtain ⟨o', e1⟩ := I.base.there b o e hx
    exact there b o' (neC b o e hx) e1
  · obtain ⟨m1, e1⟩ := I.base.tbls b ps e
    obtain ⟨m2, e2⟩ := tbls b _ e1
    exact ⟨m1 ++ m2, by rw [e2, Array.append_assoc]⟩
  · obtain ⟨m, hn, hl⟩ := I.loc
    refine ⟨m, ns m hn, fun i x v e1 e2 e3 => ?_⟩
    obtain ⟨u, r, l⟩ := hl i x v e1 e2 e3
    refine ⟨u, r, ?_⟩
    rcases l with l | ⟨k, c, e, z⟩
    · exact .inl l
    · exact .inr ⟨k, c, e, cellK x c e _ z⟩
  · obtain ⟨v, z⟩ := I.cell x c e
    exact ⟨v, cellK x c e v z⟩
  · obtain ⟨m, ⟨o, _, _, ho, _⟩, _⟩ := I.loc
    exact free _ o (fun z => (hch _ z).2.1 rfl) ho I.free
  · obtain ⟨v, o, ho, hd⟩ := I.cell x c e
    exact free c o (fun z => (hch c z).2.2.1 x c e rfl) ho (I.freeC x c e)
  · obtain ⟨e, n, ne, nf, d⟩ := I.pin p hp
    have nch : p.1 ∉ ch := fun z => (hch p.1 z).2.2.2 p hp rfl
    exact ⟨keep p.1 p.2 ne nf nch e n, free p.1 p.2 nch e n, ne, nf, d⟩
/-- .. where the frame's own object is kept too -/
theorem Inv.un {t' : Nat} (I : Inv X pins σ H s) (u : Un X.fs [] H H' s.heap h') (hok : HOk X.prog X.w H' h') : Inv X pins σ H' { s with heap := h', toks := t' } := by
  obtain ⟨m, ⟨o, es, ep, ho, r⟩, _⟩ := id I.loc
  obtain ⟨sl, hL⟩ := u.any ho I.free (by simp)
  exact I.step (g' := s.gens) (d' := s.drawn) (ch := []) (fun _ z => nomatch z) (fun b o _ hb _ e n => u.keep b o e n hb (by simp)) (fun b o _ hb _ e n => u.slot b o e n hb (by simp)) (fun b o _ e n => u.free b o e n (by simp)) (fun b o _ e => u.there b o e (by simp)) u.tups u.frzs u.tbls (fun m' hm => by
    obtain ⟨o', es', ep', ho', r'⟩ := hm
    rw [ho] at ho'; cases ho'
    exact ⟨_, es', ep', hL, r'⟩) hok I.bare
/-- behind a call (or a comprehension's block): the slots of this frame may have changed too, the records at ch may have turned -/
theorem Inv.call {g' : Array GenState} {t' : Nat} {d' : Drawn} {ch : List Addr} (I : Inv X pins σ H s) (u : Un (frs X.stack) ch H H' s.heap h') (hok : HOk X.prog X.w H' h') (hg : AllBare g')
    (hch : ∀ b ∈ ch, (b ∈ X.ex ∨ X.s₀.heap.objs.size ≤ b) ∧ b ≠ X.env.locals ∧ (∀ x c, X.env.cells.lookup x = some c → c ≠ b) ∧ ∀ p ∈ X.pn ++ pins, p.1 ≠ b) :
    Inv X pins σ H' { s with heap := h', gens := g', drawn := d', toks := t' } := by
  obtain ⟨m, ⟨o, es, ep, ho, r⟩, _⟩ := id I.loc
  obtain ⟨sl, hL⟩ := u.any ho I.free fun z => (hch _ z).2.1 rfl
  exact I.step (ch := ch) hch (fun b o hL hb hc e n => u.keep b o e n (fun z => (List.mem_cons.mp (I.stkSub b z)).elim hL hb) hc) (fun b o _ _ hc e n => u.any e n hc) (fun b o hc e n => u.free b o e n hc) (fun b o hc e => u.there b o e hc) u.tups u.frzs u.tbls (fun m' hm => by
    obtain ⟨o', es', ep', ho', r'⟩ := hm
    rw [ho] at ho'; cases ho'
    exact ⟨_, es', ep', hL, r'⟩) hok hg
/-- an untracked record of ours (an iterator) has turned -/
theorem Inv.turned {t' : Nat} {it : Addr} (I : Inv X pins σ H s) (k : ∀ b o, b ≠ it → s.heap.get? b = some o → h'.get? b = some o) (hn : H it = none) (hL : it ≠ X.env.locals)
    (h1 : it ∈ X.ex ∨ X.s₀.heap.objs.size ≤ it) (h2 : ∀ x c, X.env.cells.lookup x = some c → c ≠ it) (h3 : ∀ p ∈ X.pn ++ pins, p.1 ≠ it) : Inv X pins σ H { s with heap := h', toks := t' } := by
  have nit : ∀ b u, H b = some u → b ≠ it := fun b u e z => by rw [z, hn] at e; cases e
  refine I.step (g' := s.gens) (d' := s.drawn) (ch := [it]) (fun b hb => ?_) (fun b o _ _ hc e _ => k b o (fun z => hc (by simp [z])) e) (fun b o _ _ hc e _ => ⟨o.slots, k b o (fun z => hc (by simp [z])) e⟩) (fun _ _ _ _ n => n)
    (fun b o hc e => ⟨o, k b o (fun z => hc (by simp [z])) e⟩) (fun _ _ e => e) (fun _ _ _ e => e) (fun b ps e => ⟨#[], by rw [e]; simp⟩) (fun m hm => ?_) (fun b u e => ?_) I.bare
  · have e : b = it := by simpa using hb
    subst e
    exact ⟨h1, hL, h2, h3⟩
  · obtain ⟨o, es, ep, ho, r⟩ := hm
    exact ⟨o, es, ep, k _ o (Ne.symm hL) ho, r⟩
  · refine (I.hok b u e).stay (fun c v hc q => k c v ?_ q) (fun _ q => q) fun _ _ q => q
    rcases hc with z | z
    · rw [z]; exact nit b u e
    · exact nit c _ z
theorem Inv.tok (I : Inv X pins σ H s) (t : Nat) : Inv X pins σ H { s with toks := t } := I.un (h' := s.heap) (t' := t) Un.refl I.hok
/-- all objects kept -/
theorem Inv.kept {t' : Nat} (I : Inv X pins σ H s) (k : ∀ b u, s.heap.get? b = some u → h'.get? b = some u) : Inv X pins σ H { s with heap := h', toks := t' } := I.un (Un.kept k) (I.hok.kept k)
/-- a new object laid and tracked -/
theorem Inv.laid {a : Addr} {o : HO} {t' : Nat} (I : Inv X pins σ H s) (k : ∀ b u, s.heap.get? b = some u → h'.get? b = some u) (hp : s.heap.objs.size ≤ a) (new : ObjOk X.prog X.w (upd H a o) h' a o) :
    Inv X pins σ (upd H a o) { s with heap := h', toks := t' } := I.un (Un.laid k hp (I.hok.fresh hp)) (I.hok.laid k hp new)
/-- an object written -/
theorem Inv.write {x e : Addr} {o : HO} {t' : Nat} (I : Inv X pins σ H s) (mu : Mut (H x)) (he : e = x ∨ H e = some (.own x)) (k : ∀ b u, b ≠ e → s.heap.get? b = some u → h'.get? b = some u) (heo : ∃ u, h'.get? e = some u)
    (new : ObjOk X.prog X.w (upd H x o) h' x o) : Inv X pins σ (upd H x o) { s with heap := h', toks := t' } := I.un (Un.write mu he k heo) (I.hok.write mu he k heo new)
theorem Inv.pins_of {pins' : List (Addr × Obj)} (I : Inv X pins σ H s) (h : ∀ p ∈ pins', s.heap.get? p.1 = some p.2 ∧ H p.1 = none ∧ p.1 ≠ X.env.locals ∧ p.1 ∉ X.fs ∧ ∀ v, p.2.data ≠ .cell v) : Inv X pins' σ H s :=
  ⟨I.ok, I.os, I.bare, I.base, I.loc, I.cell, I.free, I.freeC, fun p hp => (List.mem_append.mp hp).elim (fun z => I.pin p (List.mem_append_left _ z)) (h p), I.hok, I.len⟩

theorem nodup_ix {N : List Str} (hN : N.Nodup) {i j : Nat} {x : Str} (a : N[i]? = some x) (b : N[j]? = some x) : i = j := by
  obtain ⟨h1, e1⟩ := List.getElem?_eq_some_iff.mp a
  obtain ⟨h2, e2⟩ := List.getElem?_eq_some_iff.mp b
  exact (List.getElem_inj hN).mp (e1.trans e2.symm)

/-- a name is stored; what changed -/
theorem store_ok2 {M : Model} {A : Around} {E : Value → Shared → Prop} {i : Nat} {x : Str} {v : V} {u : Value} {Q : Unit → Shared → Prop} (I : Inv X pins σ H s) (hN : X.N.Nodup) (hi : X.N[i]? = some x) (hx : Loc X.env.scope x) (r : RelV v u)
    (h : ∀ s', Inv X pins (σ.set i (some v)) H s' → (∃ a, Heap.SameBut a s.heap s'.heap ∧ (a = X.env.locals ∨ X.env.cells.lookup x = some a)) → Q () s') (hf : X.fn x = true ∨ X.env.scope.names.lookup x = some .local := by first | exact .inl rfl | exact .inr rfl | assumption) : wpAny M A (storeName X.env x u) Q E s := by
  obtain ⟨m, hn, hl⟩ := id I.loc
  have hcls : (X.env.scope.kind == .class || (X.env.scope.kind == .module && X.env.locals != X.env.globals)) = false := by rw [I.ok.kind]; rfl
  have hiσ : i < σ.length := by rw [I.len]; exact (List.getElem?_eq_some_iff.mp hi).1
  have cne := I.cne
  have tracked : ∀ {a : Addr} {h' : Heap}, (∃ o, s.heap.get? a = some o ∧ H a = none) → Heap.SameBut a s.heap h' → HOk X.prog X.w H h' := fun {a h'} ha hs b ob e => by
    obtain ⟨_, _, hfree⟩ := ha
    refine (I.hok b ob e).stay (fun c w' hc q => (hs.2 c ?_).trans q) (fun _ q => q) fun _ _ q => q
    rintro rfl
    rcases hc with rfl | hc
    · rw [hfree] at e; cases e
    · rw [hfree] at hc; cases hc
  rcases hx with hk | hk
  · refine wpAny_storeName_local hk hn (fun h' hn' hs => ?_) hcls
    obtain ⟨oL, _, _, hoL, _⟩ := id hn
    refine h _ ⟨I.ok, I.os, I.bare, ⟨fun b o e n hb hx => ?_, fun b o e n hb hx => ?_, I.base.free, fun b o e hx => ?_, I.base.tups, I.base.frzs, I.base.tbls⟩, ⟨_, hn', fun j y v' e1 e2 e3 => ?_⟩, fun y c e => ?_, I.free, I.freeC, fun p hp => ?_, tracked ⟨oL, hoL, I.free⟩ hs, by simpa using I.len⟩ ⟨_, hs, .inl rfl⟩
    · exact (hs.2 b (Nat.ne_of_lt (Nat.lt_of_lt_of_le (Heap.lt_size e) I.ok.above))).trans (I.base.keep b o e n hb hx)
    · obtain ⟨sl, e1⟩ := I.base.slot b o e n hb hx
      exact ⟨sl, (hs.2 b (Nat.ne_of_lt (Nat.lt_of_lt_of_le (Heap.lt_size e) I.ok.above))).trans e1⟩
    · obtain ⟨o', e1⟩ := I.base.there b o e hx
      exact ⟨o', (hs.2 b (Nat.ne_of_lt (Nat.lt_of_lt_of_le (Heap.lt_size e) I.ok.above))).trans e1⟩
    · by_cases hj : j = i
      · subst hj
        rw [hi] at e1; cases e1
        rw [List.getElem?_set_self hiσ] at e2
        cases e2
        exact ⟨u, r, .inl ⟨hk, by simp⟩⟩
      · rw [List.getElem?_set_ne (Ne.symm hj)] at e2
        obtain ⟨u', r', q⟩ := hl j y v' e1 e2 e3
        refine ⟨u', r', ?_⟩
        rcases q with ⟨k, e⟩ | ⟨k, c, e, z⟩
        · refine .inl ⟨k, ?_⟩
          have : y ≠ x := fun e => hj (nodup_ix hN e1 (e ▸ hi))
          simp [this, e]
        · exact .inr ⟨k, c, e, z.sameBut hs (cne y c e)⟩
    · obtain ⟨w', z⟩ := I.cell y c e
      exact ⟨w', z.sameBut hs (cne y c e)⟩
    · obtain ⟨e, n, ne, nf, d⟩ := I.pin p hp
      exact ⟨(hs.2 p.1 ne).trans e, n, ne, nf, d⟩
  · have hfn : X.fn x = true := by
      rcases hf with z | z
      · exact z
      · rw [z] at hk; cases hk
    obtain ⟨c, hc⟩ := I.ok.has x (.inl hk)
    obtain ⟨w', z⟩ := I.cell x c hc
    refine wpAny_storeName_cell I.ok.kind hk hc z (fun h' hc' hs => ?_)
    obtain ⟨oc, hoc, hocd⟩ := id z
    refine h { s with heap := h' } ⟨I.ok, I.os, I.bare, ⟨fun b o e n hb hx => ?_, fun b o e n hb hx => ?_, I.base.free, fun b o e hx => ?_, I.base.tups, I.base.frzs, I.base.tbls⟩, ⟨m, hn.sameBut hs (Ne.symm (cne x c hc)), fun j y v' e1 e2 e3 => ?_⟩, fun y c' e => ?_, I.free, I.freeC, fun p hp => ?_, tracked ⟨oc, hoc, I.freeC x c hc⟩ hs, by simpa using I.len⟩ ⟨c, hs, .inr hc⟩
    · exact (hs.2 b (Nat.ne_of_lt (Nat.lt_of_lt_of_le (Heap.lt_size e) (I.ok.cab x c hfn hc)))).trans (I.base.keep b o e n hb hx)
    · obtain ⟨sl, e1⟩ := I.base.slot b o e n hb hx
      exact ⟨sl, (hs.2 b (Nat.ne_of_lt (Nat.lt_of_lt_of_le (Heap.lt_size e) (I.ok.cab x c hfn hc)))).trans e1⟩
    · obtain ⟨o', e1⟩ := I.base.there b o e hx
      exact ⟨o', (hs.2 b (Nat.ne_of_lt (Nat.lt_of_lt_of_le (Heap.lt_size e) (I.ok.cab x c hfn hc)))).trans e1⟩
    · by_cases hj : j = i
      · subst hj
        rw [hi] at e1; cases e1
        rw [List.getElem?_set_self hiσ] at e2
        cases e2
        exact ⟨u, r, .inr ⟨.inl hk, c, hc, hc'⟩⟩
      · rw [List.getElem?_set_ne (Ne.symm hj)] at e2
        obtain ⟨u', r', q⟩ := hl j y v' e1 e2 e3
        refine ⟨u', r', ?_⟩
        rcases q with q | ⟨k, c', e, z'⟩
        · exact .inl q
        · refine .inr ⟨k, c', e, z'.sameBut hs ?_⟩
          rintro rfl
          exact hj (nodup_ix hN e1 (I.ok.inj _ _ _ e hc ▸ hi))
    · by_cases hcc : c' = c
      · subst hcc; exact ⟨_, hc'⟩
      · obtain ⟨w2, z2⟩ := I.cell y c' e
        exact ⟨w2, z2.sameBut hs hcc⟩
    · obtain ⟨e, n, ne, nf, d⟩ := I.pin p hp
      refine ⟨(hs.2 p.1 ?_).trans e, n, ne, nf, d⟩
      intro q
      rw [q, hoc] at e
      have q' : oc = p.2 := Option.some.inj e
      exact d w' (by rw [← q']; exact hocd)
theorem store_ok {M : Model} {A : Around} {E : Value → Shared → Prop} {i : Nat} {x : Str} {v : V} {u : Value} {Q : Unit → Shared → Prop} (I : Inv X pins σ H s) (hN : X.N.Nodup) (hi : X.N[i]? = some x) (hx : Loc X.env.scope x) (r : RelV v u)
    (h : ∀ s', Inv X pins (σ.set i (some v)) H s' → Q () s') (hf : X.fn x = true ∨ X.env.scope.names.lookup x = some .local := by first | exact .inl rfl | exact .inr rfl | assumption) : wpAny M A (storeName X.env x u) Q E s :=
  store_ok2 I hN hi hx r (fun s' I' _ => h s' I') hf
/-- behind a call or a block, the state as it is -/
theorem Inv.call' {s' : Shared} {ch : List Addr} (I : Inv X pins σ H s) (ho : s'.os = s.os) (u : Un (frs X.stack) ch H H' s.heap s'.heap) (hok : HOk X.prog X.w H' s'.heap) (hg : AllBare s'.gens)
    (hch : ∀ b ∈ ch, (b ∈ X.ex ∨ X.s₀.heap.objs.size ≤ b) ∧ b ≠ X.env.locals ∧ (∀ x c, X.env.cells.lookup x = some c → c ≠ b) ∧ ∀ p ∈ X.pn ++ pins, p.1 ≠ b) : Inv X pins σ H' s' := by
  obtain ⟨h', g', d', t', o'⟩ := s'
  have e : o' = s.os := ho
  subst e
  exact I.call (g' := g') (t' := t') (d' := d') u hok hg hch
end

/-! ### the judgements -/
/-- an exception: its class, its own dict's address (where it has one), the abstract heap behind it -/
abbrev XK := Value → Option Addr → Hp → Prop
abbrev St := List (Option V)
abbrev VK := V → Hp → Prop
/-- an expression's reading; a test's; an argument list's -/
abbrev TE := St → Hp → VK → Prop
abbrev TT := St → Hp → (Bool → Hp → Prop) → Prop
abbrev TA := St → Hp → (List V → Hp → Prop) → Prop
/-- what is wanted behind a statement -/
structure Ends where
  nx : St → Hp → Prop
  rt : VK
  bk : St → Hp → Prop := fun _ _ => False
  ct : St → Hp → Prop := fun _ _ => False
abbrev TS := Ends → St → Hp → Prop

def EP (X : Cx) (pins : List (Addr × Obj)) (σ : St) (Q : VK) (u : Value) (s' : Shared) : Prop := ∃ v H', Inv X pins σ H' s' ∧ RelV v u ∧ Q v H'
def TP (X : Cx) (pins : List (Addr × Obj)) (σ : St) (Q : Bool → Hp → Prop) (b : Bool) (s' : Shared) : Prop := ∃ H', Inv X pins σ H' s' ∧ Q b H'
def AP (X : Cx) (pins : List (Addr × Obj)) (σ : St) (Q : List V → Hp → Prop) (us : List Value) (s' : Shared) : Prop := ∃ vs H', Inv X pins σ H' s' ∧ Vals vs us ∧ Q vs H'
def SP (X : Cx) (pins : List (Addr × Obj)) (D : Ends) (f : Flow) (s' : Shared) : Prop :=
  match f with
  | .next => ∃ σ' H', Inv X pins σ' H' s' ∧ D.nx σ' H'
  | .brk => ∃ σ' H', Inv X pins σ' H' s' ∧ D.bk σ' H'
  | .cont => ∃ σ' H', Inv X pins σ' H' s' ∧ D.ct σ' H'
  | .ret u => ∃ v σ' H', Inv X pins σ' H' s' ∧ RelV v u ∧ D.rt v H'

def PE (X : Cx) (e : Expr) (t : TE) : Prop :=
  ∀ (pins : List (Addr × Obj)) (s : Shared) (σ : St) (H : Hp) (Q : VK), Inv X pins σ H s → t σ H Q → wpAny (model X.prog X.w) X.A (eval e X.env) (EP X pins σ Q) X.xe s
def PT (X : Cx) (e : Expr) (t : TT) : Prop :=
  ∀ (pins : List (Addr × Obj)) (s : Shared) (σ : St) (H : Hp) (Q : Bool → Hp → Prop), Inv X pins σ H s → t σ H Q → wpAny (model X.prog X.w) X.A (isTrue e X.env (eval e X.env)) (TP X pins σ Q) X.xe s
/-- a test whatever its 'whole' is (and, or) -/
def PW (X : Cx) (e : Expr) (t : TT) : Prop :=
  ∀ (whole : Sem Value) (pins : List (Addr × Obj)) (s : Shared) (σ : St) (H : Hp) (Q : Bool → Hp → Prop), Inv X pins σ H s → t σ H Q → wpAny (model X.prog X.w) X.A (isTrue e X.env whole) (TP X pins σ Q) X.xe s
theorem PW.pt {X : Cx} {e : Expr} {t : TT} (h : PW X e t) : PT X e t := h _
/-- an argument list (no star), from the left -/
def PA (X : Cx) (es : List Expr) (t : TA) : Prop :=
  ∀ (pos : Pos) (pins : List (Addr × Obj)) (s : Shared) (σ : St) (H : Hp) (Q : List V → Hp → Prop), Inv X pins σ H s → t σ H Q → wpAny (model X.prog X.w) X.A (spliced (backTo pos (starEach es X.env))) (AP X pins σ Q) X.xe s
def PS (X : Cx) (st : Stmt) (t : TS) : Prop :=
  ∀ (pins : List (Addr × Obj)) (s : Shared) (σ : St) (H : Hp) (D : Ends), Inv X pins σ H s → t D σ H → wpAny (model X.prog X.w) X.A (exec st X.env) (SP X pins D) X.xe s
def PSs (X : Cx) (st : List Stmt) (t : TS) : Prop :=
  ∀ (pins : List (Addr × Obj)) (s : Shared) (σ : St) (H : Hp) (D : Ends), Inv X pins σ H s → t D σ H → wpAny (model X.prog X.w) X.A (execs st X.env) (SP X pins D) X.xe s
/-- weaken the end -/
theorem thn {α : Type} {t : Sem α} {Q Q' : α → Shared → Prop} {M : Model} {A : Around} {E : Value → Shared → Prop} {s : Shared} (h : wpAny M A t Q E s) (hQ : ∀ a s, Q a s → Q' a s) : wpAny M A t Q' E s := wpAny_mono h hQ fun _ _ x => x
end L2

namespace L2
open PySem PySem.Spec PyProof.Rows
section
variable {X : Cx}

/-- two expressions in a row -/
theorem bin {a b : Expr} {ta tb : TE} (ha : PE X a ta) (hb : PE X b tb) {pins : List (Addr × Obj)} {s : Shared} {σ : St} {H : Hp} {R : V → V → Hp → Prop} (I : Inv X pins σ H s) (h : ta σ H fun x H1 => tb σ H1 fun y H2 => R x y H2)
    {α : Type} {Q : α → Shared → Prop} {f : Value → Value → Sem α}
    (hf : ∀ v u s2 x y H2, Inv X pins σ H2 s2 → RelV x v → RelV y u → R x y H2 → wpAny (model X.prog X.w) X.A (f v u) Q X.xe s2) :
    wpAny (model X.prog X.w) X.A (eval a X.env) (fun v s₁ => wpAny (model X.prog X.w) X.A (eval b X.env) (fun u s₂ => wpAny (model X.prog X.w) X.A (f v u) Q X.xe s₂) X.xe s₁) X.xe s := by
  refine thn (ha pins s σ H _ I h) fun v s1 ⟨x, H1, I1, r1, q1⟩ => ?_
  refine thn (hb pins s1 σ H1 _ I1 q1) fun u s2 ⟨y, H2, I2, r2, q2⟩ => ?_
  exact hf v u s2 x y H2 I2 r1 r2 q2

/-! ### names and constants -/
def tVar (i : Nat) : TE := fun σ H Q => ∃ v, σ[i]? = some (some v) ∧ Q v H
def tC (v : V) : TE := fun _ H Q => Q v H
theorem pe_var {i : Nat} {x : Str} {pos : Pos} (hN : X.N[i]? = some x) (hv : Vis X.env.scope x) (hd : (x == ("__debug__" : Str)) = false := by decide) (hcd : (x == ("__classdict__" : Str)) = false := by decide) : PE X (.Name x pos) (tVar i) := by
  intro pins s σ H Q I h
  obtain ⟨v, e, h⟩ := h
  obtain ⟨m, hn, hl⟩ := I.loc
  obtain ⟨u, r, l⟩ := hl i x v hN e hv
  have fin : EP X pins σ Q u s := ⟨v, H, I, r, h⟩
  rcases l with ⟨hk, hm⟩ | ⟨hk, c, hc, hcell⟩
  · exact wpAny_Name (wpAny_loadName_local I.ok.kind hk hn hm fin) hd
  · rcases hk with hk | hk
    · exact wpAny_Name (wpAny_loadName_cell I.ok.kind hk hc hcell fin) hd
    · exact wpAny_Name (wpAny_loadName_free I.ok.kind hk hc hcell fin hcd) hd
theorem pe_int {i j pos} : PE X (.Constant (.int i) j pos) (tC (.int i)) := fun _ _ _ H _ I h => wpAny_Constant_int ⟨.int i, H, I.tok _, ⟨_, rfl⟩, h⟩
theorem pe_bl {b j pos} : PE X (.Constant (.bool b) j pos) (tC (.bl b)) := fun _ _ _ H _ I h => Constant_bool ⟨.bl b, H, I, rfl, h⟩
theorem pe_non {j pos} : PE X (.Constant .none j pos) (tC .non) := fun _ _ _ H _ I h => Constant_none ⟨.non, H, I, rfl, h⟩
theorem pe_str {x j pos} : PE X (.Constant (.str x) j pos) (tC (.str x)) := fun _ _ _ H _ I h => Calls.Constant_str ⟨.str x, H, I.tok _, ⟨_, rfl⟩, h⟩

/-- a global name of the def -/
def Gl (X : Cx) (x : Str) : Prop := X.env.kindOf x = some .globalImplicit
theorem ld_glob {E : Value → Shared → Prop} {pins : List (Addr × Obj)} {s : Shared} {σ : St} {H : Hp} {x : Str} {u : Value} {pos : Pos} {Q : Value → Shared → Prop} (I : Inv X pins σ H s) (hg : Gl X x) (hm : X.mg x = some u) (h : Q u s)
    (hd : (x == ("__debug__" : Str)) = false := by decide) : wpAny (model X.prog X.w) X.A (eval (.Name x pos) X.env) Q E s :=
  Calls.Name_function_global I.ok.kind hg (Calls.loadGlobal_global (by rw [I.ok.glob]; exact I.mod.glob.keeps I.bk) hm h) hd
theorem ld_blt {E : Value → Shared → Prop} {pins : List (Addr × Obj)} {s : Shared} {σ : St} {H : Hp} {x : Str} {u : Value} {pos : Pos} {Q : Value → Shared → Prop} (I : Inv X pins σ H s) (hg : Gl X x) (hm : X.mg x = none) (hv : bootBuiltins x = some u) (h : Q u s)
    (hn : x ≠ "__name__" := by decide) (hd : (x == ("__debug__" : Str)) = false := by decide) : wpAny (model X.prog X.w) X.A (eval (.Name x pos) X.env) Q E s := by
  obtain ⟨mb, h1, h2⟩ := I.mod.blt
  exact Calls.Name_function_global I.ok.kind hg (Calls.loadGlobal_builtin (by rw [I.ok.glob]; exact I.mod.glob.keeps I.bk) hm (by rw [I.ok.blt]; exact h1.keeps I.bk) ((h2 x hn).trans hv) h) hd
/-- a module's constant, a class, a function, as a value -/
theorem pe_glob {x : Str} {v : V} {u : Value} {pos : Pos} (hg : Gl X x) (hm : X.mg x = some u) (r : RelV v u) (hd : (x == ("__debug__" : Str)) = false := by decide) : PE X (.Name x pos) (tC v) :=
  fun _ _ _ H _ I h => ld_glob I hg hm ⟨v, H, I, r, h⟩ hd
theorem pe_bltn {x : Str} {v : V} {u : Value} {pos : Pos} (hg : Gl X x) (hm : X.mg x = none) (hv : bootBuiltins x = some u) (r : RelV v u) (hn : x ≠ "__name__" := by decide) (hd : (x == ("__debug__" : Str)) = false := by decide) : PE X (.Name x pos) (tC v) :=
  fun _ _ _ H _ I h => ld_blt I hg hm hv ⟨v, H, I, r, h⟩ hn hd

/-! ### arithmetic -/
/-- two ints -/
def t2I (ta tb : TE) (k : Int → Int → Hp → Prop) : St → Hp → Prop := fun σ H => ta σ H fun x H1 => tb σ H1 fun y H2 => ∃ i j, x = .int i ∧ y = .int j ∧ k i j H2
def tAdd (ta tb : TE) : TE := fun σ H Q => t2I ta tb (fun i j H2 => Q (.int (i + j)) H2) σ H
def tSub (ta tb : TE) : TE := fun σ H Q => t2I ta tb (fun i j H2 => Q (.int (i - j)) H2) σ H
/-- the left factor below 2^64 -/
def tMul (ta tb : TE) : TE := fun σ H Q => t2I ta tb (fun i j H2 => (-(2 ^ 64) < i ∧ i < 2 ^ 64) ∧ Q (.int (i * j)) H2) σ H
variable {a b : Expr} {ta tb : TE} {pos : Pos}

/-! ### comparisons -/
def PC (X : Cx) (op : CmpOp) (a b : Expr) (t : TE) : Prop :=
  ∀ (pins : List (Addr × Obj)) (s : Shared) (σ : St) (H : Hp) (Q : VK), Inv X pins σ H s → t σ H Q →
    wpAny (model X.prog X.w) X.A (eval a X.env) (fun v s₁ => wpAny (model X.prog X.w) X.A (eval b X.env) (fun u s₂ => wpAny (model X.prog X.w) X.A (compareOp op v u) (EP X pins σ Q) X.xe s₂) X.xe s₁) X.xe s
def tCmp (p : Int → Int → Bool) (ta tb : TE) : TE := fun σ H Q => t2I ta tb (fun i j H2 => Q (.bl (p i j)) H2) σ H
abbrev tLt : TE → TE → TE := tCmp fun i j => decide (i < j)
abbrev tLe : TE → TE → TE := tCmp fun i j => decide (i ≤ j)
abbrev tGt : TE → TE → TE := tCmp fun i j => decide (j < i)
abbrev tGe : TE → TE → TE := tCmp fun i j => decide (j ≤ i)
abbrev tEqI : TE → TE → TE := tCmp fun i j => decide (i = j)
abbrev tNeI : TE → TE → TE := tCmp fun i j => !decide (i = j)
/-- is None -/
def tIsN (ta : TE) : TE := fun σ H Q => ta σ H fun x H1 => Q (.bl (decide (x = .non))) H1
def tNotN (ta : TE) : TE := fun σ H Q => ta σ H fun x H1 => Q (.bl (!decide (x = .non))) H1
/-- a comparison as a value, as a test -/
def tB (t : TE) : TT := fun σ H Q => t σ H fun x H1 => ∃ c, x = .bl c ∧ Q c H1
theorem pt_cmp {op : CmpOp} {t : TE} (h : PC X op a b t) (h1 : behindInMarks op b = false := by first | exact nobehind _ (by decide) (by decide) | rfl) : PT X (.Compare a [op] [b] pos) (tB t) := by
  intro pins s σ H Q I hw
  refine wpAny_isTrue_Compare1 (thn (h pins s σ H _ I hw) fun v s1 h1 => thn h1 fun u s2 h2 => thn h2 fun c s3 ⟨x, H1, I1, r1, q1⟩ => ?_) h1
  obtain ⟨d, rfl, q⟩ := q1
  cases r1
  exact wpAny_truthy_bool ⟨H1, I1, q⟩
/-- an expression whose value is a bool, as a test -/
theorem pt_val {e : Expr} {t : TE} (h : PE X e t) (he : ∀ whole, isTrue e X.env whole = (do let v ← whole; standAt e.pos; holding [v] (truthy v)) := by intro _; rfl) : PT X e (tB t) := by
  intro pins s σ H Q I hw
  refine isTrue_plain (thn (h pins s σ H _ I hw) fun v s1 ⟨x, H1, I1, r1, q1⟩ => ?_) (he _)
  obtain ⟨d, rfl, q⟩ := q1
  cases r1
  exact wpAny_truthy_bool ⟨H1, I1, q⟩

/-! ### and, or, not -/
variable {tA tB' : TT} {rest : List Expr}
def tAnd (t u : TT) : TT := fun σ H Q => t σ H fun c H1 => if c = true then u σ H1 Q else Q false H1
def tOr (t u : TT) : TT := fun σ H Q => t σ H fun c H1 => if c = true then Q true H1 else u σ H1 Q
def tNot (t : TT) : TT := fun σ H Q => t σ H fun c H1 => Q (!c) H1
theorem pw_or1 (ha : PT X a tA) : PW X (.BoolOp .Or [a] pos) tA := by
  intro wh pins s σ H Q I h
  refine isTrue_or (thn (ha pins s σ H Q I h) fun c s1 e => ?_)
  cases c with
  | false => exact isTrue_or_nil e
  | true => exact e
theorem pw_or (ha : PT X a tA) (hb : PW X (.BoolOp .Or (b :: rest) pos) tB') : PW X (.BoolOp .Or (a :: b :: rest) pos) (tOr tA tB') := by
  intro wh pins s σ H Q I h
  refine isTrue_or (thn (ha pins s σ H _ I h) fun c s1 ⟨H1, I1, q1⟩ => ?_)
  cases c with
  | true => exact ⟨H1, I1, q1⟩
  | false => exact hb wh pins s1 σ H1 Q I1 q1
theorem pt_not (ha : PT X a tA) : PT X (.UnaryOp .Not a pos) (tNot tA) := by
  intro pins s σ H Q I h
  exact isTrue_not (ha pins s σ H (fun c H1 => Q (!c) H1) I h)
/-- .. as values (bools) -/
def tAndV (ta tb : TE) : TE := fun σ H Q => ta σ H fun x H1 => ∃ c, x = .bl c ∧ if c = true then tb σ H1 Q else Q (.bl false) H1
def tOrV (ta tb : TE) : TE := fun σ H Q => ta σ H fun x H1 => ∃ c, x = .bl c ∧ if c = true then Q (.bl true) H1 else tb σ H1 Q
def tNotV (ta : TE) : TE := fun σ H Q => ta σ H fun x H1 => ∃ c, x = .bl c ∧ Q (.bl (!c)) H1
theorem pe_one {op} {t : TE} (h : PE X a t) : PE X (.BoolOp op [a] pos) t := fun pins s σ H Q I hw => BoolOp_one (h pins s σ H Q I hw)
theorem pe_and (ha : PE X a ta) (hb : PE X (.BoolOp .And (b :: rest) pos) tb) : PE X (.BoolOp .And (a :: b :: rest) pos) (tAndV ta tb) := by
  intro pins s σ H Q I h
  refine BoolOp_and (thn (ha pins s σ H _ I h) fun v s1 ⟨x, H1, I1, r1, q1⟩ => ?_)
  obtain ⟨c, rfl, q1⟩ := q1
  cases r1
  refine wpAny_truthy_bool ?_
  cases c with
  | true => exact hb pins s1 σ H1 Q I1 q1
  | false => exact ⟨.bl false, H1, I1, rfl, q1⟩
/-- a if t else b -/
def tIf (t : TT) (ta tb : TE) : TE := fun σ H Q => t σ H fun c H1 => if c = true then ta σ H1 Q else tb σ H1 Q
theorem pe_ifExp {c : Expr} (hc : PT X c tA) (ha : PE X a ta) (hb : PE X b tb) : PE X (.IfExp c a b pos) (tIf tA ta tb) := by
  intro pins s σ H Q I h
  refine wpAny_IfExp (thn (hc pins s σ H _ I h) fun d s1 ⟨H1, I1, q1⟩ => ?_)
  cases d with
  | true => exact ha pins s1 σ H1 Q I1 q1
  | false => exact hb pins s1 σ H1 Q I1 q1
end
end L2

namespace L2
open PySem PySem.Spec PyProof.Rows

/-! ### a list, a tuple that is read: tracked, frozen, or an object of the module -/
def SqL (K : PySem.W.Frag) (H : Hp) (a : Addr) (xs : List V) : Prop :=
  Rd H a (.lst xs) ∨
    ∃ (o : Obj) (its : Array Value) (n : Nat), K.lookup a = some o ∧ o.cls = .type "list" ∧ o.dict = none ∧ o.data = .seq its n ∧ its.size ≤ sizeLine ∧ Vals xs its.toList
def SqT (K : PySem.W.Frag) (H : Hp) (a : Addr) (xs : List V) : Prop :=
  Rd H a (.tup xs) ∨
    ∃ (o : Obj) (its : Array Value) (n : Nat), K.lookup a = some o ∧ o.cls = .type "tuple" ∧ o.data = .seq its n ∧ its.size ≤ sizeLine ∧ Vals xs its.toList
def absV : Value → Option V
  | .none => some .non
  | .bool b => some (.bl b)
  | .int i _ => some (.int i)
  | .str x _ => some (.str x)
  | .bytes b _ => some (.byt b)
  | .float b _ => some (.flt b)
  | .ref a => some (.ref a)
  | .type n => some (.ty n)
  | _ => none
theorem RelV.abs {x : V} {u : Value} (r : RelV x u) : absV u = some x := by
  cases x with
  | non => cases r; rfl
  | bl _ => cases r; rfl
  | int _ => obtain ⟨t, rfl⟩ := r; rfl
  | str _ => obtain ⟨t, rfl⟩ := r; rfl
  | byt _ => obtain ⟨t, rfl⟩ := r; rfl
  | flt _ => obtain ⟨t, rfl⟩ := r; rfl
  | ref _ => cases r; rfl
  | ty _ => cases r; rfl
theorem RelV.inj {x y : V} {u : Value} (r : RelV x u) (q : RelV y u) : x = y := Option.some.inj (r.abs.symm.trans q.abs)
theorem Vals.inj : ∀ {xs ys : List V} {us : List Value}, Vals xs us → Vals ys us → xs = ys
  | _, _, _, .nil, .nil => rfl
  | _, _, _, .cons r t, .cons r' t' => by rw [r.inj r', Vals.inj t t']
section
variable {X : Cx} {pins : List (Addr × Obj)} {σ : St} {H : Hp} {s : Shared} {a : Addr} {xs ys : List V}
theorem SqT.of {K : PySem.W.Frag} (h : H a = some (.tup xs)) : SqT K H a xs := .inl (.inl h)
theorem Inv.list (I : Inv X pins σ H s) (h : SqL X.K H a xs) : ∃ its : List Value, Vals xs its ∧ PlainL s.heap a its.toArray ∧ xs.length ≤ sizeLine := by
  rcases h with h | ⟨o, its, n, hk, hc, hd, hs, hz, r⟩
  · obtain ⟨z, its, n, r, e⟩ := h.ok I.hok
    exact ⟨its, r, ⟨_, n, e, rfl, rfl, rfl⟩, z⟩
  · refine ⟨its.toList, r, ⟨o, n, I.kIn a o hk, hc, hd, by simpa using hs⟩, ?_⟩
    have e := r.length
    simp only [Array.length_toList] at e
    omega
theorem Inv.tuple (I : Inv X pins σ H s) (h : SqT X.K H a xs) : ∃ its : List Value, Vals xs its ∧ IsTup s.heap a its.toArray ∧ xs.length ≤ sizeLine := by
  rcases h with h | ⟨o, its, n, hk, hc, hs, hz, r⟩
  · obtain ⟨z, its, r, p⟩ := h.ok I.hok
    exact ⟨its, r, p, z⟩
  · refine ⟨its.toList, r, ⟨o, I.kIn a o hk, hc, n, by simpa using hs⟩, ?_⟩
    have e := r.length
    simp only [Array.length_toList] at e
    omega
theorem Inv.list_inj (I : Inv X pins σ H s) (h : SqL X.K H a xs) (h' : SqL X.K H a ys) : xs = ys := by
  obtain ⟨its, r, ⟨o, n, e, _, _, d⟩, _⟩ := I.list h
  obtain ⟨its', r', ⟨o', n', e', _, _, d'⟩, _⟩ := I.list h'
  rw [e] at e'; cases e'
  rw [d] at d'
  injection d' with d1 _
  have : its = its' := by simpa using congrArg Array.toList d1
  subst this
  exact r.inj r'
end

/-! ### another wish about exceptions -/
abbrev Cx.wish (X : Cx) (E : Value → Shared → Prop) : Cx := { X with xe := E }
/-- no exception leaves -/
abbrev Cx.nox (X : Cx) : Cx := X.wish fun _ _ => False
theorem Cx.Ok.wish {X : Cx} (ok : X.Ok) (E : Value → Shared → Prop) : (X.wish E).Ok :=
  ⟨ok.mod, ok.kind, ok.glob, ok.blt, ok.above, ok.inj, ok.has, ok.cab, ok.hd, ok.frames, ok.stk, ok.exf, ok.bs, ok.bsz, ok.noex, ok.exfs, ok.funs, ok.frf⟩
theorem Cx.Ok.unwish {X : Cx} {E : Value → Shared → Prop} (ok : (X.wish E).Ok) : X.Ok :=
  ⟨ok.mod, ok.kind, ok.glob, ok.blt, ok.above, ok.inj, ok.has, ok.cab, ok.hd, ok.frames, ok.stk, ok.exf, ok.bs, ok.bsz, ok.noex, ok.exfs, ok.funs, ok.frf⟩
section
variable {X : Cx} {pins : List (Addr × Obj)} {σ : St} {H : Hp} {s : Shared} {E : Value → Shared → Prop}
theorem Inv.wish (I : Inv X pins σ H s) (E : Value → Shared → Prop) : Inv (X.wish E) pins σ H s := ⟨I.ok.wish E, I.os, I.bare, I.base, I.loc, I.cell, I.free, I.freeC, I.pin, I.hok, I.len⟩
theorem Inv.unwish (I : Inv (X.wish E) pins σ H s) : Inv X pins σ H s := ⟨I.ok.unwish, I.os, I.bare, I.base, I.loc, I.cell, I.free, I.freeC, I.pin, I.hok, I.len⟩
theorem SP.unwish {D : Ends} {f : Flow} {s' : Shared} (h : SP (X.wish E) pins D f s') : SP X pins D f s' := by
  cases f with
  | next => obtain ⟨σ', H', I, q⟩ := h; exact ⟨σ', H', I.unwish, q⟩
  | brk => obtain ⟨σ', H', I, q⟩ := h; exact ⟨σ', H', I.unwish, q⟩
  | cont => obtain ⟨σ', H', I, q⟩ := h; exact ⟨σ', H', I.unwish, q⟩
  | ret u => obtain ⟨v, σ', H', I, r, q⟩ := h; exact ⟨v, σ', H', I.unwish, r, q⟩
end

/-! ### blocks and small statements -/
section
variable {X : Cx} {st : Stmt} {rest : List Stmt} {t u : TS} {e : Expr} {te : TE} {pos : Pos}
def tNext : TS := fun D σ H => D.nx σ H
def tSeq (t u : TS) : TS := fun D σ H => t { D with nx := u D } σ H
theorem pss_nil : PSs X [] tNext := fun _ _ σ H _ I h => wpAny_execs_nil ⟨σ, H, I, h⟩
theorem pss_cons (h1 : PS X st t) (h2 : PSs X rest u) : PSs X (st :: rest) (tSeq t u) := by
  intro pins s σ H D I h
  refine wpAny_execs_cons (thn (h1 pins s σ H { D with nx := u D } I h) fun f s1 q => ?_)
  cases f with
  | next =>
    obtain ⟨σ', H', I', q⟩ := q
    exact h2 pins s1 σ' H' D I' q
  | ret v => exact q
  | brk => exact q
  | cont => exact q
theorem pss_one (h1 : PS X st t) : PSs X [st] t := by
  intro pins s σ H D I h
  refine wpAny_execs_cons (thn (h1 pins s σ H D I h) fun f s1 q => ?_)
  cases f with
  | next => exact wpAny_execs_nil q
  | ret v => exact q
  | brk => exact q
  | cont => exact q
def tBreak : TS := fun D σ H => D.bk σ H
def tCont : TS := fun D σ H => D.ct σ H
/-- in a def's body nothing is shown -/
theorem Inv.quiet {pins : List (Addr × Obj)} {σ : St} {H : Hp} {s : Shared} (I : Inv X pins σ H s) : interactive X.env = false := by simp [interactive, I.ok.kind]
/-- an expression whose value is dropped -/
def tDrop (te : TE) : TS := fun D σ H => te σ H fun _ H1 => D.nx σ H1
theorem ps_expr (he : PE X e te) (hs : swapsWith e none pos.line X.env = pure false := by rfl) : PS X (.Expr e pos) (tDrop te) := by
  intro pins s σ H D I h
  exact wpAny_Expr_any (thn (he pins s σ H _ I h) fun v s1 ⟨x, H1, I1, r1, q1⟩ => ⟨σ, H1, I1, q1⟩) I.quiet hs
def tRet (te : TE) : TS := fun D σ H => te σ H D.rt
theorem ps_ret (he : PE X e te) : PS X (.Return (some e) pos) (tRet te) := by
  intro pins s σ H D I h
  exact wpAny_Return_some (thn (he pins s σ H _ I h) fun v s1 ⟨x, H1, I1, r1, q1⟩ => ⟨x, σ, H1, I1, r1, q1⟩)
def tRetN : TS := fun D _ H => D.rt .non H
def tIfS (c : TT) (t u : TS) : TS := fun D σ H => c σ H fun b H1 => if b = true then t D σ H1 else u D σ H1
theorem ps_if {c : Expr} {a b : List Stmt} {tc : TT} (hc : PT X c tc) (ha : PSs X a t) (hb : PSs X b u) : PS X (.If c a b pos) (tIfS tc t u) := by
  intro pins s σ H D I h
  refine wpAny_If (thn (hc pins s σ H _ I h) fun d s1 ⟨H1, I1, q1⟩ => ?_)
  cases d with
  | true => exact ha pins s1 σ H1 D I1 q1
  | false => exact hb pins s1 σ H1 D I1 q1
/-- code that the proof never comes to -/
def tNever : TS := fun _ _ _ => False
end

/-! ### targets -/
abbrev TG := V → St → Hp → (St → Hp → Prop) → Prop
abbrev TGs := List V → St → Hp → (St → Hp → Prop) → Prop
def PG (X : Cx) (target : Expr) (t : TG) : Prop :=
  ∀ (pins : List (Addr × Obj)) (s : Shared) (σ : St) (H : Hp) (v : V) (u : Value) (Q : St → Hp → Prop), Inv X pins σ H s → RelV v u → t v σ H Q →
    wpAny (model X.prog X.w) X.A (assign target X.env u) (fun _ s' => ∃ σ' H', Inv X pins σ' H' s' ∧ Q σ' H') X.xe s
/-- several targets, one after another -/
def PGs (X : Cx) (ts : List Expr) (t : TGs) : Prop :=
  ∀ (pins : List (Addr × Obj)) (s : Shared) (σ : St) (H : Hp) (vs : List V) (us : List Value) (Q : St → Hp → Prop), Inv X pins σ H s → Vals vs us → t vs σ H Q →
    wpAny (model X.prog X.w) X.A (assignInOrder ((assignEach ts X.env).map (·.2)) us) (fun _ s' => ∃ σ' H', Inv X pins σ' H' s' ∧ Q σ' H') X.xe s
/-- o[i] = v, by values -/
abbrev TSet := V → V → V → Hp → (Hp → Prop) → Prop
def PSet (X : Cx) (t : TSet) : Prop :=
  ∀ (pins : List (Addr × Obj)) (s : Shared) (σ : St) (H : Hp) (o i v : V) (ov iv u : Value) (Q : Hp → Prop), Inv X pins σ H s → RelV o ov → RelV i iv → RelV v u → t o i v H Q →
    wpAny (model X.prog X.w) X.A (setItem ov iv u) (fun _ s' => ∃ H', Inv X pins σ H' s' ∧ Q H') X.xe s
/-- a op= b, by values -/
abbrev TIp := V → V → Hp → VK → Prop
def PIp (X : Cx) (op : Operator) (t : TIp) : Prop :=
  ∀ (pins : List (Addr × Obj)) (s : Shared) (σ : St) (H : Hp) (x y : V) (v u : Value) (Q : VK), Inv X pins σ H s → RelV x v → RelV y u → t x y H Q →
    wpAny (model X.prog X.w) X.A (inplaceOp op v u) (EP X pins σ Q) X.xe s
section
variable {X : Cx} {pos : Pos}
def gName (i : Nat) : TG := fun v σ H Q => Q (σ.set i (some v)) H
theorem pg_name {i : Nat} {x : Str} (hN : X.N.Nodup) (hi : X.N[i]? = some x) (hx : Loc X.env.scope x) (hf : X.fn x = true ∨ X.env.scope.names.lookup x = some .local := by first | exact .inl rfl | exact .inr rfl | assumption) : PG X (.Name x pos) (gName i) := by
  intro pins s σ H v u Q I r h
  exact wpAny_assign_Name (store_ok I hN hi hx r (fun s' I' => ⟨_, H, I', h⟩) hf)
def gNil : TGs := fun vs σ H Q => vs = [] ∧ Q σ H
def gCons (t : TG) (u : TGs) : TGs := fun vs σ H Q => ∃ v r, vs = v :: r ∧ t v σ H fun σ' H' => u r σ' H' Q
theorem pgs_nil : PGs X [] gNil := by
  intro pins s σ H vs us Q I r h
  obtain ⟨e, h⟩ := h
  subst e
  cases r
  exact assignInOrder_nil ⟨σ, H, I, h⟩
theorem pgs_cons {e : Expr} {es : List Expr} {t : TG} {u : TGs} (h1 : PG X e t) (h2 : PGs X es u)
    (hs : (assignEach (e :: es) X.env).map (·.2) = assign e X.env :: (assignEach es X.env).map (·.2) := by rfl) : PGs X (e :: es) (gCons t u) := by
  intro pins s σ H vs us Q I r h
  obtain ⟨v, vr, e1, h⟩ := h
  subst e1
  cases r with
  | cons r rr =>
    rw [hs]
    refine assignInOrder_cons (thn (h1 pins s σ H _ _ _ I r h) fun _ s1 ⟨σ1, H1, I1, q1⟩ => ?_)
    exact h2 pins s1 σ1 H1 _ _ Q I1 rr q1
/-- (a, b, ..) = a tuple of that length -/
def gTup (K : PySem.W.Frag) (n : Nat) (t : TGs) : TG := fun v σ H Q => ∃ a xs, v = .ref a ∧ SqT K H a xs ∧ xs.length = n ∧ t xs σ H Q
theorem pg_tup {es : List Expr} {k : Nat} {t : TGs} {n : Nat} (hc : X.calm = true) (h : PGs X es t)
    (hn : (assignEach es X.env).length = n := by rfl) (hst : (assignEach es X.env).findIdx? (·.1) = none := by rfl) : PG X (.Tuple es k pos) (gTup X.K n t) := by
  intro pins s σ H v u Q I r hw
  obtain ⟨a, xs, e1, hq, hl, hw⟩ := hw
  subst e1
  cases r
  obtain ⟨its, rv, ht, hz⟩ := I.tuple hq
  refine assign_Tuple_tuple (I.ok.hd hc) ht (by simp [hn, ← hl, rv.length]) hst fun h' hx => ?_
  have I1 : Inv X pins σ H { s with heap := h' } := I.kept (t' := s.toks) fun b o e => hx b o (Nat.ne_of_lt (Heap.lt_size e)) e
  exact h pins _ σ H xs _ Q I1 (by simpa using rv) hw
/-- o[i] = .. -/
def gSub (to ti : TE) (t : TSet) : TG := fun v σ H Q => to σ H fun o H1 => ti σ H1 fun i H2 => t o i v H2 fun H3 => Q σ H3
theorem pg_sub {o i : Expr} {to ti : TE} {t : TSet} (ho : PE X o to) (hi : PE X i ti) (hs : PSet X t)
    (ha : ∀ v, assign (.Subscript o i pos) X.env v = (do
      let ov ← holding [v] (eval o X.env)
      let iv ← holding [v, ov] (eval i X.env)
      standAt pos
      holding [v, ov, iv] (setItem ov iv v)
      release [v, ov, iv] []) := by intro _; rfl) : PG X (.Subscript o i pos) (gSub to ti t) := by
  intro pins s σ H v u Q I r h
  rw [ha]
  refine wpAny_bind (wpAny_holding (thn (ho pins s σ H _ I h) fun ov s1 ⟨x, H1, I1, r1, q1⟩ => ?_))
  refine wpAny_bind (wpAny_holding (thn (hi pins s1 σ H1 _ I1 q1) fun iv s2 ⟨y, H2, I2, r2, q2⟩ => ?_))
  refine wpAny_bind (wpAny_standAt (wpAny_bind (wpAny_holding (thn (hs pins s2 σ H2 x y v ov iv u _ I2 r1 r2 r q2) fun _ s3 ⟨H3, I3, q3⟩ => ?_))))
  exact wpAny_release ⟨σ, H3, I3, q3⟩
/-- target = value -/
def tAsg (te : TE) (g : TG) : TS := fun D σ H => te σ H fun x H1 => g x σ H1 D.nx
theorem ps_asg {tg e : Expr} {te : TE} {g : TG} (he : PE X e te) (hg : PG X tg g) (hs : swapsWithSole [tg] e pos.line X.env = pure false := by rfl) (hw : swappedStores [tg] e X.env = pure none := by rfl)
    (h1 : (assignEach [tg] X.env).map (·.2) = [assign tg X.env] := by rfl) : PS X (.Assign [tg] e pos) (tAsg te g) := by
  intro pins s σ H D I h
  refine wpAny_Assign_stores (thn (he pins s σ H _ I h) fun v s1 ⟨x, H1, I1, r1, q1⟩ => ?_) hs hw
  rw [h1]
  exact thn (hg pins s1 σ H1 x v _ I1 r1 q1) fun _ s2 q => q
/-- a, b = x, y with plain local names: stored from the right; the pair itself is not tracked (the opening rows as in PyProof/Rows/TupAssign.lean:23) -/
def tPar (i j : Nat) (ta : TA) : TS := fun D σ H => ta σ H fun vs H1 => ∃ v w, vs = [v, w] ∧ D.nx ((σ.set i (some v)).set j (some w)) H1
/-- name op= e -/
def tAug (i : Nat) (te : TE) (ti : TIp) : TS := fun D σ H => ∃ x, σ[i]? = some (some x) ∧ te σ H fun y H1 => ti x y H1 fun z H2 => D.nx (σ.set i (some z)) H2
/-- o[i] op= e -/
def tAugS (to ti te : TE) (tget : V → V → Hp → VK → Prop) (tip : TIp) (tset : TSet) : TS := fun D σ H => to σ H fun o H1 => ti σ H1 fun i H2 => tget o i H2 fun x H3 => te σ H3 fun y H4 => tip x y H4 fun z H5 => tset o i z H5 fun H6 => D.nx σ H6
/-- o[i], by values -/
def PGet (X : Cx) (t : V → V → Hp → VK → Prop) : Prop :=
  ∀ (pins : List (Addr × Obj)) (s : Shared) (σ : St) (H : Hp) (o i : V) (ov iv : Value) (Q : VK), Inv X pins σ H s → RelV o ov → RelV i iv → t o i H Q →
    wpAny (model X.prog X.w) X.A (getItem ov iv) (EP X pins σ Q) X.xe s
/-- ints -/
def ipI (f : Int → Int → Int) : TIp := fun x y H Q => ∃ i j, x = .int i ∧ y = .int j ∧ Q (.int (f i j)) H
end

/-! ### while -/
section
variable {X : Cx} {pos : Pos}
/-- the invariant W with its measure -/
def tWhile (c : TT) (tb : TS) : TS := fun D σ H => ∃ W : Nat → St → Hp → Prop, (∃ m, W m σ H) ∧ ∀ m σ H, W m σ H →
  c σ H fun b H1 => if b = true then ∃ N : St → Hp → Prop, (∀ σ' H', N σ' H' → ∃ m', m' < m ∧ W m' σ' H') ∧ tb { D with nx := N, ct := N, bk := D.nx } σ H1 else D.nx σ H1
end

/-! ### what a loop or a comprehension walks -/
/-- at turn i: it yields x (the heap may grow), or it stops -/
structure It where
  go : Nat → Hp → Prop
  yld : Nat → Hp → V → Hp → Prop
  stop : Nat → Hp → Prop
/-- the iterator's own objects may turn: they are not the frame's, not pinned, younger than the entry (or a comprehension's own) -/
def FpOk (X : Cx) (pins : List (Addr × Obj)) (H : Hp) (b : Addr) : Prop :=
  H b = none ∧ b ≠ X.env.locals ∧ b ∉ X.fs ∧ (b ∈ X.ex ∨ X.s₀.heap.objs.size ≤ b) ∧ (∀ x c, X.env.cells.lookup x = some c → c ≠ b) ∧ ∀ p ∈ X.pn ++ pins, p.1 ≠ b
theorem Inv.fpOk {X : Cx} {pins : List (Addr × Obj)} {σ : St} {H H' : Hp} {s : Shared} {b : Addr} (I : Inv X pins σ H s) (hb : s.heap.objs.size ≤ b) (hn : H' b = none) : FpOk X pins H' b := by
  refine ⟨hn, Nat.ne_of_gt (Nat.lt_of_lt_of_le I.lt hb), I.nofs hb, .inr (Nat.le_trans I.sz hb), fun x c e z => ?_, fun p hp z => ?_⟩
  · obtain ⟨v, q⟩ := I.cell x c e
    exact absurd (Nat.lt_of_lt_of_le q.lt (by rw [z]; exact hb)) (Nat.lt_irrefl _)
  · exact absurd (Nat.lt_of_lt_of_le (Heap.lt_size (I.pin p hp).1) (by rw [z]; exact hb)) (Nat.lt_irrefl _)
structure Turn (P : Program) (w : World) (K : PySem.W.Frag) (tg : Expr) (J : It) (fp : List Addr) (it : Addr) (tn : Nat → Heap → Prop) : Prop where
  mem : it ∈ fp
  obj : ∀ i h, tn i h → ∀ b ∈ fp, ∃ o, h.get? b = some o ∧ ∀ v, o.data ≠ .cell v
  keep : ∀ i h h', tn i h → (∀ b ∈ fp, ∀ o, h.get? b = some o → h'.get? b = some o) → tn i h'
  item : ∀ (X : Cx), X.prog = P → X.w = w → X.K = K → X.calm = true → ∀ (i : Nat) (pins : List (Addr × Obj)) (s : Shared) (σ : St) (H : Hp) (E : Value → Shared → Prop), Inv X pins σ H s → (∀ b ∈ fp, FpOk X pins H b) → tn i s.heap → J.go i H →
    wpAny (model P w) X.A (pyNext (.ref it)) (fun r s1 => ∃ u, r = some u ∧
      wpAny (model P w) X.A (letOwnedTupleGo tg (.ref it) u) (fun _ s2 => ∃ x H', Inv X pins σ H' s2 ∧ RelV x u ∧ J.yld i H x H' ∧ tn (i + 1) s2.heap ∧ ∀ b ∈ fp, H' b = none) E s1) E s
  done : ∀ (X : Cx), X.prog = P → X.w = w → X.K = K → X.calm = true → ∀ (i : Nat) (pins : List (Addr × Obj)) (s : Shared) (σ : St) (H : Hp) (E : Value → Shared → Prop), Inv X pins σ H s → (∀ b ∈ fp, FpOk X pins H b) → tn i s.heap → J.stop i H →
    wpAny (model P w) X.A (pyNext (.ref it)) (fun r s1 => r = none ∧ Inv X pins σ H s1) E s
  self : ∀ (A : Around) (i : Nat) (s : Shared) (Q : Value → Shared → Prop) (E : Value → Shared → Prop), tn i s.heap → Q (.ref it) s → wpAny (model P w) A (pyIter (.ref it)) Q E s
abbrev TI := St → Hp → (It → Hp → Prop) → Prop
/-- an iterator has come -/
def PIE (X : Cx) (pins : List (Addr × Obj)) (σ : St) (tg : Expr) (R : It → Hp → Prop) (itv : Value) (s2 : Shared) : Prop :=
  ∃ (it : Addr) (fp : List Addr) (tn : Nat → Heap → Prop) (J : It) (H' : Hp), itv = .ref it ∧ Inv X pins σ H' s2 ∧ Turn X.prog X.w X.K tg J fp it tn ∧ tn 0 s2.heap ∧ (∀ b ∈ fp, FpOk X pins H' b) ∧ R J H'
def PI (X : Cx) (tg iter : Expr) (wi : TI) : Prop :=
  ∀ (pins : List (Addr × Obj)) (s : Shared) (σ : St) (H : Hp) (R : It → Hp → Prop), Inv X pins σ H s → wi σ H R →
    wpAny (model X.prog X.w) X.A (eval iter X.env) (fun v s1 => wpAny (model X.prog X.w) X.A (pyIter v) (PIE X pins σ tg R) X.xe s1) X.xe s

/-- the step ahead of the store is nothing for an iterator that keeps no tuple -/
theorem go_of {M : Model} {A : Around} {E : Value → Shared → Prop} {s : Shared} {tg : Expr} {it : Addr} {u : Value} {o : Obj} {n : String} {vs : Array Value} {Q : Unit → Shared → Prop} (ho : s.heap.get? it = some o) (hc : o.cls = .type n) (hd : o.data = .fields vs)
    (hn : ["enumerate", "zip", "dict_itemiterator", "dict_reverseitemiterator", "odict_iterator", "itertools.zip_longest", "itertools.pairwise"].contains n = false) (hQ : Q () s) : wpAny M A (letOwnedTupleGo tg (.ref it) u) Q E s := by
  unfold letOwnedTupleGo
  cases tg <;> first
    | exact wpAny_pure hQ
    | (cases u <;> first
        | exact wpAny_pure hQ
        | (refine wpAny_bind (wpAny_load ho ?_)
           rw [hc, hd]
           show wpAny M A (if (["enumerate", "zip", "dict_itemiterator", "dict_reverseitemiterator", "odict_iterator", "itertools.zip_longest", "itertools.pairwise"].contains n && vs[0]? == some (rawInt _)) = true then _ else _) Q E s
           rw [if_neg (by intro h; rw [hn, Bool.false_and] at h; cases h)]
           exact wpAny_pure hQ))

/-- the list at a, as it stands at each turn (a loop may append to it) -/
def Itl (K : PySem.W.Frag) (a : Addr) : It :=
  ⟨fun i H => ∃ xs x, SqL K H a xs ∧ xs[i]? = some x, fun i H x H' => H' = H ∧ ∀ xs, SqL K H a xs → xs[i]? = some x, fun i H => ∃ xs, SqL K H a xs ∧ xs.length ≤ i⟩
def Itt (K : PySem.W.Frag) (a : Addr) : It :=
  ⟨fun i H => ∃ xs x, SqT K H a xs ∧ xs[i]? = some x, fun i H x H' => H' = H ∧ ∀ xs, SqT K H a xs → xs[i]? = some x, fun i H => ∃ xs, SqT K H a xs ∧ xs.length ≤ i⟩
/-- lo, lo + 1, .. (n of them) -/
def Itr (lo : Int) (n : Nat) : It := ⟨fun i _ => i < n, fun i H x H' => H' = H ∧ x = .int (lo + i), fun i _ => n ≤ i⟩
theorem turn_list {P : Program} {w : World} {K : PySem.W.Frag} {tg : Expr} (a it : Addr) : Turn P w K tg (Itl K a) [it] it (fun i h => h.IsListIter it a i) where
  mem := by simp
  obj := fun i h st b hb => by
    have e : b = it := by simpa using hb
    subst e
    obtain ⟨o, e, c, d⟩ := st
    exact ⟨o, e, fun v z => by rw [d] at z; cases z⟩
  keep := fun i h h' st k => st.at fun o e => k it (by simp) o e
  item := by
    intro X hP hw hK hc i pins s σ H E I hf st hg
    subst hP hw hK
    obtain ⟨xs, x, hq, hx⟩ := hg
    obtain ⟨its, rv, p, hz⟩ := I.list hq
    obtain ⟨u, hu, ru⟩ := rv.get hx
    obtain ⟨f0, f1, f2, f3, f4, f5⟩ := hf it (by simp)
    refine wpAny_pyNext_list_item st p.isList (x := u) (by simpa using hu) fun h' st' sb => ?_
    have I1 : Inv X pins σ H { s with heap := h' } := I.turned (t' := s.toks) (fun b o hb e => (sb.2 b hb).trans e) f0 f1 f3 f4 f5
    obtain ⟨o, e, c, d⟩ := id st'
    exact ⟨u, rfl, go_of (s := { s with heap := h' }) e c d (by decide) ⟨x, H, I1, ru, ⟨rfl, fun ys hy => by rw [I.list_inj hy hq]; exact hx⟩, st', fun b hb => (hf b hb).1⟩⟩
  done := by
    intro X hP hw hK hc i pins s σ H E I hf st hg
    subst hP hw hK
    obtain ⟨xs, hq, hx⟩ := hg
    obtain ⟨its, rv, p, hz⟩ := I.list hq
    obtain ⟨f0, f1, f2, f3, f4, f5⟩ := hf it (by simp)
    have hl := rv.length
    exact wpAny_pyNext_list_end (I.ok.hd hc) st p.isList (by simp; omega) fun h' eb => ⟨rfl, I.turned (t' := s.toks) (fun b o hb e => eb b o hb e) f0 f1 f3 f4 f5⟩
  self := fun _ _ _ _ _ st h => wpAny_pyIter_listiter st h
theorem turn_range {P : Program} {w : World} {K : PySem.W.Frag} {tg : Expr} (it : Addr) (lo : Int) (n : Nat) : Turn P w K tg (Itr lo n) [it] it (fun i h => IsRangeIter h it (lo + (i : Nat) * 1) ((n : Int) - (i : Nat)) 1) where
  mem := by simp
  obj := fun i h st b hb => by
    have e : b = it := by simpa using hb
    subst e
    exact ⟨_, st, fun v z => by
      have z' : Data.fields _ = Data.cell v := z
      cases z'⟩
  keep := fun i h h' st k => k it (by simp) _ st
  item := by
    intro X hP hw hK hc i pins s σ H E I hf st hg
    subst hP hw hK
    obtain ⟨f0, f1, f2, f3, f4, f5⟩ := hf it (by simp)
    have W := Walks.range (prog := X.prog) (w := X.w) (I.ok.hd hc) it lo 1 n
    refine W.item i s _ _ hg st fun v h' tk hv st' kk => ?_
    obtain ⟨t, rfl⟩ := hv
    have I1 : Inv X pins σ H { s with heap := h', toks := tk } := I.turned (fun b o hb e => kk b o (by simpa using hb) e) f0 f1 f3 f4 f5
    refine ⟨_, rfl, go_of (s := { s with heap := h', toks := tk }) (n := "range_iterator") st' rfl rfl (by decide) ⟨.int (lo + i), H, I1, ⟨t, ?_⟩, ⟨rfl, rfl⟩, st', fun b hb => (hf b hb).1⟩⟩
    rw [Int.mul_one]
  done := by
    intro X hP hw hK hc i pins s σ H E I hf st hg
    subst hP hw hK
    obtain ⟨f0, f1, f2, f3, f4, f5⟩ := hf it (by simp)
    exact wpAny_pyNext_range_end (I.ok.hd hc) st (by have : n ≤ i := hg; omega) fun h' eb => ⟨rfl, I.turned (t' := s.toks) (fun b o hb e => eb b o hb e) f0 f1 f3 f4 f5⟩
  self := fun _ _ _ _ _ st h => wpAny_pyIter_rangeiter st h
end L2

namespace L2
open PySem PySem.Spec PyProof.Rows
section
variable {X : Cx} {tg : Expr}
def iList (K : PySem.W.Frag) (tl : TE) : TI := fun σ H R => tl σ H fun x H1 => ∃ a, x = .ref a ∧ (∃ xs, SqL K H1 a xs) ∧ R (Itl K a) H1
def iTup (K : PySem.W.Frag) (tl : TE) : TI := fun σ H R => tl σ H fun x H1 => ∃ a, x = .ref a ∧ (∃ xs, SqT K H1 a xs) ∧ R (Itt K a) H1
theorem pi_list {l : Expr} {tl : TE} (hl : PE X l tl) : PI X tg l (iList X.K tl) := by
  intro pins s σ H R I h
  refine thn (hl pins s σ H _ I h) fun v s1 ⟨x, H1, I1, r1, q1⟩ => ?_
  obtain ⟨a, e, ⟨xs, hq⟩, q⟩ := q1
  subst e
  cases r1
  obtain ⟨its, rv, p, hz⟩ := I1.list hq
  refine wpAny_pyIter_list p.isList ?_
  refine ⟨s1.heap.objs.size, [s1.heap.objs.size], _, _, H1, rfl, I1.kept (t' := s1.toks) fun b o e => Heap.get?_push_of_some _ e, turn_list a _, ⟨_, Heap.get?_push_size _ rfl, rfl, rfl⟩, fun b hb => ?_, q⟩
  have e : b = s1.heap.objs.size := by simpa using hb
  subst e
  exact I1.fpOk (Nat.le_refl _) (I1.hok.fresh (Nat.le_refl _))
/-- a range object just made, walked -/
theorem range_it {pins : List (Addr × Obj)} {σ : St} {H : Hp} {s : Shared} {R : It → Hp → Prop} {E : Value → Shared → Prop} {lo hi : Int} {t u v : Tok} {tk : Nat} (I : Inv X pins σ H s) (h1 : -(2 ^ 62) ≤ lo) (h2 : lo < 2 ^ 62) (h3 : -(2 ^ 62) ≤ hi) (h4 : hi < 2 ^ 62)
    (q : R (Itr lo (hi - lo).toNat) H) : wpAny (model X.prog X.w) X.A (pyIter (.ref s.heap.objs.size)) (PIE X pins σ tg R) E { s with heap := s.heap.push { cls := .type "range", data := .fields #[.int lo t, .int hi u, .int 1 v] }, toks := tk } := by
  refine wpAny_pyIter_range (IsRange.new ..) (small_one h1 h2 h3 h4) ?_
  have I1 : Inv X pins σ H { s with heap := s.heap.push { cls := .type "range", data := .fields #[.int lo t, .int hi u, .int 1 v] }, toks := tk } := I.kept fun b o e => Heap.get?_push_of_some _ e
  refine ⟨(s.heap.push { cls := .type "range", data := .fields #[.int lo t, .int hi u, .int 1 v] }).objs.size, [(s.heap.push { cls := .type "range", data := .fields #[.int lo t, .int hi u, .int 1 v] }).objs.size], _, _, H, rfl,
    I1.kept (t' := tk) fun b o e => Heap.get?_push_of_some _ e, turn_range _ lo (hi - lo).toNat, ?_, fun b hb => ?_, q⟩
  · have e1 : lo + ((0 : Nat) : Int) * 1 = lo := by simp
    have e2 : (((hi - lo).toNat : Nat) : Int) - ((0 : Nat) : Int) = Builtin.Range.rangeSize lo hi 1 := by rw [rangeSize_one]; split <;> omega
    show IsRangeIter _ _ (lo + ((0 : Nat) : Int) * 1) ((((hi - lo).toNat : Nat) : Int) - ((0 : Nat) : Int)) 1
    rw [e1, e2]
    exact Heap.get?_push_size _ rfl
  · have e : b = (s.heap.push { cls := .type "range", data := .fields #[.int lo t, .int hi u, .int 1 v] }).objs.size := by simpa using hb
    subst e
    exact I1.fpOk (Nat.le_refl _) (I1.hok.fresh (Nat.le_refl _))
def iRng1 (ta : TA) : TI := fun σ H R => ta σ H fun vs H1 => ∃ j : Int, vs = [.int j] ∧ -(2 ^ 62) ≤ j ∧ j < 2 ^ 62 ∧ R (Itr 0 j.toNat) H1
def iRng2 (ta : TA) : TI := fun σ H R => ta σ H fun vs H1 => ∃ i j : Int, vs = [.int i, .int j] ∧ (-(2 ^ 62) ≤ i ∧ i < 2 ^ 62 ∧ -(2 ^ 62) ≤ j ∧ j < 2 ^ 62) ∧ R (Itr i (j - i).toNat) H1
theorem pi_range1 {a : Expr} {ta : TA} {p pos : Pos} (hg : Gl X "range") (hm : X.mg "range" = none) (ha : PA X [a] ta) (hs : starEach [a] X.env = [(false, eval a X.env)] := by rfl) : PI X tg (.Call (.Name "range" p) [a] [] pos) (iRng1 ta) := by
  intro pins s σ H R I h
  refine Call_ (ld_blt I hg hm boot_range (PyProof.Rows.callWith_type1 (thn (ha pos pins s σ H _ I h) fun us s1 ⟨vs, H1, I1, r1, q1⟩ => ?_) hs rfl))
  obtain ⟨j, e, q1, q2, q⟩ := q1
  subst e
  cases r1 with
  | cons r rr =>
    cases rr
    obtain ⟨t, rfl⟩ := r
    exact call_range_1 (range_it I1 (by omega) (by omega) q1 q2 (by simpa using q))

/-! ### for -/
/-- W: the invariant by the turn and a measure; N: what the body is to reach -/
def tFor (wi : TI) (g : TG) (tb : TS) : TS := fun D σ H => wi σ H fun J H1 => ∃ W : Nat → Nat → St → Hp → Prop, (∃ m, W 0 m σ H1) ∧ ∀ i m σ H, W i m σ H →
  (J.stop i H ∧ D.nx σ H) ∨ (J.go i H ∧ ∃ N : St → Hp → Prop, (∀ σ' H', N σ' H' → ∃ m', m' < m ∧ W (i + 1) m' σ' H') ∧ ∀ x H', J.yld i H x H' → g x σ H' fun σ2 H2 => tb { D with nx := N, ct := N, bk := D.nx } σ2 H2)
/-- the records at fp as they stand -/
def pinsAt (fp : List Addr) (h : Heap) : List (Addr × Obj) := fp.filterMap fun b => (h.get? b).map fun o => (b, o)
theorem mem_pinsAt {fp : List Addr} {h : Heap} {b : Addr} {o : Obj} (hb : b ∈ fp) (e : h.get? b = some o) : (b, o) ∈ pinsAt fp h := List.mem_filterMap.mpr ⟨b, hb, by rw [e]; rfl⟩
theorem of_pinsAt {fp : List Addr} {h : Heap} {p : Addr × Obj} (hp : p ∈ pinsAt fp h) : p.1 ∈ fp ∧ h.get? p.1 = some p.2 := by
  obtain ⟨b, hb, e⟩ := List.mem_filterMap.mp hp
  cases q : h.get? b with
  | none => rw [q] at e; cases e
  | some o =>
    rw [q] at e
    have e' : (b, o) = p := Option.some.inj e
    subst e'
    exact ⟨hb, q⟩
theorem Inv.pinned {pins : List (Addr × Obj)} {σ : St} {H : Hp} {s : Shared} {fp : List Addr} (I : Inv X pins σ H s) (hf : ∀ b ∈ fp, FpOk X pins H b) (ho : ∀ b ∈ fp, ∃ o, s.heap.get? b = some o ∧ ∀ v, o.data ≠ .cell v) : Inv X (pins ++ pinsAt fp s.heap) σ H s :=
  I.pins_of fun p hp => (List.mem_append.mp hp).elim (fun z => I.pin p (List.mem_append_right _ z)) fun z => by
    obtain ⟨hb, e⟩ := of_pinsAt z
    obtain ⟨f0, f1, f2, _⟩ := hf p.1 hb
    obtain ⟨o, e', d⟩ := ho p.1 hb
    rw [e] at e'; cases e'
    exact ⟨e, f0, f1, f2, d⟩
theorem Inv.unpinned {pins pl : List (Addr × Obj)} {σ : St} {H : Hp} {s : Shared} (I : Inv X (pins ++ pl) σ H s) : Inv X pins σ H s := I.pins_of fun p hp => I.pin p (List.mem_append_right _ (List.mem_append_left _ hp))
theorem ps_for {iter : Expr} {body : List Stmt} {wi : TI} {g : TG} {tb : TS} {pos : Pos} (hp : PassesOwn (model X.prog X.w) X.A X.env X.xe) (hc : X.calm = true) (hi : PI X tg iter wi) (hg : PG X tg g) (hb : PSs X body tb)
    (hs : ∀ x, foldedSetIterable iter X.env x = pure x := by intro _; rfl) : PS X (.For tg iter body [] pos) (tFor wi g tb) := by
  intro pins s σ H D I h
  refine wpAny_For (thn (hi pins s σ H _ I h) fun v s1 h1 => thn h1 fun itv s2 h2 => ?_) hs
  obtain ⟨it, fp, tn, J, H2, e, I2, T, st2, f2, W, ⟨m0, w0⟩, turn⟩ := h2
  subst e
  -- what stays true of the iterator's objects through the loop
  have stat : ∀ {H' : Hp}, (∀ b ∈ fp, H' b = none) → ∀ b ∈ fp, FpOk X pins H' b := fun hn b hb => ⟨hn b hb, (f2 b hb).2⟩
  refine codeAny_forLoop_any (fun n s' => ∃ i σ' H', Inv X pins σ' H' s' ∧ tn i s'.heap ∧ (∀ b ∈ fp, H' b = none) ∧ W i n σ' H') ?_ m0 ⟨0, σ, H2, I2, st2, fun b hb => (f2 b hb).1, w0⟩
  rintro n s3 ⟨i, σ3, H3, I3, st3, fr3, w3⟩
  rcases turn i n σ3 H3 w3 with ⟨stop, qn⟩ | ⟨go, N, hN, step⟩
  · refine wpAny_passesOwn hp (thn (T.done X rfl rfl rfl hc i pins s3 σ3 H3 X.xe I3 (stat fr3) st3 stop) fun r s4 ⟨hr, I4⟩ => ?_)
    subst hr
    exact wpAny_execs_nil ⟨σ3, H3, I4, qn⟩
  · refine wpAny_passesOwn hp (thn (T.item X rfl rfl rfl hc i pins s3 σ3 H3 X.xe I3 (stat fr3) st3 go) fun r s4 ⟨u, hr, h4⟩ => ?_)
    subst hr
    refine wpAny_passesOwn hp (thn h4 fun _ s5 ⟨x, H5, I5, r5, y5, st5, fr5⟩ => ?_)
    have I5' := I5.pinned (stat fr5) (T.obj _ _ st5)
    refine wpAny_passesOwn hp (thn (hg _ s5 σ3 H5 x u _ I5' r5 (step x H5 y5)) fun _ s6 ⟨σ6, H6, I6, q6⟩ => ?_)
    refine wpAny_passesOwn hp (thn (hb _ s6 σ6 H6 _ I6 q6) fun f s7 q7 => ?_)
    have again : ∀ {σ7 : St} {H7 : Hp}, Inv X (pins ++ pinsAt fp s5.heap) σ7 H7 s7 → N σ7 H7 → ∃ m, m < n ∧ ∃ i σ' H', Inv X pins σ' H' s7 ∧ tn i s7.heap ∧ (∀ b ∈ fp, H' b = none) ∧ W i m σ' H' := fun {σ7 H7} I7 n7 => by
      obtain ⟨m', hm, w7⟩ := hN σ7 H7 n7
      refine ⟨m', hm, i + 1, σ7, H7, I7.unpinned, T.keep _ _ _ st5 fun b hb o e => (I7.pin (b, o) (List.mem_append_right _ (List.mem_append_right _ (mem_pinsAt hb e)))).1, fun b hb => ?_, w7⟩
      obtain ⟨o, e, d⟩ := T.obj _ _ st5 b hb
      exact (I7.pin (b, o) (List.mem_append_right _ (List.mem_append_right _ (mem_pinsAt hb e)))).2.1
    cases f with
    | next => obtain ⟨σ7, H7, I7, n7⟩ := q7; exact again I7 n7
    | cont => obtain ⟨σ7, H7, I7, n7⟩ := q7; exact again I7 n7
    | brk => obtain ⟨σ7, H7, I7, q7⟩ := q7; exact ⟨σ7, H7, I7.unpinned, q7⟩
    | ret v => obtain ⟨x7, σ7, H7, I7, r7, q7⟩ := q7; exact ⟨x7, σ7, H7, I7.unpinned, r7, q7⟩
end

/-! ### the forms one uses -/
end L2

namespace L2
open PySem PySem.Spec PyProof.Rows

abbrev R2 := V → V → Hp → VK → Prop
/-- a two-place operation on values: f is binaryOp op, inplaceOp op or compareOp op -/
def OpR (X : Cx) (f : Value → Value → Sem Value) (r : R2) : Prop :=
  ∀ (pins : List (Addr × Obj)) (s : Shared) (σ : St) (H : Hp) (x y : V) (v u : Value) (Q : VK), Inv X pins σ H s → RelV x v → RelV y u → r x y H Q →
    wpAny (model X.prog X.w) X.A (f v u) (EP X pins σ Q) X.xe s
/-- a one-place operation -/
def UnR (X : Cx) (f : Value → Sem Value) (r : V → Hp → VK → Prop) : Prop :=
  ∀ (pins : List (Addr × Obj)) (s : Shared) (σ : St) (H : Hp) (x : V) (v : Value) (Q : VK), Inv X pins σ H s → RelV x v → r x H Q →
    wpAny (model X.prog X.w) X.A (f v) (EP X pins σ Q) X.xe s
/-- a call of a value that is known (a builtin, a type) with values -/
def CallR (X : Cx) (f : Value) (r : List V → Hp → VK → Prop) : Prop :=
  ∀ (pins : List (Addr × Obj)) (s : Shared) (σ : St) (H : Hp) (xs : List V) (us : List Value) (Q : VK), Inv X pins σ H s → Vals xs us → r xs H Q →
    wpAny (model X.prog X.w) X.A (call f us) (EP X pins σ Q) X.xe s
/-- a value's truth -/
def TruR (X : Cx) (r : V → Hp → (Bool → Hp → Prop) → Prop) : Prop :=
  ∀ (pins : List (Addr × Obj)) (s : Shared) (σ : St) (H : Hp) (x : V) (v : Value) (Q : Bool → Hp → Prop), Inv X pins σ H s → RelV x v → r x H Q →
    wpAny (model X.prog X.w) X.A (truthy v) (TP X pins σ Q) X.xe s

def tOp (r : R2) (ta tb : TE) : TE := fun σ H Q => ta σ H fun x H1 => tb σ H1 fun y H2 => r x y H2 Q
def tUn (r : V → Hp → VK → Prop) (ta : TE) : TE := fun σ H Q => ta σ H fun x H1 => r x H1 Q
/-- ints in, under C, and a value out -/
def rI (C : Int → Int → Prop) (g : Int → Int → V) : R2 := fun x y H Q => ∃ i j, x = .int i ∧ y = .int j ∧ C i j ∧ Q (g i j) H
def rI0 (g : Int → Int → V) : R2 := fun x y H Q => ∃ i j, x = .int i ∧ y = .int j ∧ Q (g i j) H
def rU (g : Int → V) : V → Hp → VK → Prop := fun x H Q => ∃ i, x = .int i ∧ Q (g i) H

section
variable {X : Cx} {a b c : Expr} {ta tb tc : TE} {pos : Pos}

theorem binT (ha : PE X a ta) (hb : PE X b tb) {pins : List (Addr × Obj)} {s : Shared} {σ : St} {H : Hp} {R : V → V → Hp → Prop} (I : Inv X pins σ H s)
    (h : ta σ H fun x H1 => tb σ H1 fun y H2 => R x y H2) {Q : Value → Shared → Prop} {f : Value → Value → Sem Value}
    (hf : ∀ v u s2 x y H2, Inv X pins σ H2 s2 → RelV x v → RelV y u → R x y H2 → wpAny (model X.prog X.w) X.A (f v u) Q X.xe s2) :
    wpAny (model X.prog X.w) X.A (eval a X.env) (fun v s₁ => wpAny (model X.prog X.w) X.A (eval b X.env) (fun u s₂ => wpAny (model X.prog X.w) X.A (f v u) Q X.xe s₂) X.xe s₁) X.xe s := by
  refine thn (ha pins s σ H _ I h) fun v s1 ⟨x, H1, I1, r1, q1⟩ => ?_
  refine thn (hb pins s1 σ H1 _ I1 q1) fun u s2 ⟨y, H2, I2, r2, q2⟩ => ?_
  exact hf v u s2 x y H2 I2 r1 r2 q2

theorem pe_op {op : Operator} {r : R2} (ho : OpR X (binaryOp op) r) (ha : PE X a ta) (hb : PE X b tb) : PE X (.BinOp a op b pos) (tOp r ta tb) := by
  intro pins s σ H Q I h
  exact wpAny_BinOp (binT ha hb I h fun v u s2 x y H2 I2 rx ry q => ho pins s2 σ H2 x y v u Q I2 rx ry q)

/-! ### ints -/
theorem opI {f : Value → Value → Sem Value} {C : Int → Int → Prop} {g : Int → Int → Int}
    (rule : ∀ (i j : Int) (t u : Tok) (s : Shared) (Q : Value → Shared → Prop) (E : Value → Shared → Prop), C i j → Q (.int (g i j) s.toks) { s with toks := s.toks + 1 } → wpAny (model X.prog X.w) X.A (f (.int i t) (.int j u)) Q E s) :
    OpR X f (rI C fun i j => .int (g i j)) := by
  intro pins s σ H x y v u Q I rx ry h
  obtain ⟨i, j, rfl, rfl, hc, q⟩ := h
  obtain ⟨t, rfl⟩ := rx
  obtain ⟨t', rfl⟩ := ry
  exact rule i j t t' s _ _ hc ⟨.int (g i j), H, I.tok _, ⟨_, rfl⟩, q⟩
theorem opI0 {f : Value → Value → Sem Value} {g : Int → Int → Int}
    (rule : ∀ (i j : Int) (t u : Tok) (s : Shared) (Q : Value → Shared → Prop) (E : Value → Shared → Prop), Q (.int (g i j) s.toks) { s with toks := s.toks + 1 } → wpAny (model X.prog X.w) X.A (f (.int i t) (.int j u)) Q E s) :
    OpR X f (rI0 fun i j => .int (g i j)) := by
  intro pins s σ H x y v u Q I rx ry h
  obtain ⟨i, j, rfl, rfl, q⟩ := h
  obtain ⟨t, rfl⟩ := rx
  obtain ⟨t', rfl⟩ := ry
  exact rule i j t t' s _ _ ⟨.int (g i j), H, I.tok _, ⟨_, rfl⟩, q⟩
theorem opB0 {f : Value → Value → Sem Value} {g : Int → Int → Bool}
    (rule : ∀ (i j : Int) (t u : Tok) (s : Shared) (Q : Value → Shared → Prop) (E : Value → Shared → Prop), Q (.bool (g i j)) s → wpAny (model X.prog X.w) X.A (f (.int i t) (.int j u)) Q E s) :
    OpR X f (rI0 fun i j => .bl (g i j)) := by
  intro pins s σ H x y v u Q I rx ry h
  obtain ⟨i, j, rfl, rfl, q⟩ := h
  obtain ⟨t, rfl⟩ := rx
  obtain ⟨t', rfl⟩ := ry
  exact rule i j t t' s _ _ ⟨.bl (g i j), H, I, rfl, q⟩

def CDiv (i j : Int) : Prop := 0 < j ∧ j < 1073741824
def CDivN (i j : Int) : Prop := j ≠ 0 ∧ j.natAbs < 1073741824
def CPow (i j : Int) : Prop := 0 ≤ j ∧ j ≤ 1000000 ∧ i.natAbs < 2 ^ 64
def CMul (i j : Int) : Prop := (-(2 ^ 64) < i ∧ i < 2 ^ 64) ∨ (-(2 ^ 64) < j ∧ j < 2 ^ 64)
theorem CMul.ok {i j : Int} (h : CMul i j) : IntMulOk i j := by
  rcases h with ⟨h1, h2⟩ | ⟨h1, h2⟩
  · exact .of_left (intBits_le_64 h1 h2)
  · exact .of_right (intBits_le_64 h1 h2)

theorem op_add : OpR X (binaryOp .Add) (rI0 fun i j => .int (i + j)) := opI0 fun _ _ _ _ _ _ _ q => add_int q
/-- % by a positive divisor of any size -/
theorem op_mod : OpR X (binaryOp .Mod) (rI (fun _ j => 0 < j) fun i j => .int (i % j)) := opI fun i j _ _ _ _ _ hc q => by
  have h1 : (0 : Int) < j := hc
  exact mod_int' (by omega) (by rw [Int.fmod_eq_emod_of_nonneg i (by omega)]; exact q)
theorem op_pow : OpR X (binaryOp .Pow) (rI CPow fun i j => .int (i ^ j.toNat)) := opI fun _ _ _ _ _ _ _ hc q => pow_int_small hc.1 hc.2.1 hc.2.2 q



/-! ### bools among ints: n += (a < b) -/
end

/-! ### comparisons -/
/-- the scalars that == tells apart as data does -/
def scal : V → V → Bool
  | .non, .non => true | .non, .int _ => true | .int _, .non => true | .non, .bl _ => true | .bl _, .non => true | .non, .str _ => true | .str _, .non => true
  | .int _, .int _ => true | .bl _, .bl _ => true | .str _, .str _ => true | .byt _, .byt _ => true
  | .int _, .str _ => true | .str _, .int _ => true | .bl _, .str _ => true | .str _, .bl _ => true
  | _, _ => false
def rEq : R2 := fun x y H Q => scal x y = true ∧ Q (.bl (decide (x = y))) H
def rNe : R2 := fun x y H Q => scal x y = true ∧ Q (.bl (!decide (x = y))) H


section
variable {X : Cx} {a b c : Expr} {ta tb tc : TE} {pos : Pos}
theorem fin_bl {pins : List (Addr × Obj)} {σ : St} {H : Hp} {s : Shared} {Q : VK} {k k' : Bool} (I : Inv X pins σ H s) (q : Q (.bl k) H) (e : k = k') : EP X pins σ Q (.bool k') s := by
  subst e
  exact ⟨.bl k, H, I, rfl, q⟩

theorem op_le : OpR X (compareOp .LtE) (rI0 fun i j => .bl (decide (i ≤ j))) := opB0 fun _ _ _ _ _ _ _ q => le_int q
theorem op_ge : OpR X (compareOp .GtE) (rI0 fun i j => .bl (decide (j ≤ i))) := opB0 fun _ _ _ _ _ _ _ q => ge_int q
/-- the one string within the other -/
theorem op_in_str : OpR X (compareOp .In) (fun x y H Q => ∃ i j, x = .str i ∧ y = .str j ∧ Q (.bl (!(Builtin.Str.occurrences j i 0 j.length 1).isEmpty)) H) := by
  intro pins s σ H x y v u Q I rx ry h
  obtain ⟨i, j, rfl, rfl, q⟩ := h
  obtain ⟨t, rfl⟩ := rx
  obtain ⟨t', rfl⟩ := ry
  exact in_str (fin_bl I q rfl)


/-- is, is not of two objects that are tracked lists or instances -/
def isObj : HO → Bool
  | .lst _ => true
  | .ins _ _ _ => true
  | _ => false


/-- a comparison as a value; hm: nomark b, or (for in, not in) by with_unfolding_all rfl -/
theorem pe_cmpR {op : CmpOp} {r : R2} (ho : OpR X (compareOp op) r) (ha : PE X a ta) (hb : PE X b tb) (hm : behindInMarks op b = false) : PE X (.Compare a [op] [b] pos) (tOp r ta tb) := by
  intro pins s σ H Q I h
  exact wpAny_Compare1 (binT ha hb I h fun v u s2 x y H2 I2 rx ry q => ho pins s2 σ H2 x y v u Q I2 rx ry q) hm
/-- a reading of a value as a test -/
def tTest (t : TE) : TT := fun σ H Q => t σ H fun x H' => ∃ k, x = .bl k ∧ Q k H'
theorem pt_cmpR {op : CmpOp} {r : R2} (ho : OpR X (compareOp op) r) (ha : PE X a ta) (hb : PE X b tb) (hm : behindInMarks op b = false) : PT X (.Compare a [op] [b] pos) (tTest (tOp r ta tb)) := by
  intro pins s σ H Q I h
  refine wpAny_isTrue_Compare1 (thn (ha pins s σ H _ I h) fun v s1 ⟨x, H1, I1, r1, q1⟩ => thn (hb pins s1 σ H1 _ I1 q1) fun u s2 ⟨y, H2, I2, r2, q2⟩ =>
    thn (ho pins s2 σ H2 x y v u _ I2 r1 r2 q2) fun c s3 ⟨z, H3, I3, r3, k, e, q3⟩ => ?_) hm
  subst e
  cases r3
  exact wpAny_truthy_bool ⟨H3, I3, q3⟩
/-- a op1 b op2 c -/
def tChain (r r' : R2) (ta tb tc : TE) : TE := fun σ H Q => ta σ H fun x H1 => tb σ H1 fun y H2 => r x y H2 fun z H3 => ∃ k, z = .bl k ∧
  (if k = true then tc σ H3 fun w' H4 => r' y w' H4 Q else Q (.bl false) H3)
theorem pe_chain {op op' : CmpOp} {r r' : R2} (ho : OpR X (compareOp op) r) (ho' : OpR X (compareOp op') r') (ha : PE X a ta) (hb : PE X b tb) (hc : PE X c tc)
    (hm : lastMarks [op, op'] [b, c] = false := by with_unfolding_all rfl) : PE X (.Compare a [op, op'] [b, c] pos) (tChain r r' ta tb tc) := by
  intro pins s σ H Q I h
  refine Compare_chain (thn (ha pins s σ H _ I h) fun v s1 ⟨x, H1, I1, r1, q1⟩ => chain_link (thn (hb pins s1 σ H1 _ I1 q1) fun u s2 ⟨y, H2, I2, r2, q2⟩ =>
    thn (ho pins s2 σ H2 x y v u _ I2 r1 r2 q2) fun d s3 ⟨z, H3, I3, r3, k, e, q3⟩ => ?_)) hm
  subst e
  cases r3
  refine wpAny_truthy_bool ?_
  cases k with
  | false => exact ite_ff ⟨.bl false, H3, I3, rfl, q3⟩
  | true => exact ite_tt (chain_last (thn (hc pins s3 σ H3 _ I3 q3) fun w' s4 ⟨z', H4, I4, r4, q4⟩ => ho' pins s4 σ H4 y z' u w' Q I4 r2 r4 q4))

/-! ### truth -/
/-- a value's truth by the abstract heap -/
def TruV (K : PySem.W.Frag) (x : V) (H : Hp) (k : Bool) : Prop :=
  match x with
  | .non => k = false
  | .bl b => k = b
  | .int i => k = (i != 0)
  | .str y => y.length ≤ sizeLine ∧ k = ((y.length : Int) != 0)
  | .byt y => y.size ≤ sizeLine ∧ k = ((y.size : Int) != 0)
  | .ref p => (∃ xs, SqL K H p xs ∧ k = !xs.isEmpty) ∨ (∃ xs, SqT K H p xs ∧ k = !xs.isEmpty) ∨ ∃ kvs, H p = some (.dK kvs) ∧ k = !kvs.isEmpty
  | _ => False
theorem line63 : (sizeLine : Nat) < 2 ^ 63 := by rw [sizeLine_eq]; decide

/-! ### strs and bytes -/
theorem op_add_str : OpR X (binaryOp .Add) (fun x y H Q => ∃ i j, x = .str i ∧ y = .str j ∧ i.length + j.length ≤ sizeLine ∧ Q (.str (i ++ j)) H) := by
  intro pins s σ H x y v u Q I rx ry h
  obtain ⟨i, j, rfl, rfl, hz, q⟩ := h
  obtain ⟨t, rfl⟩ := rx
  obtain ⟨t', rfl⟩ := ry
  exact add_str (fun t' tk => ⟨.str (i ++ j), H, I.tok _, ⟨_, rfl⟩, q⟩) hz

def PlainIxT (b : Expr) : Prop := ∀ o i, subscripted b false o i = operate [o, i] (getItem o i)

/-! ### scalar builtins, by CallR -/
theorem vals1 {x : V} {us : List Value} (r : Vals [x] us) : ∃ u, us = [u] ∧ RelV x u := by
  cases r with
  | cons r1 r2 => cases r2; exact ⟨_, rfl, r1⟩
theorem vals2 {x y : V} {us : List Value} (r : Vals [x, y] us) : ∃ u w', us = [u, w'] ∧ RelV x u ∧ RelV y w' := by
  cases r with
  | cons r1 r2 =>
    cases r2 with
    | cons r3 r4 => cases r4; exact ⟨_, _, rfl, r1, r3⟩
theorem call_max2 (hc : X.calm = true) : CallR X (.builtin "max") (fun xs H Q => ∃ i j, xs = [.int i, .int j] ∧ Q (.int (if j > i then j else i)) H) := by
  intro pins s σ H xs us Q I r h
  obtain ⟨i, j, rfl, q⟩ := h
  obtain ⟨u, w', rfl, ⟨t, rfl⟩, ⟨t', rfl⟩⟩ := vals2 r
  refine max_two_ints (I.ok.hd hc) fun h' tk k => ⟨_, H, I.kept k, ?_, q⟩
  by_cases hj : j > i
  · rw [if_pos hj, if_pos hj]; exact ⟨_, rfl⟩
  · rw [if_neg hj, if_neg hj]; exact ⟨_, rfl⟩
theorem call_min2 (hc : X.calm = true) : CallR X (.builtin "min") (fun xs H Q => ∃ i j, xs = [.int i, .int j] ∧ Q (.int (if j < i then j else i)) H) := by
  intro pins s σ H xs us Q I r h
  obtain ⟨i, j, rfl, q⟩ := h
  obtain ⟨u, w', rfl, ⟨t, rfl⟩, ⟨t', rfl⟩⟩ := vals2 r
  refine min_two_ints (I.ok.hd hc) fun h' tk k => ⟨_, H, I.kept k, ?_, q⟩
  by_cases hj : j < i
  · rw [if_pos hj, if_pos hj]; exact ⟨_, rfl⟩
  · rw [if_neg hj, if_neg hj]; exact ⟨_, rfl⟩
theorem call_int1 : CallR X (.type "int") (fun xs H Q => (∃ i, xs = [.int i] ∧ Q (.int i) H) ∨ ∃ k, xs = [.bl k] ∧ Q (.int (if k then 1 else 0)) H) := by
  intro pins s σ H xs us Q I r h
  rcases h with ⟨i, rfl, q⟩ | ⟨k, rfl, q⟩
  · obtain ⟨u, rfl, t, rfl⟩ := vals1 r
    exact call_int_int ⟨.int i, H, I, ⟨_, rfl⟩, q⟩
  · obtain ⟨u, rfl, r1⟩ := vals1 r
    cases r1
    exact call_int_bool ⟨.int (if k then 1 else 0), H, I.tok _, ⟨_, rfl⟩, q⟩
/-- len of a str, a bytes, a list, a tuple -/
def LenV (K : PySem.W.Frag) (x : V) (H : Hp) (n : Nat) : Prop :=
  match x with
  | .str y => y.length ≤ sizeLine ∧ n = y.length
  | .byt y => y.size ≤ sizeLine ∧ n = y.size
  | .ref p => (∃ xs, SqL K H p xs ∧ n = xs.length) ∨ ∃ xs, SqT K H p xs ∧ n = xs.length
  | _ => False
end
end L2

namespace L2
open PySem PySem.Spec PyProof.Rows

/-! ### an instance, its attributes a map -/
structure ObjM (h : Heap) (x dx C : Addr) (mA : Str → Option Value) : Prop where
  obj : h.get? x = some (PySem.W.instObj C dx)
  ns : h.Ns1 dx mA
  ne : dx ≠ x

theorem lookIn_ns {h : Heap} {dx : Addr} {mA : Str → Option Value} (n : h.Ns1 dx mA) : ∃ od, h.get? dx = some od ∧ ∀ name, PySem.W.lookIn name od = some (mA name) := by
  obtain ⟨o, es, ep, ho, hd, hk, _, hm⟩ := n
  refine ⟨o, ho, fun name => ?_⟩
  have e := hm name
  unfold nsFind findBy at e
  rw [← Array.find?_toList] at e
  unfold PySem.W.lookIn
  rw [hd]
  dsimp only
  split
  · rename_i y q
    rw [q] at e
    exact congrArg some e
  · rename_i q
    rw [q] at e
    have a : es.toList.any (·.refKey) = false := by
      rw [List.any_eq_false]
      intro y hy
      obtain ⟨z, t, hkey⟩ := hk y (Array.mem_toList_iff.mp hy)
      simp [DictEntry.refKey, hkey]
    have a' : ¬ es.toList.any (·.refKey) = true := by rw [a]; exact Bool.false_ne_true
    rw [if_neg a']
    exact congrArg some e

theorem ObjM.look {h : Heap} {x dx C : Addr} {mA : Str → Option Value} (I : ObjM h x dx C mA) : ∃ od, PySem.W.InstAt h x (PySem.W.instObj C dx) C (some od) ∧ ∀ name, PySem.W.lookIn name od = some (mA name) :=
  let ⟨od, ho, hl⟩ := lookIn_ns I.ns
  ⟨od, ⟨I.obj, rfl, rfl, ho⟩, hl⟩

section
variable {prog : Program} {w : World} {A : Around} {E : Value → Shared → Prop} {s : Shared} {K : PySem.W.Frag} {x dx C f : Addr} {mA : Str → Option Value} {name : Str} {v : Value}





end

/-! ### the attributes as a list of pairs -/
def putF (f : Str) (v : V) : List (Str × V) → List (Str × V)
  | [] => [(f, v)]
  | (g, x) :: r => if g = f then (g, v) :: r else (g, x) :: putF f v r


section
variable {P : Program} {w : World} {H H' : Hp} {h h' : Heap} {a C dx : Addr} {fs fs' : List (Str × V)}
theorem ins_get (hok : HOk P w H h) (e : H a = some (.ins C dx fs)) : ∃ mA, ObjM h a dx C mA ∧ (∀ f, RelO (fs.lookup f) (mA f)) ∧ PySem.Within mA (fs.map (·.1)) ∧ fs.length ≤ 1000 ∧ H dx = some (.own a) := by
  obtain ⟨d, z, ne, ob, mA, n, r, q⟩ := (show ObjOk P w H h a (.ins C dx fs) from hok a _ e)
  exact ⟨mA, ⟨ob, n, ne⟩, r, q, z, d⟩
end

/-! ### what of the text a class must have -/
structure Cls (K : PySem.W.Frag) (C : Addr) : Prop where
  pg : PySem.W.plainGet K C Str.empty = true
  hd : PySem.W.hasDictIn K C = true
  po : PySem.W.plainOver K C = true
  sa : PySem.W.findIn K (.ref C) "__setattr__" = some (some (.builtin "object.__setattr__"))
theorem Cls.get {K : PySem.W.Frag} {C : Addr} (c : Cls K C) (f : Str) : PySem.W.plainGet K C f = true := c.pg
/-- no class of it has the name -/
def NoAttr (K : PySem.W.Frag) (C : Addr) (f : Str) : Prop := PySem.W.findIn K (.ref C) f = some none
/-- a constant of the class -/
structure Con (K : PySem.W.Frag) (C : Addr) (f : Str) (v : V) (u : Value) : Prop where
  at_ : PySem.W.findIn K (.ref C) f = some (some u)
  rel : RelV v u
  get : PySem.W.specialIn K u "__get__" = some none
  cp : PySem.W.copiedNames.contains f = false
/-- a method: a plain def of the class or of one above it -/
structure Meth (K : PySem.W.Frag) (C : Addr) (m : Str) (f : Addr) : Prop where
  at_ : PySem.W.findIn K (.ref C) m = some (some (.ref f))
  fn : PySem.W.isFn K (.ref f) = true
  kp : PySem.W.keepIn K (.ref f) = true

section
variable {X : Cx} {pins : List (Addr × Obj)} {σ : St} {H : Hp} {s : Shared} {a C dx : Addr} {fs : List (Str × V)} {f : Str} {v : V} {A : Around} {E : Value → Shared → Prop}






end

/-! ### readings and rules -/
/-- e.f, an attribute of the instance -/
def tFld (K : PySem.W.Frag) (ta : TE) (f : Str) : TE := fun σ H Q => ta σ H fun x H1 => ∃ a C dx fs v, x = .ref a ∧ H1 a = some (.ins C dx fs) ∧ Cls K C ∧ NoAttr K C f ∧ fs.lookup f = some v ∧ Q v H1
/-- e.f, a constant of the class -/
def tCon (K : PySem.W.Frag) (ta : TE) (f : Str) : TE := fun σ H Q => ta σ H fun x H1 => ∃ a C dx fs v u, x = .ref a ∧ H1 a = some (.ins C dx fs) ∧ Cls K C ∧ Con K C f v u ∧ fs.lookup f = none ∧ Q v H1
/-- e.f = value -/
def sFld (K : PySem.W.Frag) (ta tv : TE) (f : Str) : TS := fun D σ H => tv σ H fun y H1 => ta σ H1 fun x H2 => ∃ a C dx fs, x = .ref a ∧ H2 a = some (.ins C dx fs) ∧ Cls K C ∧ NoAttr K C f ∧ fs.length < 1000 ∧
  D.nx σ (upd H2 a (.ins C dx (putF f y fs)))
/-- an augmented operator on two values -/
def InOp (X : Cx) (op : Operator) (rd : V → V → Hp → VK → Prop) : Prop :=
  ∀ (pins : List (Addr × Obj)) (s : Shared) (σ : St) (H : Hp) (x y : V) (u v : Value) (Q : VK), Inv X pins σ H s → RelV x u → RelV y v → rd x y H Q → wpAny (model X.prog X.w) X.A (inplaceOp op u v) (EP X pins σ Q) X.xe s
/-- e.f op= value -/
def sFldAug (K : PySem.W.Frag) (ta tv : TE) (rd : V → V → Hp → VK → Prop) (f : Str) : TS := fun D σ H => ta σ H fun x H1 => ∃ a C dx fs v, x = .ref a ∧ H1 a = some (.ins C dx fs) ∧ Cls K C ∧ NoAttr K C f ∧ fs.lookup f = some v ∧
  tv σ H1 fun y H2 => rd v y H2 fun z H3 => ∃ dx' fs', H3 a = some (.ins C dx' fs') ∧ fs'.length < 1000 ∧ D.nx σ (upd H3 a (.ins C dx' (putF f z fs')))

section
variable {X : Cx} {o e value : Expr} {f : Str} {pos pos' tpos : Pos} {ta tv : TE}
def rAdd : V → V → Hp → VK → Prop := fun x y H Q => ∃ i j, x = .int i ∧ y = .int j ∧ Q (.int (i + j)) H
def rSub : V → V → Hp → VK → Prop := fun x y H Q => ∃ i j, x = .int i ∧ y = .int j ∧ Q (.int (i - j)) H

end

/-! ### isinstance -/
section
variable {X : Cx} {pins : List (Addr × Obj)} {σ : St} {H : Hp} {s : Shared} {A : Around} {E : Value → Shared → Prop} {Q : Value → Shared → Prop} {c : Value} {b : Bool}
/-- the type of a value, as the fragment's deciders take it; for an instance its class -/
inductive TyOf (K : PySem.W.Frag) (H : Hp) : V → Value → Prop where
  | non : TyOf K H .non (.type "NoneType")
  | bl (x : Bool) : TyOf K H (.bl x) (.type "bool")
  | int (i : Int) : TyOf K H (.int i) (.type "int")
  | str (x : Str) : TyOf K H (.str x) (.type "str")
  | flt (x : UInt64) : TyOf K H (.flt x) (.type "float")
  | lst {a : Addr} {xs : List V} (e : H a = some (.lst xs)) : TyOf K H (.ref a) (.type "list")
  | frz {a : Addr} {o : Obj} {xs : List V} (e : H a = some (.frz o (.lst xs))) : TyOf K H (.ref a) (.type "list")
  | tup {a : Addr} {xs : List V} (e : H a = some (.tup xs)) : TyOf K H (.ref a) (.type "tuple")
  | dK {a : Addr} {kvs : List (Key × V)} (e : H a = some (.dK kvs)) : TyOf K H (.ref a) (.type "dict")
  | dT {a : Addr} {kvs : List (List Key × V)} (e : H a = some (.dT kvs)) : TyOf K H (.ref a) (.type "dict")
  | ins {a C dx : Addr} {fs : List (Str × V)} (e : H a = some (.ins C dx fs)) (cl : Cls K C) (ha : PySem.W.findIn K (.ref C) "__class__" = some (some (.builtin "object.__class__")))
      (hn : PySem.W.specialIn K (.builtin "object.__class__") "__get__" = some (some (.builtin "getset_descriptor.__get__"))) (htk : PySem.W.takesIn K (.builtin "object.__class__") = some true)
      (hm : PySem.W.mroIn K C (.type "object") = some true) : TyOf K H (.ref a) (.ref C)
/-- isinstance(x, c) for one class c, a built-in or an own one: kitOne's answer -/
theorem isinst_ok {x : V} {u t : Value} (I : Inv X pins σ H s) (rx : RelV x u) (ty : TyOf X.K H x t) (e : PySem.W.kitOne X.K t c = some b) (h : ∀ tk, Q (.bool b) { s with toks := tk }) :
    wpAny (model X.prog X.w) A (call (.builtin "isinstance") [u, c]) Q E s := by
  cases ty with
  | non => cases (show u = Value.none from rx); exact PySem.W.kia_one PySem.W.kitx_none I.kIn True.intro e (fun z => nomatch z) h
  | bl y => cases (show u = Value.bool y from rx); exact PySem.W.kia_one PySem.W.kitx_bool I.kIn True.intro e (fun z => nomatch z) h
  | int i => obtain ⟨t, q⟩ := (show ∃ t, u = Value.int i t from rx); cases q; exact PySem.W.kia_one PySem.W.kitx_int I.kIn True.intro e (fun z => nomatch z) h
  | str y => obtain ⟨t, q⟩ := (show ∃ t, u = Value.str y t from rx); cases q; exact PySem.W.kia_one PySem.W.kitx_str I.kIn True.intro e (fun z => nomatch z) h
  | flt y => obtain ⟨t, q⟩ := (show ∃ t, u = Value.float y t from rx); cases q; exact PySem.W.kia_one PySem.W.kitx_float I.kIn True.intro e (fun z => nomatch z) h
  | @lst a xs ea =>
    cases (show u = Value.ref a from rx)
    obtain ⟨_, _, n, _, h1⟩ := (show ObjOk X.prog X.w H s.heap a (.lst xs) from I.hok a _ ea)
    exact PySem.W.kia_one PySem.W.kitx_list I.kIn ⟨_, h1, rfl⟩ e (fun z => nomatch z) h
  | @frz a ob xs ea =>
    cases (show u = Value.ref a from rx)
    obtain ⟨_, _, _, n, _, h1⟩ := (show ObjOk X.prog X.w H s.heap a (.frz ob (.lst xs)) from I.hok a _ ea)
    exact PySem.W.kia_one PySem.W.kitx_list I.kIn ⟨_, h1, rfl⟩ e (fun z => nomatch z) h
  | @tup a xs ea =>
    cases (show u = Value.ref a from rx)
    obtain ⟨_, _, _, p⟩ := (show ObjOk X.prog X.w H s.heap a (.tup xs) from I.hok a _ ea)
    obtain ⟨o, h1, h2, _⟩ := p
    exact PySem.W.kia_one PySem.W.kitx_tuple I.kIn ⟨o, h1, h2⟩ e (fun z => nomatch z) h
  | @dK a kvs ea =>
    cases (show u = Value.ref a from rx)
    obtain ⟨_, _, vs, _, p⟩ := (show ObjOk X.prog X.w H s.heap a (.dK kvs) from I.hok a _ ea)
    obtain ⟨o, es, ep, h1, h2, _⟩ := p
    exact PySem.W.kia_one PySem.W.kitx_dict I.kIn ⟨o, h1, h2.1⟩ e (fun z => nomatch z) h
  | @dT a kvs ea =>
    cases (show u = Value.ref a from rx)
    obtain ⟨_, _, xs, _, o, es, ep, h1, h2, _⟩ := (show ObjOk X.prog X.w H s.heap a (.dT kvs) from I.hok a _ ea)
    exact PySem.W.kia_one PySem.W.kitx_dict I.kIn ⟨o, h1, h2.1⟩ e (fun z => nomatch z) h
  | @ins a C dx fs ea cl ha hn htk hm =>
    cases (show u = Value.ref a from rx)
    obtain ⟨mA, O, _⟩ := ins_get I.hok ea
    obtain ⟨od, J, _⟩ := O.look
    exact PySem.W.kia_one (PySem.W.kitx_own (cl.get _) cl.hd ha hn htk hm) I.kIn J e (fun z => nomatch z) h
end
end L2

namespace L2
open PySem PySem.Spec PyProof.Rows

/-! ### room -/
structure Room (k : Nat) (A : Around) : Prop where
  hd : A.handled = none
  dp : A.depth + 3 * k + 5 < recursionLimit
  un : A.units + 16 * k + 200 < cLine
theorem Room.mono {j k : Nat} {A : Around} (r : Room k A) (h : j ≤ k) : Room j A := ⟨r.hd, by have := r.dp; omega, by have := r.un; omega⟩
theorem Room.deeper {k : Nat} {A : Around} (r : Room (k + 1) A) (env : Env) : Room k (A.deeper env) :=
  ⟨r.hd, by have := r.dp; show A.depth + 1 + 3 * k + 5 < _; omega, by have := r.un; show A.units + 3 + 16 * k + 200 < _; omega⟩
theorem Room.depth {k : Nat} {A : Around} (r : Room k A) : A.depth < recursionLimit := by have := r.dp; omega

/-! ### argument lists and displays -/
def tNil : TA := fun _ H Q => Q [] H
def tCons (ta : TE) (tr : TA) : TA := fun σ H Q => ta σ H fun x H1 => tr σ H1 fun xs H2 => Q (x :: xs) H2
section
variable {X : Cx} {e : Expr} {es : List Expr} {te : TE} {t : TA} {pos : Pos}
theorem pa_nil : PA X [] tNil := fun _ _ _ _ H Q I h => Calls.spliced_nil ⟨[], H, I, .nil, h⟩
theorem pa_cons (ha : PE X e te) (hr : PA X es t) (hs : starEach (e :: es) X.env = (false, eval e X.env) :: starEach es X.env := by rfl) : PA X (e :: es) (tCons te t) := by
  intro pos pins s σ H Q I h
  rw [hs]
  show wpAny _ _ (spliced ((false, eval e X.env) :: backTo pos (starEach es X.env))) _ _ s
  refine Calls.spliced_cons (thn (ha pins s σ H _ I h) fun u s1 ⟨x, H1, I1, r1, q1⟩ => ?_)
  exact thn (hr pos pins s1 σ H1 _ I1 q1) fun us s2 ⟨xs, H2, I2, r2, q2⟩ => ⟨x :: xs, H2, I2, .cons r1 r2, q2⟩

/-- a tuple, a list of written items -/
def tTup (t : TA) : TE := fun σ H Q => t σ H fun xs H1 => xs.length ≤ sizeLine ∧ ∀ p, H1 p = none → Q (.ref p) (upd H1 p (.tup xs))
def tLst (t : TA) : TE := fun σ H Q => t σ H fun xs H1 => xs.length ≤ sizeLine ∧ ∀ p, H1 p = none → Q (.ref p) (upd H1 p (.lst xs))
theorem pe_tup {x1} (h : PA X es t) : PE X (.Tuple es x1 pos) (tTup t) := by
  intro pins s σ H Q I hq
  refine wpAny_Tuple_spliced (thn (h pos pins s σ H _ I hq) fun us s1 ⟨xs, H1, I1, r, z, q⟩ => ⟨by rw [← r.length]; exact z, ?_⟩)
  have hf : H1 s1.heap.objs.size = none := I1.hok.fresh (Nat.le_refl _)
  refine ⟨.ref s1.heap.objs.size, upd H1 s1.heap.objs.size (.tup xs), I1.laid (t' := s1.toks) (fun b u e => Heap.get?_push_of_some _ e) (Nat.le_refl _) ?_, rfl, q _ hf⟩
  exact ⟨z, us, r, ⟨_, Heap.get?_push_size _ rfl, rfl, _, rfl⟩⟩
theorem pe_lst (h : PA X es t) : PE X (.List es pos) (tLst t) := by
  intro pins s σ H Q I hq
  refine wpAny_List_spliced (thn (h pos pins s σ H _ I hq) fun us s1 ⟨xs, H1, I1, r, z, q⟩ => ⟨by rw [← r.length]; exact z, ?_⟩)
  have hf : H1 s1.heap.objs.size = none := I1.hok.fresh (Nat.le_refl _)
  refine ⟨.ref s1.heap.objs.size, upd H1 s1.heap.objs.size (.lst xs), I1.laid (t' := s1.toks) (fun b u e => Heap.get?_push_of_some _ e) (Nat.le_refl _) ?_, rfl, q _ hf⟩
  exact ⟨z, us, 0, r, Heap.get?_push_size _ rfl⟩
end

/-! ### what a def promises -/
/-- a def's promise: the bound arguments in the parameters' order, the heap, the wanted end, the wanted exception -/
abbrev Sp := List V → Hp → VK → XK → Prop
/-- how an exception lies behind a call (file 08 gives it): the callers' frames, abstract heap and state ahead of the call, the wish, the exception, the state -/
abbrev CXT := List Env → Hp → Shared → XK → Value → Shared → Prop

/-- the state at a call -/
structure Env0 (P : Program) (w : World) (K : PySem.W.Frag) (mg : Str → Option Value) (base : Heap) (A : Around) (outer : List Env) (s : Shared) (H : Hp) : Prop where
  frames : A.frames = some outer
  mod : Mod K mg base
  bs : ∀ b o, base.get? b = some o → s.heap.get? b = some o ∧ H b = none
  bsz : base.objs.size ≤ s.heap.objs.size
  funs : s.heap.FunFrames base outer
  frf : ∀ b ∈ frs outer, H b = none
  hok : HOk P w H s.heap
  bare : AllBare s.gens
/-- a call's end -/
def CE (outer : List Env) (P : Program) (w : World) (H : Hp) (s : Shared) (Q : VK) (u : Value) (s' : Shared) : Prop :=
  ∃ v H', s'.os = s.os ∧ AllBare s'.gens ∧ Un (frs outer) [] H H' s.heap s'.heap ∧ HOk P w H' s'.heap ∧ RelV v u ∧ Q v H'
def CR (CX : CXT) (outer : List Env) (P : Program) (w : World) (H : Hp) (s : Shared) (Q : VK) (E : XK) (r : Result) (s' : Shared) : Prop :=
  match r with
  | .ok (.ret u) => CE outer P w H s Q u s'
  | .ok _ => False
  | .error e => CX outer H s E e s'
structure FnOk (P : Program) (w : World) (K : PySem.W.Frag) (mg : Str → Option Value) (base : Heap) (CX : CXT) (k : Nat) (f : Addr) (fd : FuncData) (ps : List Str) (sp : Sp) : Prop where
  len : ∀ vs H Q E, sp vs H Q E → vs.length = ps.length
  run : ∀ (A : Around) (outer : List Env) (s : Shared) (H : Hp) (args : Args) (us : List Value) (vs : List V) (Q : VK) (E : XK), Room k A → Env0 P w K mg base A outer s H → BindsTo s fd args (ps.zip us) → Vals vs us → sp vs H Q E →
    codeAny (model P w) A (.call (.ref f) args) (CR CX outer P w H s Q E) s


section
variable {X : Cx} {pins : List (Addr × Obj)} {σ : St} {H : Hp} {s s' : Shared}
/-- from a body: what a callee wants -/
theorem Inv.env0 (I : Inv X pins σ H s) : Env0 X.prog X.w X.K X.mg X.base X.A X.stack s H :=
  ⟨I.ok.frames, I.ok.mod, I.bs, Nat.le_trans I.ok.bsz I.sz, I.stack, I.stkFree, I.hok, I.bare⟩
/-- behind a call -/
theorem Inv.after {Q : VK} {u : Value} (I : Inv X pins σ H s) (h : CE X.stack X.prog X.w H s Q u s') : EP X pins σ Q u s' := by
  obtain ⟨v, H', os, bare, un, hok, r, q⟩ := h
  obtain ⟨hh, g, d, t, os'⟩ := s'
  obtain rfl : os' = s.os := os
  exact ⟨v, H', I.call (h' := hh) (g' := g) (d' := d) (t' := t) (ch := []) un hok bare (fun b z => absurd z (by simp)), r, q⟩
end

/-! ### calls -/
/-- f(..): the written arguments, then the defaults dvs; E: what is wanted of an exception -/
def tCall (sp : Sp) (dvs : List V) (E : XK) (t : TA) : TE := fun σ H Q => t σ H fun vs H1 => sp (vs ++ dvs) H1 Q E
/-- o.m(..) of an instance of the class at C -/
def tMeth (C : Addr) (m : Str) (sp : Sp) (dvs : List V) (E : XK) (ta : TE) (t : TA) : TE := fun σ H Q => ta σ H fun x H1 => ∃ a dx fs, x = .ref a ∧ H1 a = some (.ins C dx fs) ∧ fs.lookup m = none ∧
  t σ H1 fun vs H2 => sp (x :: (vs ++ dvs)) H2 Q E
/-- C(..): a new instance and its dict, then __init__ -/
def tMake (C : Addr) (sp : Sp) (dvs : List V) (E : XK) (t : TA) : TE := fun σ H Q => t σ H fun vs H1 => ∀ x dx, H1 x = none → H1 dx = none → dx ≠ x →
  sp (.ref x :: (vs ++ dvs)) (upd (upd H1 dx (.own x)) x (.ins C dx [])) (fun v H2 => v = .non ∧ Q (.ref x) H2) E

/-- how the parameters are bound: us the positional arguments, kw the keywords' values by name, ds the defaults that fill up -/
def Binds (K : PySem.W.Frag) (fd : FuncData) (ps : List Str) (ds : List Value) : Prop :=
  ∀ (s : Shared) (us : List Value), K.In s.heap → (us ++ ds).length = ps.length → BindsTo s fd ⟨us, []⟩ (ps.zip (us ++ ds))
/-- every parameter is given -/
theorem Binds.all {K : PySem.W.Frag} {fd : FuncData} {ps : List Str} (h : ∀ us : List Value, us.length = ps.length → bindArgs fd ⟨us, []⟩ = pure (ps.zip us)) : Binds K fd ps [] := fun s us _ hl => by
  rw [List.append_nil] at hl ⊢
  exact .of_eq (h us hl)

/-- an exception of a callee reaches what this body wants of exceptions -/
def Passes (CX : CXT) (X : Cx) (E : XK) : Prop := ∀ (pins : List (Addr × Obj)) (σ : St) (H : Hp) (s : Shared) (e : Value) (s' : Shared), Inv X pins σ H s → CX X.stack H s E e s' → X.xe e s'

section
variable {X : Cx} {CX : CXT} {k : Nat} {f C : Addr} {fd : FuncData} {ps : List Str} {sp : Sp} {dvs : List V} {ds : List Value} {E : XK} {x m : Str} {p pos apos : Pos} {e o : Expr} {es : List Expr} {ta : TE} {t : TA}




/-- what a class must have to be made -/
structure Mk (K : PySem.W.Frag) (C f : Addr) : Prop where
  makes : PySem.W.makesIn K C = true
  init : PySem.W.findIn K (.ref C) "__init__" = some (some (.ref f))
  fn : PySem.W.isFn K (.ref f) = true
  kp : PySem.W.keepIn K (.ref C) = true

end

/-! ### keywords -/
/-- the values of the keywords, from the left -/
def PK (X : Cx) (kws : List Keyword) (t : TA) : Prop :=
  ∀ (pos : Pos) (pins : List (Addr × Obj)) (s : Shared) (σ : St) (H : Hp) (Q : List V → Hp → Prop), Inv X pins σ H s → t σ H Q → wpAny (model X.prog X.w) X.A (evalAll ((backToKw pos (keywordEach kws X.env)).map (·.2))) (AP X pins σ Q) X.xe s
section
variable {X : Cx} {CX : CXT} {k : Nat} {f C : Addr} {fd : FuncData} {ps ks : List Str} {sp : Sp} {E : XK} {x m : Str} {p pos apos kpos : Pos} {e o : Expr} {es : List Expr} {kws : List Keyword} {te ta : TE} {t tk : TA} {nm : Option Str}

/-- how a call with keywords binds: g puts the positional values us and the keywords' values ws (names ks) in the parameters' order, defaults among them -/
structure KBinds (K : PySem.W.Frag) (fd : FuncData) (ps ks : List Str) (g : List Value → List Value → List Value) (gV : List V → List V → List V) : Prop where
  to : ∀ (s : Shared) (us ws : List Value), K.In s.heap → (g us ws).length = ps.length → BindsTo s fd ⟨us, ks.zip ws⟩ (ps.zip (g us ws))
  rel : ∀ {vs : List V} {us : List Value} {zs : List V} {ws : List Value}, Vals vs us → Vals zs ws → Vals (gV vs zs) (g us ws)
def tCallK (sp : Sp) (gV : List V → List V → List V) (E : XK) (t tk : TA) : TE := fun σ H Q => t σ H fun vs H1 => tk σ H1 fun zs H2 => sp (gV vs zs) H2 Q E
variable {g : List Value → List Value → List Value} {gV : List V → List V → List V}
end

/-! ### a def's body keeps its promise -/
/-- names: the parameters first -/
structure FnScope (N P : List Str) (sc : Scope) : Prop where
  kind : sc.kind = .function
  co : sc.isCoroutine = false
  gen : sc.isGenerator = false
  nd : N.Nodup
  pre : N.take P.length = P
  par : ∀ x ∈ P, sc.names.lookup x = some .local ∨ sc.names.lookup x = some .cell
  nofree : ∀ y ∈ sc.names, y.2 ≠ .free

theorem bindL_out {kindOf : Str → Option NameKind} {x : Str} : ∀ {binds : List (Str × Value)} {m : Str → Option Value}, (∀ v, (x, v) ∉ binds) → bindL kindOf binds m x = m x
  | [], _, _ => rfl
  | (n, v) :: r, m, h => by
    unfold bindL
    rw [bindL_out fun w hw => h w (List.mem_cons_of_mem _ hw)]
    split
    · have : x ≠ n := by rintro rfl; exact h v List.mem_cons_self
      simp [this]
    · rfl
theorem bindC_out {kindOf : Str → Option NameKind} {x : Str} : ∀ {binds : List (Str × Value)} {m : Str → Option Value}, (∀ v, (x, v) ∉ binds) → bindC kindOf binds m x = m x
  | [], _, _ => rfl
  | (n, v) :: r, m, h => by
    unfold bindC
    rw [bindC_out fun w hw => h w (List.mem_cons_of_mem _ hw)]
    split
    · rfl
    · have : x ≠ n := by rintro rfl; exact h v List.mem_cons_self
      simp [this]
theorem bindL_get {kindOf : Str → Option NameKind} {x : Str} {v : Value} : ∀ {P : List Str} {vs : List Value} {i : Nat} {m : Str → Option Value}, P.Nodup → P[i]? = some x → vs[i]? = some v → kindOf x = some .local →
    bindL kindOf (P.zip vs) m x = some v
  | [], _, _, _, _, h, _, _ => by simp at h
  | _ :: _, [], _, _, _, _, h, _ => by simp at h
  | p :: P, w :: vs, 0, m, nd, h1, h2, hk => by
    simp at h1 h2; subst h1; subst h2
    show bindL kindOf ((p, w) :: P.zip vs) m p = _
    unfold bindL
    rw [bindL_out fun v hv => (List.nodup_cons.mp nd).1 (List.of_mem_zip hv).1, if_pos hk]
    simp
  | p :: P, w :: vs, i + 1, m, nd, h1, h2, hk => by
    show bindL kindOf ((p, w) :: P.zip vs) m x = _
    unfold bindL
    exact bindL_get (i := i) (List.nodup_cons.mp nd).2 (by simpa using h1) (by simpa using h2) hk
theorem bindC_get {kindOf : Str → Option NameKind} {x : Str} {v : Value} : ∀ {P : List Str} {vs : List Value} {i : Nat} {m : Str → Option Value}, P.Nodup → P[i]? = some x → vs[i]? = some v → kindOf x ≠ some .local →
    bindC kindOf (P.zip vs) m x = some v
  | [], _, _, _, _, h, _, _ => by simp at h
  | _ :: _, [], _, _, _, _, h, _ => by simp at h
  | p :: P, w :: vs, 0, m, nd, h1, h2, hk => by
    simp at h1 h2; subst h1; subst h2
    show bindC kindOf ((p, w) :: P.zip vs) m p = _
    unfold bindC
    rw [bindC_out fun v hv => (List.nodup_cons.mp nd).1 (List.of_mem_zip hv).1, if_neg hk]
    simp
  | p :: P, w :: vs, i + 1, m, nd, h1, h2, hk => by
    show bindC kindOf ((p, w) :: P.zip vs) m x = _
    unfold bindC
    exact bindC_get (i := i) (List.nodup_cons.mp nd).2 (by simpa using h1) (by simpa using h2) hk

/-- the names' values at the entry -/
def start (N : List Str) (vs : List V) : St := vs.map some ++ List.replicate (N.length - vs.length) none

/-- the context of a def's body, at its entry; an exception leaves the frame, then lies as CX says -/
def cxOf (CX : CXT) (P : Program) (w : World) (K : PySem.W.Frag) (mg : Str → Option Value) (base : Heap) (N : List Str) (qual : Str) (scope : Scope) (f : Addr) (cd : Value) (A : Around) (outer : List Env) (s : Shared) (H : Hp) (E : XK) : Cx where
  prog := P
  w := w
  K := K
  mg := mg
  base := base
  A := A.deeper (envOfC qual scope s.heap.objs.size f cd)
  N := N
  s₀ := s
  H₀ := H
  env := envOfC qual scope s.heap.objs.size f cd
  outer := outer
  stack := envOfC qual scope s.heap.objs.size f cd :: outer
  ex := []
  calm := true
  fn := fun _ => true
  pn := []
  xe := fun e s' => wpAny (model P w) (A.deeper (envOfC qual scope s.heap.objs.size f cd)) (leaving (envOfC qual scope s.heap.objs.size f cd) e) (fun _ s'' => CX outer H s E e s'') (fun e' s'' => CX outer H s E e' s'') s'

theorem cell_has {sc : Scope} {n : Nat} {x : Str} (h : sc.names.lookup x = some .cell) : ∃ c, (cellsFrom n sc.names []).lookup x = some c := by
  have q := PySem.W.cellsFrom_some sc.names n [] (.inl h)
  exact Option.isSome_iff_exists.mp q

theorem inv_start {CX : CXT} {P : Program} {w : World} {K : PySem.W.Frag} {mg : Str → Option Value} {base : Heap} {N ps : List Str} {qual : Str} {scope : Scope} {f : Addr} {cd : Value} {A : Around} {outer : List Env} {s s1 : Shared} {H : Hp} {E : XK} {us : List Value} {vs : List V}
    (S : FnScope N ps scope) (hd : A.handled = none) (e0 : Env0 P w K mg base A outer s H) (hl : vs.length = ps.length) (r : Vals vs us)
    (x : InCallC s s.heap.objs.size (bindL (envOfC qual scope s.heap.objs.size f cd).kindOf (ps.zip us) fun _ => none) (cellsFrom (s.heap.objs.size + 1) scope.names []) (bindC (envOfC qual scope s.heap.objs.size f cd).kindOf (ps.zip us) fun _ => none) s1) :
    Inv (cxOf CX P w K mg base N qual scope f cd A outer s H E) [] (start N vs) H s1 := by
  have hpl : ps.length ≤ N.length := by have := congrArg List.length S.pre; rw [List.length_take] at this; omega
  obtain ⟨h1, tk, rfl, hk⟩ := x.done
  have noA : ∀ b : Addr, b ∉ (cxOf CX P w K mg base N qual scope f cd A outer s H E).ex := fun b z => absurd (show b ∈ ([] : List Addr) from z) (by simp)
  refine ⟨⟨e0.mod, S.kind, rfl, rfl, Nat.le_refl _, fun y z c h1 h2 => ?_, fun y hy => ?_, fun y c _ h => ?_, fun _ => hd, Around.frames_deeper e0.frames, .inr ⟨rfl, rfl⟩, fun b z => absurd z (noA b), e0.bs, e0.bsz, fun b _ _ => noA b, fun b z => absurd z (noA b), e0.funs, e0.frf⟩,
    rfl, e0.bare, Un.kept hk, ⟨_, x.toInCall.ns, fun i y v h1 h2 h3 => ?_⟩, fun y c h => ⟨_, x.cell y c h⟩, e0.hok.fresh (Nat.le_refl _), fun y c h => ?_, fun p hp => absurd (show p ∈ ([] : List (Addr × Obj)) from hp) (by simp), e0.hok.kept hk, ?_⟩
  · exact name_of_addr x.apart (PySem.mem_of_lookup h1) (PySem.mem_of_lookup h2)
  · have hy : scope.names.lookup y = some .cell ∨ scope.names.lookup y = some .free := hy
    rcases hy with hy | hy
    · exact cell_has hy
    · exact absurd rfl (S.nofree _ (PySem.mem_of_lookup hy))
  · exact Nat.le_of_lt (x.above y c (PySem.mem_of_lookup h))
  · have hi : i < vs.length := by
      unfold start at h2
      by_cases hi : i < vs.length
      · exact hi
      · rw [List.getElem?_append_right (by simpa using hi)] at h2
        rw [List.getElem?_replicate] at h2
        split at h2 <;> cases h2
    have ha : vs[i]? = some v := by
      unfold start at h2
      rw [List.getElem?_append_left (by simpa using hi), List.getElem?_map] at h2
      cases e : vs[i]? with
      | none => rw [e] at h2; cases h2
      | some a => rw [e] at h2; cases h2; rfl
    obtain ⟨u, hu, rv⟩ := r.get ha
    have hp : ps[i]? = some y := by
      rw [← S.pre, List.getElem?_take_of_lt (by omega)]; exact h1
    have ndP : ps.Nodup := by rw [← S.pre]; exact S.nd.sublist (List.take_sublist _ _)
    refine ⟨u, rv, ?_⟩
    rcases S.par y (List.mem_of_getElem? hp) with k | k
    · exact .inl ⟨k, bindL_get ndP hp hu k⟩
    · obtain ⟨c, e⟩ := cell_has (n := s.heap.objs.size + 1) k
      refine .inr ⟨.inl k, c, e, ?_⟩
      have q := x.cell y c e
      rw [bindC_get ndP hp hu (by show scope.names.lookup y ≠ _; rw [k]; decide)] at q
      exact q
  · exact e0.hok.fresh (Nat.le_of_lt (x.above y c (PySem.mem_of_lookup h)))
  · unfold start
    show _ = N.length
    rw [List.length_append, List.length_map, List.length_replicate]
    omega

/-- THE RULE: a def (or a method) of the text, by its body. The body's reading t is chosen for each entry; it is run at the parameters' values -/
theorem fn_of {CX : CXT} {P : Program} {w : World} {K : PySem.W.Frag} {mg : Str → Option Value} {base : Heap} {k : Nat} {f : Addr} {name qual : Str} {params : Arguments} {body : List Stmt} {scope : Scope} {dV kV doc pm cdv ct oc : Value} {an od : Option Addr}
    {osl : Array (Option Value)} {N ps : List Str} {sp : Sp} (lk : K.lookup f = some ⟨oc, od, .func (PySem.W.fnOf name qual params body scope dV kV doc pm an cdv ct), osl⟩) (hcd : PySem.W.codeIn K cdv qual = true) (S : FnScope N ps scope)
    (len : ∀ vs H Q E, sp vs H Q E → vs.length = ps.length)
    (hbody : ∀ (A : Around) (outer : List Env) (s : Shared) (H : Hp) (vs : List V) (Q : VK) (E : XK), Room k (A.deeper (envOfC qual scope s.heap.objs.size f cdv)) → sp vs H Q E →
      ∃ t, PSs (cxOf CX P w K mg base N qual scope f cdv A outer s H E) body t ∧ t { nx := fun _ H' => Q .non H', rt := Q } (start N vs) H) :
    FnOk P w K mg base CX (k + 1) f (PySem.W.fnOf name qual params body scope dV kV doc pm an cdv ct) ps sp := by
  refine ⟨len, fun A outer s H args us vs Q E hr e0 hb r hsp => ?_⟩
  have hl := len _ _ _ _ hsp
  have KX : K.In s.heap := e0.mod.kin.keeps fun b o e => (e0.bs b o e).1
  have lim : s.heap.NoLimit := e0.mod.nolimit.keeps fun b o e => (e0.bs b o e).1
  have hkind : ∀ y ∈ ps.zip us, scope.names.lookup y.1 = some .local ∨ (scope.names.lookup y.1 = some .cell ∧ ((cellsFrom (s.heap.objs.size + 1) scope.names []).lookup y.1).isSome = true) := fun ⟨n, v⟩ hy => by
    rcases S.par n (List.of_mem_zip hy).1 with q | q
    · exact .inl q
    · exact .inr ⟨q, PySem.W.cellsFrom_some _ _ _ (.inl q)⟩
  refine codeAny_call_function hr.depth (KX _ _ lk) rfl S.co S.gen rfl (PySem.W.codeRec_of KX hcd) (hb _ _ _ _ ?_)
  refine wpAny_newFunctionEnv_cells S.kind hkind fun env he s1 x => ?_
  subst he
  refine ⟨lim.keeps x.toInCall.keep, codeAny_func ?_⟩
  obtain ⟨t, ht, hq⟩ := hbody A outer s H vs Q E (hr.deeper _) hsp
  have I : Inv (cxOf CX P w K mg base N qual scope f cdv A outer s H E) [] (start N vs) H s1 := inv_start S hr.hd e0 hl r x
  refine wpAny_mono (ht [] s1 (start N vs) H _ I hq) (fun fl s' hs => ?_) fun e s' hs => hs
  have fin : ∀ {σ' : St} {H' : Hp} {v : V} {u : Value}, Inv (cxOf CX P w K mg base N qual scope f cdv A outer s H E) [] σ' H' s' → RelV v u → Q v H' → CE outer P w H s Q u s' :=
    fun {σ' H' v u} J rv q => ⟨v, H', J.os, J.bare, J.base, J.hok, rv, q⟩
  cases fl with
  | ret u =>
    obtain ⟨v, σ', H', J, rv, q⟩ := hs
    exact fin J rv q
  | next =>
    obtain ⟨σ', H', J, q⟩ := hs
    exact fin (v := V.non) (u := Value.none) J rfl q
  | brk =>
    obtain ⟨_, _, _, q⟩ := hs
    exact False.elim q
  | cont =>
    obtain ⟨_, _, _, q⟩ := hs
    exact False.elim q
end L2

namespace L2
open PySem PySem.Spec PyProof.Rows
section
variable {X : Cx} {x : Str} {p pos : Pos} {e : Expr} {es : List Expr} {t : TA} {id T : String} {r : List V → Hp → VK → Prop}

def tCB (r : List V → Hp → VK → Prop) (t : TA) : TE := fun σ H Q => t σ H fun vs H1 => r vs H1 Q
/-- f(e, ..), f a built-in function -/
theorem pe_callB (hc : CallR X (.builtin id) r) (hg : Gl X x) (hm : X.mg x = none) (hv : bootBuiltins x = some (.builtin id)) (ha : PA X (e :: es) t) (hn : x ≠ "__name__" := by decide) (hdb : (x == ("__debug__" : Str)) = false := by decide)
    (he : starEach (e :: es) X.env = (false, eval e X.env) :: starEach es X.env := by rfl) (hpl : (backTo pos (starEach es X.env)).any (·.1) = false := by rfl) : PE X (.Call (.Name x p) (e :: es) [] pos) (tCB r t) := by
  intro pins s σ H Q I h
  refine wpAny_Call_Name_kw (ld_blt I hg hm hv ?_ hn hdb)
  exact PyProof.Rows.callWith_builtin1 (thn (ha pos pins s σ H _ I h) fun us s1 ⟨vs, H1, I1, r1, q1⟩ => hc pins s1 σ H1 vs us Q I1 r1 q1) he hpl
/-- T(e, ..), T a built-in type -/
theorem pe_callTy (hc : CallR X (.type T) r) (hg : Gl X x) (hm : X.mg x = none) (hv : bootBuiltins x = some (.type T)) (ha : PA X (e :: es) t) (hn : x ≠ "__name__" := by decide) (hdb : (x == ("__debug__" : Str)) = false := by decide)
    (he : starEach (e :: es) X.env = (false, eval e X.env) :: starEach es X.env := by rfl) (hpl : (backTo pos (starEach es X.env)).any (·.1) = false := by rfl) : PE X (.Call (.Name x p) (e :: es) [] pos) (tCB r t) := by
  intro pins s σ H Q I h
  refine wpAny_Call_Name_kw (ld_blt I hg hm hv ?_ hn hdb)
  exact PyProof.Rows.callWith_type1 (thn (ha pos pins s σ H _ I h) fun us s1 ⟨vs, H1, I1, r1, q1⟩ => hc pins s1 σ H1 vs us Q I1 r1 q1) he hpl
end
end L2

namespace HT
open PySem PyProof.Rows

/-- t < u of tuples of ints -/
def lexLt : List Int → List Int → Bool
  | [], [] => false
  | [], _ :: _ => true
  | _ :: _, [] => false
  | x :: xs, y :: ys => if x = y then lexLt xs ys else decide (x < y)


section
open PySem.SeqAt
open PySem.AutoSeq1 (wpAny_loadPart')
open PySem.MeetsSeq PySem.MeetsSeq2 PySem.MeetsSeq3

end

section
variable {prog : Program} {w : World} {A : Around} {E : Value → Shared → Prop} {s : Shared}


/-- t + u, t not empty -/
theorem cat_tup {t b : Addr} {vs ws : List Value} {Q : Value → Shared → Prop} (ht : IsTup s.heap t vs.toArray) (hb : IsTup s.heap b ws.toArray) (hv : vs ≠ [])
    (h1 : ws = [] → Q (.ref t) s) (h2 : ws ≠ [] → Q (.ref s.heap.objs.size) { s with heap := s.heap.push { cls := .type "tuple", data := .seq (vs ++ ws).toArray } })
    (hsz : vs.length + ws.length ≤ sizeLine) : wpAny (model prog w) A (binaryOp .Add (.ref t) (.ref b)) Q E s := by
  obtain ⟨⟨cls, dd, data, sl⟩, ho, hc, n, hd⟩ := id ht
  obtain ⟨⟨cls2, dd2, data2, sl2⟩, ho2, hc2, n2, hd2⟩ := id hb
  simp only at hc hd hc2 hd2
  subst hc hd hc2 hd2
  have e : vs.toArray ++ ws.toArray = (vs ++ ws).toArray := by simp
  by_cases hw : ws = []
  · exact concat_meets ⟨_, ho, rfl⟩ ⟨_, ho2, rfl⟩ noFill_tuple_add seq_tuple_add PySem.F.slot_tuple_add PySem.F.entry_tuple_add (PySem.F.args_tuple_add_2 _ _)
      (tuple_addW1 t b vs.toArray ws.toArray n n2 dd dd2 sl sl2 (by simpa using hv) (by simp [hw])) ⟨ho, ho2, h1 hw⟩
  · refine concat_meets ⟨_, ho, rfl⟩ ⟨_, ho2, rfl⟩ noFill_tuple_add seq_tuple_add PySem.F.slot_tuple_add PySem.F.entry_tuple_add (PySem.F.args_tuple_add_2 _ _)
      (tuple_addW2 t b vs.toArray ws.toArray n n2 dd dd2 sl sl2 (by simpa using hv) (by simpa using hw) (by rw [List.size_toArray, List.size_toArray]; exact hsz)) ⟨ho, ho2, ?_⟩
    rw [e]
    exact h2 hw

/-! ### t[a:b], not the whole -/
/-- a slice's bound as a place among n (d where it is left out) -/
def sIx (n d : Nat) : Option Int → Nat
  | none => d
  | some v => if v < 0 then (v + (n : Int)).toNat else min v.toNat n
theorem sIx_le (n d : Nat) (hd : d ≤ n) (o : Option Int) : sIx n d o ≤ n := by
  cases o with
  | none => exact hd
  | some v =>
    show (if v < 0 then (v + (n : Int)).toNat else min v.toNat n) ≤ n
    by_cases hv : v < 0
    · rw [if_pos hv]; omega
    · rw [if_neg hv]; exact Nat.min_le_right _ _
theorem clip_eq (v : Int) (n d : Nat) : (if v < 0 then max (v + (n : Int)) 0 else min v (n : Int)) = ((sIx n d (some v) : Nat) : Int) := by
  show (if v < 0 then max (v + (n : Int)) 0 else min v (n : Int)) = (((if v < 0 then (v + (n : Int)).toNat else min v.toNat n) : Nat) : Int)
  by_cases hv : v < 0
  · simp only [if_pos hv]; omega
  · simp only [if_neg hv]; omega
theorem adjust_gen (lo hi : Option Int) (n : Nat) : Builtin.Slice.sliceAdjust lo hi 1 (n : Int) = (((sIx n 0 lo : Nat) : Int), ((sIx n n hi : Nat) : Int)) := by
  have h1 : ¬ ((1 : Int) < 0) := by omega
  unfold Builtin.Slice.sliceAdjust
  simp only [h1, if_false]
  refine Prod.ext ?_ ?_
  · cases lo with
    | none => rfl
    | some v => exact clip_eq v n 0
  · cases hi with
    | none => rfl
    | some v => exact clip_eq v n n
theorem places_gen (i j : Nat) : Builtin.Slice.slicePlaces (i : Int) (j : Int) 1 = j - i := by
  unfold Builtin.Slice.slicePlaces
  have h1 : (1 : Int) > 0 := by omega
  simp only [h1, if_true, Int.ediv_one]
  split <;> omega
theorem slicePart_ {v : Value} {o : Option Int} {Q : Option Int → Shared → Prop} (p : IsPart v o) (h : Q o s) : wpAny (model prog w) A (Builtin.Slice.slicePartIndex v) Q E s := by
  cases p with
  | none => exact slicePart_none h
  | int i t => exact slicePart_int h
theorem sliceApplied_gen {sl : Addr} {vl vu : Value} {lo hi : Option Int} {n : Nat} {Q : Int × Int × Nat → Shared → Prop} (hs : s.heap.IsSliceOf sl vl vu .none) (pl : IsPart vl lo) (pu : IsPart vu hi)
    (h : Q (((sIx n 0 lo : Nat) : Int), 1, sIx n n hi - sIx n 0 lo) s) : wpAny (model prog w) A (Builtin.Slice.sliceApplied (.ref sl) (pure (n : Int))) Q E s := by
  obtain ⟨os, hos, hcs, hds⟩ := id hs
  unfold Builtin.Slice.sliceApplied Builtin.Slice.sliceFields
  refine wpAny_bind (wpAny_bind (wpAny_field hos hds (x := vl) rfl (wpAny_bind (wpAny_field hos hds (x := vu) rfl (wpAny_bind (wpAny_field hos hds (x := .none) rfl (wpAny_pure ?_)))))))
  refine wpAny_bind (slicePart_none ?_)
  show wpAny _ _ (if ((1 : Int) == 0) = true then _ else _) _ _ s
  rw [if_neg (by decide)]
  refine wpAny_bind (slicePart_ pl (wpAny_bind (slicePart_ pu (wpAny_bind (wpAny_pure ?_)))))
  show wpAny _ _ (match Builtin.Slice.sliceAdjust lo hi 1 (n : Int) with | (lo, hi) => pure (lo, (1 : Int), Builtin.Slice.slicePlaces lo hi 1)) _ _ s
  rw [adjust_gen lo hi n]
  show wpAny _ _ (pure (((sIx n 0 lo : Nat) : Int), (1 : Int), Builtin.Slice.slicePlaces ((sIx n 0 lo : Nat) : Int) ((sIx n n hi : Nat) : Int) 1)) _ _ s
  rw [places_gen]
  exact wpAny_pure h
theorem pick_gen (xs : Array Value) (i k : Nat) : ((List.range k).filterMap fun (m : Nat) => xs[((i : Int) + (m : Int) * 1).toNat]?).toArray = ((xs.toList.drop i).take k).toArray := by
  have e : (fun (m : Nat) => xs[((i : Int) + (m : Int) * 1).toNat]?) = fun m => xs[i + m]? := by
    funext m
    have : ((i : Int) + (m : Int) * 1).toNat = i + m := by omega
    rw [this]
  rw [e]
  have := pick_run xs i k
  rw [List.filterMap_map] at this
  have e2 : ((fun x => xs[x]?) ∘ fun x => i + x) = fun m => xs[i + m]? := rfl
  rw [e2] at this
  rw [this]

theorem getItem_tuple_cut {t sl : Addr} {items : Array Value} {vl vu : Value} {lo hi : Option Int} {Q : Value → Shared → Prop} (ht : IsTup s.heap t items) (hs : s.heap.IsSliceOf sl vl vu .none) (pl : IsPart vl lo) (pu : IsPart vu hi)
    (hw : ¬ (sIx items.size 0 lo = 0 ∧ sIx items.size items.size hi = items.size))
    (h : Q (.ref s.heap.objs.size) { s with heap := s.heap.push { cls := .type "tuple", data := .seq ((items.toList.drop (sIx items.size 0 lo)).take (sIx items.size items.size hi - sIx items.size 0 lo)).toArray } })
    (hsz : items.size ≤ sizeLine) : wpAny (model prog w) A (getItem (.ref t) (.ref sl)) Q E s := by
  have htake : sizeOk (.seq ((items.toList.drop (sIx items.size 0 lo)).take (sIx items.size items.size hi - sIx items.size 0 lo)).toArray) := by
    show ((items.toList.drop (sIx items.size 0 lo)).take (sIx items.size items.size hi - sIx items.size 0 lo)).toArray.size ≤ sizeLine
    rw [List.size_toArray, List.length_take, List.length_drop, Array.length_toList]
    omega
  have hj : sIx items.size items.size hi ≤ items.size := sIx_le _ _ (Nat.le_refl _) hi
  obtain ⟨os, hos, hcs, hds⟩ := id hs
  have hTs : s.TypeIs (.ref sl) "slice" := ⟨os, hos, hcs⟩
  unfold getItem
  try with_reducible refine wpAny_holding ?_
  first | refine wpAny_bind (wpAny_pure ?_) | skip
  refine wpAny_bind (wpAny_sequenceKey ht.typeIs (by decide) ?_)
  refine wpAny_bind (wpAny_callSpecial?_slot (name := Str.ofString "__getitem__") ht.typeIs PyProof.Rows.slot_tuple_getitem
    (wpAny_call_entry PyProof.Rows.slot_tuple_getitem ht.typeIs entry_tuple_getitem ?_ (args_tuple_getitem _ _)))
  show wpAny _ _ (Builtin.Tuple.tupleItemsOf (.ref t) >>= _) _ _ s
  refine wpAny_bind (tupleItemsOf_ ht ?_)
  refine wpAny_bind (wpAny_typeOf hTs ?_)
  rw [if_pos (by decide)]
  refine wpAny_bind (sliceApplied_gen hs pl pu ?_)
  have hno : ¬ ((((sIx items.size 0 lo : Nat) : Int) == 0 && (1 : Int) == 1 && (sIx items.size items.size hi - sIx items.size 0 lo) == items.size) = true) := by
    intro q
    rw [Bool.and_eq_true, Bool.and_eq_true] at q
    have q1 : ((sIx items.size 0 lo : Nat) : Int) = 0 := eq_of_beq q.1.1
    have q2 : sIx items.size items.size hi - sIx items.size 0 lo = items.size := eq_of_beq q.2
    exact hw ⟨by omega, by omega⟩
  show wpAny _ _ (if (((sIx items.size 0 lo : Nat) : Int) == 0 && (1 : Int) == 1 && (sIx items.size items.size hi - sIx items.size 0 lo) == items.size) = true then _ else _) _ _ s
  rw [if_neg hno, pick_gen]
  first
    | exact wpAny_bind (m := Builtin.Tuple.tupleExact _) (wpAny_newObj_type (wpAny_pure ⟨_, rfl, wpAny_pure h⟩) htake)
    | exact wpAny_bind (m := Builtin.Tuple.tupleExact _) (wpAny_newObj_type (wpAny_bind (wpAny_pure (wpAny_pure ⟨_, rfl, wpAny_pure h⟩))) htake)
    | exact wpAny_bind (wpAny_bind (m := Builtin.Tuple.tupleExact _) (wpAny_newObj_type (wpAny_pure (wpAny_pure ⟨_, rfl, wpAny_pure h⟩)) htake))
    | exact wpAny_bind (wpAny_bind (m := Builtin.Tuple.tupleExact _) (wpAny_newObj_type (wpAny_pure ⟨_, rfl, wpAny_pure h⟩) htake))
end
end HT

namespace L2
open PySem PySem.Spec PyProof.Rows

/-! ### the parts of a slice -/
abbrev TO := St → Hp → (Option Int → Hp → Prop) → Prop
/-- a slice's part (left out, or an int) -/
def PO (X : Cx) (e : Option Expr) (t : TO) : Prop :=
  ∀ (pins : List (Addr × Obj)) (s : Shared) (σ : St) (H : Hp) (Q : Option Int → Hp → Prop), Inv X pins σ H s → t σ H Q →
    wpAny (model X.prog X.w) X.A (evalPart e X.env) (fun u s' => ∃ o H', Inv X pins σ H' s' ∧ IsPart u o ∧ Q o H') X.xe s
def tNoPart : TO := fun _ H Q => Q none H
def tPart (t : TE) : TO := fun σ H Q => t σ H fun x H1 => ∃ i, x = .int i ∧ Q (some i) H1


section
variable {X : Cx} {e : Expr} {te : TE} {lo hi : Option Expr} {tl th : TO} {pos p2 : Pos}

theorem po_none : PO X none tNoPart := by
  intro pins s σ H Q I h
  rw [evalPart_none]
  exact wpAny_pure ⟨none, H, I, .none, h⟩
theorem po_some (h : PE X e te) : PO X (some e) (tPart te) := by
  intro pins s σ H Q I hw
  rw [evalPart_some]
  refine thn (h pins s σ H _ I hw) fun u s1 ⟨x, H1, I1, r1, q1⟩ => ?_
  obtain ⟨i, rfl, q⟩ := q1
  obtain ⟨t, rfl⟩ := r1
  exact ⟨some i, H1, I1, .int i t, q⟩

/-- what a slice of a value is, by values: the slice object stands at sl -/
def SlR (X : Cx) (r : V → Option Int → Option Int → Hp → VK → Prop) : Prop :=
  ∀ (pins : List (Addr × Obj)) (s : Shared) (σ : St) (H : Hp) (x : V) (v vl vu : Value) (lo hi : Option Int) (sl : Addr) (Q : VK), Inv X pins σ H s → RelV x v → s.heap.IsSliceOf sl vl vu .none → IsPart vl lo → IsPart vu hi → r x lo hi H Q →
    ∃ T id, typeLookup (.type T) "__getitem__" = pure (some (.builtin id)) ∧ s.TypeIs v T ∧ wpAny (model X.prog X.w) X.A (getItem v (.ref sl)) (EP X pins σ Q) X.xe s
def tSl (r : V → Option Int → Option Int → Hp → VK → Prop) (te : TE) (tl th : TO) : TE := fun σ H Q => te σ H fun x H1 => tl σ H1 fun l H2 => th σ H2 fun u H3 => r x l u H3 Q
/-- a[lo:hi], any a -/
theorem pe_slice {r : V → Option Int → Option Int → Hp → VK → Prop} (hr : SlR X r) (he : PE X e te) (hl : PO X lo tl) (hu : PO X hi th) : PE X (.Subscript e (.Slice lo hi none p2) pos) (tSl r te tl th) := by
  intro pins s σ H Q I h
  refine Subscript_ (thn (he pins s σ H _ I h) fun v s1 ⟨x, H1, I1, r1, q1⟩ => ?_)
  refine wpAny_Slice (thn (hl pins s1 σ H1 _ I1 q1) fun vl s2 ⟨l, H2, I2, pl, q2⟩ => thn (hu pins s2 σ H2 _ I2 q2) fun vu s3 ⟨u, H3, I3, pu, q3⟩ => ?_)
  rw [evalPart_none]
  refine wpAny_pure ?_
  have I4 : Inv X pins σ H3 { s3 with heap := s3.heap.push { cls := .type "slice", data := .fields #[vl, vu, .none] } } := I3.kept (t' := s3.toks) fun b ob q => Heap.get?_push_of_some _ q
  obtain ⟨T, id, hT, ht, hg⟩ := hr pins { s3 with heap := s3.heap.push { cls := .type "slice", data := .fields #[vl, vu, .none] } } σ H3 x v vl vu l u s3.heap.objs.size Q I4 r1 (Heap.IsSliceOf.new ..) pl pu q3
  show wpAny (model X.prog X.w) X.A (subscriptTail e (.Slice lo hi none p2) v (.ref s3.heap.objs.size)) (EP X pins σ Q) X.xe { s3 with heap := s3.heap.push { cls := .type "slice", data := .fields #[vl, vu, .none] } }
  exact tail_any (ops := [.ref s3.heap.objs.size, v]) ht hT hg (by with_unfolding_all rfl)

/-- the items of xs[lo:hi] -/
def cutV (xs : List V) (lo hi : Option Int) : List V := (xs.drop (HT.sIx xs.length 0 lo)).take (HT.sIx xs.length xs.length hi - HT.sIx xs.length 0 lo)
theorem cutV_length (xs : List V) (lo hi : Option Int) : (cutV xs lo hi).length ≤ xs.length := by
  unfold cutV
  rw [List.length_take, List.length_drop]
  omega
/-- t[lo:hi], not the whole of it (the whole would be t itself) -/
def rSlT (K : PySem.W.Frag) : V → Option Int → Option Int → Hp → VK → Prop := fun x lo hi H Q => ∃ a xs, x = .ref a ∧ SqT K H a xs ∧
  ¬ (HT.sIx xs.length 0 lo = 0 ∧ HT.sIx xs.length xs.length hi = xs.length) ∧ ∀ p, H p = none → Q (.ref p) (upd H p (.tup (cutV xs lo hi)))
theorem sl_tup : SlR X (rSlT X.K) := by
  intro pins s σ H x v vl vu lo hi sl Q I rx hs pl pu h
  obtain ⟨a, xs, rfl, hx, hw, q⟩ := h
  cases rx
  obtain ⟨its, r, ht, hz⟩ := I.tuple hx
  have hlen : its.toArray.size = xs.length := by rw [List.size_toArray]; exact r.length.symm
  refine ⟨"tuple", _, PyProof.Rows.slot_tuple_getitem.lookup, ht.typeIs, ?_⟩
  refine HT.getItem_tuple_cut ht hs pl pu (by rw [hlen]; exact hw) ?_ (by rw [hlen]; exact hz)
  rw [hlen]
  refine ⟨.ref s.heap.objs.size, _, I.laid (t' := s.toks) (o := .tup (cutV xs lo hi)) (fun b ob q => Heap.get?_push_of_some _ q) (Nat.le_refl _) ?_, rfl, q _ (I.hok.fresh (Nat.le_refl _))⟩
  exact ⟨Nat.le_trans (cutV_length xs lo hi) hz, _, (r.drop (HT.sIx xs.length 0 lo)).take (HT.sIx xs.length xs.length hi - HT.sIx xs.length 0 lo), IsTup.new _ _⟩

/-! ### t < u, t + u -/
def rLtT (K : PySem.W.Frag) : R2 := fun x y H Q => ∃ a b ns ms, x = .ref a ∧ y = .ref b ∧ SqT K H a (ns.map V.int) ∧ SqT K H b (ms.map V.int) ∧ Q (.bl (HT.lexLt ns ms)) H
/-- t + u, t not empty: u empty gives t itself -/
def rCatT (K : PySem.W.Frag) : R2 := fun x y H Q => ∃ a b xs ys, x = .ref a ∧ y = .ref b ∧ SqT K H a xs ∧ SqT K H b ys ∧ xs ≠ [] ∧ xs.length + ys.length ≤ sizeLine ∧
  (ys = [] → Q (.ref a) H) ∧ (ys ≠ [] → ∀ p, H p = none → Q (.ref p) (upd H p (.tup (xs ++ ys))))
theorem Vals.nil_iff {xs : List V} {us : List Value} (r : Vals xs us) : us = [] ↔ xs = [] := by
  cases r with
  | nil => simp
  | cons _ _ => simp
theorem op_catT : OpR X (binaryOp .Add) (rCatT X.K) := by
  intro pins s σ H x y v u Q I rx ry h
  obtain ⟨a, b, xs, ys, rfl, rfl, ha, hb, hx, hz, q1, q2⟩ := h
  cases rx
  cases ry
  obtain ⟨its, r1, p1, _⟩ := I.tuple ha
  obtain ⟨its2, r2, p2, _⟩ := I.tuple hb
  refine HT.cat_tup p1 p2 (fun z => hx (r1.nil_iff.mp z)) (fun z => ⟨.ref a, H, I, rfl, q1 (r2.nil_iff.mp z)⟩) (fun z => ?_) (by rw [← r1.length, ← r2.length]; exact hz)
  refine ⟨.ref s.heap.objs.size, _, I.laid (t' := s.toks) (o := .tup (xs ++ ys)) (fun b ob q => Heap.get?_push_of_some _ q) (Nat.le_refl _) ?_, rfl, q2 (fun w => z (r2.nil_iff.mpr w)) _ (I.hok.fresh (Nat.le_refl _))⟩
  exact ⟨by rw [List.length_append]; exact hz, _, r1.append r2, IsTup.new _ _⟩
end
end L2

namespace L2
open PySem PySem.Spec PyProof.Rows

/-! ### places -/
/-- the place that an index of any sign means -/
def ixN (n : Nat) (i : Int) : Option Nat := if 0 ≤ i then (if i < n then some i.toNat else none) else if -(n : Int) ≤ i then some (i + n).toNat else none
def atI {α : Type} (xs : List α) (i : Int) : Option α := (ixN xs.length i).bind fun j => xs[j]?
theorem ixN_seq {n : Nat} {i : Int} {j : Nat} (h : ixN n i = some j) : seqIndex? i n = some j ∧ j < n ∧ -(n : Int) ≤ i ∧ i < n := by
  unfold ixN at h
  by_cases h0 : 0 ≤ i
  · rw [if_pos h0] at h
    by_cases h1 : i < n
    · rw [if_pos h1] at h
      have e : i.toNat = j := Option.some.inj h
      exact ⟨by rw [seqIndex_of h0 h1, e], by omega, by omega, h1⟩
    · rw [if_neg h1] at h; cases h
  · rw [if_neg h0] at h
    by_cases h1 : -(n : Int) ≤ i
    · rw [if_pos h1] at h
      have e : (i + n).toNat = j := Option.some.inj h
      exact ⟨by rw [seqIndex_neg (by omega) h1, e], by omega, h1, by omega⟩
    · rw [if_neg h1] at h; cases h
theorem atI_get {α : Type} {xs : List α} {i : Int} {v : α} (h : atI xs i = some v) : ∃ j, seqIndex? i xs.length = some j ∧ xs[j]? = some v ∧ j < xs.length ∧ -(xs.length : Int) ≤ i ∧ i < xs.length := by
  unfold atI at h
  cases e : ixN xs.length i with
  | none => rw [e] at h; cases h
  | some j =>
    rw [e] at h
    obtain ⟨h1, h2, h3, h4⟩ := ixN_seq e
    exact ⟨j, h1, h, h2, h3, h4⟩

/-! ### what may be subscripted -/
/-- what stands as an index of a plain subscript -/
def PlainIx (b : Expr) : Prop := ∀ o i, subscripted b false o i = operate [o, i] (getItem o i)
/-- a subscript by values -/
def IxR (X : Cx) (r : R2) : Prop :=
  ∀ (value slice : Expr) (pins : List (Addr × Obj)) (s : Shared) (σ : St) (H : Hp) (x y : V) (v u : Value) (Q : VK), Inv X pins σ H s → RelV x v → RelV y u → r x y H Q →
    subscripted slice false v u = operate [v, u] (getItem v u) → wpAny (model X.prog X.w) X.A (subscriptTail value slice v u) (EP X pins σ Q) X.xe s
/-- a call of a builtin's method by values: the receiver, the arguments -/
def MtR (X : Cx) (id : String) (r : V → List V → Hp → VK → Prop) : Prop :=
  ∀ (pins : List (Addr × Obj)) (s : Shared) (σ : St) (H : Hp) (x : V) (xs : List V) (v : Value) (us : List Value) (Q : VK), Inv X pins σ H s → RelV x v → Vals xs us → r x xs H Q →
    wpAny (model X.prog X.w) X.A (call (.builtin id) (v :: us)) (EP X pins σ Q) X.xe s
section
variable {X : Cx} {a b : Expr} {ta tb : TE} {pos : Pos}
theorem IxR.or {r r' : R2} (h : IxR X r) (h' : IxR X r') : IxR X (fun x y H Q => r x y H Q ∨ r' x y H Q) := by
  intro value slice pins s σ H x y v u Q I rx ry q hs
  rcases q with q | q
  · exact h value slice pins s σ H x y v u Q I rx ry q hs
  · exact h' value slice pins s σ H x y v u Q I rx ry q hs
/-- a[b] -/
theorem pe_ix {r : R2} (hr : IxR X r) (ha : PE X a ta) (hb : PE X b tb) (hs : PlainIx b) : PE X (.Subscript a b pos) (tOp r ta tb) := by
  intro pins s σ H Q I h
  exact Subscript_ (binT ha hb I h fun v u s2 x y H2 I2 rx ry q => hr a b pins s2 σ H2 x y v u Q I2 rx ry q (hs _ _))

def rIxL (K : PySem.W.Frag) : R2 := fun x y H Q => ∃ p xs i v, x = .ref p ∧ y = .int i ∧ SqL K H p xs ∧ atI xs i = some v ∧ Q v H
def rIxT (K : PySem.W.Frag) : R2 := fun x y H Q => ∃ p xs i v, x = .ref p ∧ y = .int i ∧ SqT K H p xs ∧ atI xs i = some v ∧ Q v H
def rIxS : R2 := fun x y H Q => ∃ z i c, x = .str z ∧ y = .int i ∧ z.length ≤ sizeLine ∧ atI z.cps.toList i = some c ∧ Q (.str ⟨#[c]⟩) H
theorem ix_list : IxR X (rIxL X.K) := by
  intro value slice pins s σ H x y v u Q I rx ry h hs
  obtain ⟨p, xs, i, z, rfl, rfl, hq, he, q⟩ := h
  cases rx
  obtain ⟨t, rfl⟩ := ry
  obtain ⟨its, r, pl, hz⟩ := I.list hq
  obtain ⟨j, h1, h2, h3, h4, h5⟩ := atI_get he
  obtain ⟨w, ew, rw'⟩ := r.get h2
  have hl := r.length
  have hn := line63
  have fin : EP X pins σ Q w s := ⟨z, H, I, rw', q⟩
  by_cases h0 : 0 ≤ i
  · have hj : i.toNat = j := by
      rw [seqIndex_of h0 h5] at h1
      exact Option.some.inj h1
    exact item_listR pl.isList h0 (by omega) (by rw [hj]; simpa using ew) fin hs
  · have hj : (i + (its.toArray.size : Int)).toNat = j := by
      rw [seqIndex_neg (by omega) h4] at h1
      rw [List.size_toArray, ← hl]
      exact Option.some.inj h1
    exact subscriptTail_builtinR (x := w) pl.isList.typeIs slot_list_getitem.lookup
      (wpAny_getItem_list_neg (Q := fun r s' => r = w ∧ EP X pins σ Q r s') pl.isList (by omega) (by rw [List.size_toArray] <;> omega) (by omega) (by rw [hj]; simpa using ew) ⟨rfl, fin⟩) hs
theorem ix_tup : IxR X (rIxT X.K) := by
  intro value slice pins s σ H x y v u Q I rx ry h hs
  obtain ⟨p, xs, i, z, rfl, rfl, hq, he, q⟩ := h
  cases rx
  obtain ⟨t, rfl⟩ := ry
  obtain ⟨its, r, pl, hz⟩ := I.tuple hq
  obtain ⟨j, h1, h2, h3, h4, h5⟩ := atI_get he
  obtain ⟨w, ew, rw'⟩ := r.get h2
  have hl := r.length
  have hn := line63
  have fin : EP X pins σ Q w s := ⟨z, H, I, rw', q⟩
  exact subscriptTail_builtinR (x := w) pl.typeIs slot_tuple_getitem.lookup
    (getItem_tuple (j := j) (Q := fun r s' => r = w ∧ EP X pins σ Q r s') pl (by omega) (by omega) (by rw [List.size_toArray, ← hl]; exact h1) (by simpa using ew) ⟨rfl, fin⟩) hs
theorem ix_str : IxR X rIxS := by
  intro value slice pins s σ H x y v u Q I rx ry h hs
  obtain ⟨z, i, c, rfl, rfl, hz, he, q⟩ := h
  obtain ⟨t, rfl⟩ := rx
  obtain ⟨t', rfl⟩ := ry
  obtain ⟨j, h1, h2, h3, h4, h5⟩ := atI_get he
  have hl : z.cps.toList.length = z.length := by simp [Str.length]
  rw [hl] at h1 h4 h5
  have hn := line63
  exact tail_any (typeIs_str s z t) slot_str_getitem.lookup (getItem_str (c := c) (by
    have e1 : decide (i < -(2 ^ 63 : Int)) = false := decide_eq_false (by omega)
    have e2 : decide (i ≥ 2 ^ 63) = false := decide_eq_false (by omega)
    rw [e1, e2, Bool.or_false]) (by rw [h1]; simpa using h2) ⟨.str ⟨#[c]⟩, H, I.tok _, ⟨_, rfl⟩, q⟩) hs
/-- list, tuple or str -/
def rIx (K : PySem.W.Frag) : R2 := fun x y H Q => rIxL K x y H Q ∨ rIxT K x y H Q ∨ rIxS x y H Q
theorem ix_seq : IxR X (rIx X.K) := ix_list.or (ix_tup.or ix_str)

/-! ### xs[i] = v, any sign -/
/-- the list's object behind a store -/
theorem mapSeq_set (its : List Value) (n j : Nat) (u : Value) : Obj.mapSeq (·.setIfInBounds j u) { cls := .type "list", data := .seq its.toArray n } = { cls := .type "list", data := .seq (its.set j u).toArray n } := by
  simp [Obj.mapSeq]
theorem Inv.lst {pins : List (Addr × Obj)} {σ : St} {H : Hp} {s : Shared} {p : Addr} {xs : List V} (I : Inv X pins σ H s) (h : H p = some (.lst xs)) :
    ∃ (its : List Value) (n : Nat), Vals xs its ∧ s.heap.get? p = some { cls := .type "list", data := .seq its.toArray n } ∧ xs.length ≤ sizeLine := by
  obtain ⟨z, its, n, r, e⟩ := I.hok p _ h
  exact ⟨its, n, r, e, z⟩
/-- the list at p is written by an update of its object -/
theorem Inv.lstUpd {pins : List (Addr × Obj)} {σ : St} {H : Hp} {s : Shared} {p : Addr} {xs ys : List V} {its its' : List Value} {n n' : Nat} {f : Obj → Obj} (I : Inv X pins σ H s) (h : H p = some (.lst xs))
    (ho : s.heap.get? p = some { cls := .type "list", data := .seq its.toArray n }) (hf : f { cls := .type "list", data := .seq its.toArray n } = { cls := .type "list", data := .seq its'.toArray n' }) (r : Vals ys its') (hz : ys.length ≤ sizeLine) (t : Nat) :
    Inv X pins σ (upd H p (.lst ys)) { s with heap := s.heap.update p f, toks := t } := by
  have e : (s.heap.update p f).get? p = some { cls := .type "list", data := .seq its'.toArray n' } := by
    rw [Heap.get?_update_self f ho (by rw [hf] <;> rfl), hf]
  refine I.write (x := p) (e := p) (by rw [h]; trivial) (.inl rfl) (fun b u hb q => (Heap.get?_update_other _ _ (Ne.symm hb)).trans q) ⟨_, e⟩ ?_
  exact ⟨hz, its', n', r, e⟩
def rSetL : V → V → V → Hp → (Hp → Prop) → Prop := fun o i v H Q => ∃ p xs k j, o = .ref p ∧ i = .int k ∧ H p = some (.lst xs) ∧ ixN xs.length k = some j ∧ Q (upd H p (.lst (xs.set j v)))
theorem set_list : PSet X rSetL := by
  intro pins s σ H o i v ov iv u Q I ro ri rv h
  obtain ⟨p, xs, k, j, rfl, rfl, hp, hj, q⟩ := h
  cases ro
  obtain ⟨t, rfl⟩ := ri
  obtain ⟨its, n, r, ho, hz⟩ := I.lst hp
  obtain ⟨h1, h2, h3, h4⟩ := ixN_seq hj
  have hl := r.length
  have hn := line63
  have I' : Inv X pins σ (upd H p (.lst (xs.set j v))) { s with heap := s.heap.update p (Obj.mapSeq (·.setIfInBounds j u)) } :=
    I.lstUpd hp ho (mapSeq_set its n j u) (r.set rv j) (by rw [List.length_set]; exact hz) s.toks
  by_cases h0 : 0 ≤ k
  · have hk : k.toNat = j := by
      rw [seqIndex_of h0 h4] at h1
      exact Option.some.inj h1
    exact PySem.W.ki_setAt ho h0 (by omega) (by rw [List.size_toArray, ← hl]; exact h4) (by rw [hk]; exact ⟨_, I', q⟩)
  · have hk : (k + (its.toArray.size : Int)).toNat = j := by
      rw [seqIndex_neg (by omega) h3] at h1
      rw [List.size_toArray, ← hl]
      exact Option.some.inj h1
    exact PySem.W.ki_setBack ho (by omega) (by rw [List.size_toArray, ← hl]; exact h3) (by omega) (by rw [hk]; exact ⟨_, I', q⟩)

/-! ### slices -/
theorem slice_bounds (lo hi : Option Int) (n : Nat) : (sliceBounds lo hi none n).1 = ((HT.sIx n 0 lo : Nat) : Int) ∧ (sliceBounds lo hi none n).2.1 = ((HT.sIx n n hi : Nat) : Int) ∧ (sliceBounds lo hi none n).2.2 = 1 := by
  refine ⟨?_, ?_, rfl⟩
  · cases lo with
    | none => simp [sliceBounds, HT.sIx]
    | some i =>
      simp only [sliceBounds, HT.sIx, Option.getD_none, show (1 : Int) > 0 by decide, if_true]
      by_cases h : i < 0
      · simp only [h, if_true] <;> omega
      · simp only [h, if_false] <;> omega
  · cases hi with
    | none => simp [sliceBounds, HT.sIx]
    | some i =>
      simp only [sliceBounds, HT.sIx, Option.getD_none, show (1 : Int) > 0 by decide, if_true]
      by_cases h : i < 0
      · simp only [h, if_true] <;> omega
      · simp only [h, if_false] <;> omega
theorem slicePick_cut (its : List Value) (lo hi : Option Int) : slicePick its.toArray lo hi none = ((its.drop (HT.sIx its.length 0 lo)).take (HT.sIx its.length its.length hi - HT.sIx its.length 0 lo)).toArray := by
  obtain ⟨h1, h2, h3⟩ := slice_bounds lo hi its.toArray.size
  unfold slicePick
  rw [h1, h2, h3]
  simp only [sliceRange_one, pick_run, List.size_toArray] <;> rfl
/-- xs[lo:hi] of a list: a new list -/
def rSlL (K : PySem.W.Frag) : V → Option Int → Option Int → Hp → VK → Prop := fun x lo hi H Q => ∃ a xs, x = .ref a ∧ SqL K H a xs ∧ ∀ p, H p = none → Q (.ref p) (upd H p (.lst (cutV xs lo hi)))
theorem sl_list : SlR X (rSlL X.K) := by
  intro pins s σ H x v vl vu lo hi sl Q I rx hs pl pu h
  obtain ⟨a, xs, rfl, hx, q⟩ := h
  cases rx
  obtain ⟨its, r, ht, hz⟩ := I.list hx
  have hlen := r.length
  refine ⟨"list", _, slot_list_getitem.lookup, ht.isList.typeIs, ?_⟩
  refine wpAny_getItem_list_slice ht.isList hs pl pu .none (by simp) ?_ (by rw [List.size_toArray] <;> omega)
  rw [slicePick_cut, ← hlen]
  refine ⟨.ref s.heap.objs.size, _, I.laid (t' := s.toks) (o := .lst (cutV xs lo hi)) (fun b ob q => Heap.get?_push_of_some _ q) (Nat.le_refl _) ?_, rfl, q _ (I.hok.fresh (Nat.le_refl _))⟩
  exact ⟨Nat.le_trans (cutV_length xs lo hi) hz, _, 0, (r.drop (HT.sIx xs.length 0 lo)).take (HT.sIx xs.length xs.length hi - HT.sIx xs.length 0 lo), Heap.get?_push_size _ rfl⟩

/-! ### in, not in: flat items -/
def flatV : V → Bool
  | .non => true
  | .bl _ => true
  | .int _ => true
  | .str _ => true
  | _ => false
/-- == of flat values -/
def eqV : V → V → Bool
  | .non, .non => true
  | .bl a, .bl b => a == b
  | .bl a, .int b => (if a then 1 else 0) == b
  | .int a, .bl b => a == (if b then 1 else 0)
  | .int a, .int b => a == b
  | .str a, .str b => a == b
  | _, _ => false
theorem eqAt_V {A : Around} {s : Shared} {y x : V} {u v : Value} (ry : RelV y u) (rx : RelV x v) (fy : flatV y = true) (fx : flatV x = true) : SeqAt.EqAt A s u v (eqV y x) := by
  cases y with
  | non =>
    cases ry
    cases x with
    | non => cases rx; exact SeqAt.EqAt.same _
    | bl b => cases rx; exact SeqAt.EqAt.none_bool b
    | int b => obtain ⟨t, rfl⟩ := rx; exact SeqAt.EqAt.none_int b t
    | str b => obtain ⟨t, rfl⟩ := rx; exact SeqAt.EqAt.none_str b t
    | _ => exact absurd (show false = true from fx) Bool.false_ne_true
  | bl a =>
    cases ry
    cases x with
    | non => cases rx; exact SeqAt.EqAt.bool_none a
    | bl b => cases rx; exact SeqAt.EqAt.bool_bool a b
    | int b => obtain ⟨t, rfl⟩ := rx; exact SeqAt.EqAt.bool_int a b t
    | str b => obtain ⟨t, rfl⟩ := rx; exact SeqAt.EqAt.bool_str a b t
    | _ => exact absurd (show false = true from fx) Bool.false_ne_true
  | int a =>
    obtain ⟨t', rfl⟩ := ry
    cases x with
    | non => cases rx; exact SeqAt.EqAt.int_none a t'
    | bl b => cases rx; exact SeqAt.EqAt.int_bool a t' b
    | int b => obtain ⟨t, rfl⟩ := rx; exact SeqAt.EqAt.int_int a t' b t
    | str b => obtain ⟨t, rfl⟩ := rx; exact SeqAt.EqAt.int_str a t' b t
    | _ => exact absurd (show false = true from fx) Bool.false_ne_true
  | str a =>
    obtain ⟨t', rfl⟩ := ry
    cases x with
    | non => cases rx; exact SeqAt.EqAt.str_none a t'
    | bl b => cases rx; exact SeqAt.EqAt.str_bool a t' b
    | int b => obtain ⟨t, rfl⟩ := rx; exact SeqAt.EqAt.str_int a t' b t
    | str b => obtain ⟨t, rfl⟩ := rx; exact SeqAt.EqAt.str_str a t' b t
    | _ => exact absurd (show false = true from fx) Bool.false_ne_true
  | _ => exact absurd (show false = true from fy) Bool.false_ne_true
/-- the items' answers, read off the values (a value's own answer does not lean on its token) -/
def eqU (x : V) (u : Value) : Bool := match u with
  | .none => eqV .non x
  | .bool b => eqV (.bl b) x
  | .int i _ => eqV (.int i) x
  | .str z _ => eqV (.str z) x
  | _ => false
theorem eqU_of {x y : V} {u : Value} (r : RelV y u) (f : flatV y = true) : eqU x u = eqV y x := by
  cases y with
  | non => cases r; rfl
  | bl b => cases r; rfl
  | int i => obtain ⟨t, rfl⟩ := r; rfl
  | str z => obtain ⟨t, rfl⟩ := r; rfl
  | _ => exact absurd (show false = true from f) Bool.false_ne_true
theorem any_eqU {x : V} : ∀ {xs : List V} {us : List Value}, Vals xs us → xs.all flatV = true → us.any (eqU x) = xs.any fun y => eqV y x
  | _, _, .nil, _ => rfl
  | y :: xs, u :: us, .cons r t, f => by
    rw [List.all_cons, Bool.and_eq_true] at f
    rw [List.any_cons, List.any_cons, eqU_of r f.1, any_eqU t f.2]
theorem mem_eqAt {A : Around} {s : Shared} {x : V} {v : Value} (rx : RelV x v) (fx : flatV x = true) : ∀ {xs : List V} {us : List Value}, Vals xs us → xs.all flatV = true → ∀ u ∈ us, SeqAt.EqAt A s u v (eqU x u)
  | _, _, .nil, _ => fun u hu => by cases hu
  | y :: xs, u :: us, .cons r t, f => fun u' hu => by
    rw [List.all_cons, Bool.and_eq_true] at f
    rcases List.mem_cons.mp hu with rfl | hu
    · rw [eqU_of r f.1]; exact eqAt_V r rx f.1 fx
    · exact mem_eqAt rx fx t f.2 u' hu
def inV (x : V) (xs : List V) : Bool := xs.any fun y => eqV y x
/-- x in a list or tuple of flat items -/
def rIn (K : PySem.W.Frag) (neg : Bool) : R2 := fun x y H Q => ∃ p xs, y = .ref p ∧ (SqL K H p xs ∨ SqT K H p xs) ∧ flatV x = true ∧ xs.all flatV = true ∧ Q (.bl (if neg then !inV x xs else inV x xs)) H
theorem op_in_seq : OpR X (compareOp .In) (rIn X.K false) := by
  intro pins s σ H x y v u Q I rx ry h
  obtain ⟨p, xs, rfl, hq, fx, fs, q⟩ := h
  cases ry
  rcases hq with hq | hq
  · obtain ⟨its, r, pl, hz⟩ := I.list hq
    refine SeqAt.in_listAt (eqU x) pl.isList (fun w hw => mem_eqAt rx fx r fs w (by simpa using hw)) ⟨.bl _, H, I, rfl, ?_⟩
    rw [show its.toArray.any (eqU x) = its.any (eqU x) by simp, any_eqU r fs]
    exact q
  · obtain ⟨its, r, pl, hz⟩ := I.tuple hq
    refine SeqAt.in_tupleAt (eqU x) pl (fun w hw => mem_eqAt rx fx r fs w (by simpa using hw)) ⟨.bl _, H, I, rfl, ?_⟩
    rw [show its.toArray.any (eqU x) = its.any (eqU x) by simp, any_eqU r fs]
    exact q

/-! ### len, list(x), tuple(x) of any list or tuple that is read -/
theorem call_len_seq : CallR X (.builtin "len") (fun xs H Q => ∃ p ys, xs = [.ref p] ∧ (SqL X.K H p ys ∨ SqT X.K H p ys) ∧ Q (.int ys.length) H) := by
  intro pins s σ H xs us Q I r h
  obtain ⟨p, ys, rfl, hq, q⟩ := h
  obtain ⟨u, rfl, rx⟩ := vals1 r
  cases rx
  have hn := line63
  rcases hq with hq | hq
  · obtain ⟨its, r', pl, hz⟩ := I.list hq
    have hlen := r'.length
    exact Calls.call_len_list pl.isList (by simp only [List.size_toArray] <;> omega) ⟨.int ys.length, H, I.tok _, ⟨s.toks + 1, by rw [List.size_toArray, hlen]⟩, q⟩
  · obtain ⟨its, r', pl, hz⟩ := I.tuple hq
    have hlen := r'.length
    exact len_tuple pl (by simp only [List.size_toArray] <;> omega) ⟨.int ys.length, H, I.tok _, ⟨s.toks + 1, by rw [List.size_toArray, hlen]⟩, q⟩
theorem call_len_str : CallR X (.builtin "len") (fun xs H Q => ∃ z, xs = [.str z] ∧ z.length ≤ sizeLine ∧ Q (.int z.length) H) := by
  intro pins s σ H xs us Q I r h
  obtain ⟨z, rfl, hz, q⟩ := h
  obtain ⟨u, rfl, t, rfl⟩ := vals1 r
  have hn := line63
  exact len_str (by omega) ⟨.int z.length, H, I.tok _, ⟨_, rfl⟩, q⟩
theorem call_list_of : CallR X (.type "list") (fun xs H Q => ∃ p ys, xs = [.ref p] ∧ (SqL X.K H p ys ∨ SqT X.K H p ys) ∧ ∀ l, H l = none → Q (.ref l) (upd H l (.lst ys))) := by
  intro pins s σ H xs us Q I r h
  obtain ⟨p, ys, rfl, hq, q⟩ := h
  obtain ⟨u, rfl, rx⟩ := vals1 r
  cases rx
  have fin : ∀ (its : List Value), Vals ys its → ys.length ≤ sizeLine → ∀ (h' : Heap) (c' : Nat), (∀ b o', s.heap.get? b = some o' → h'.get? b = some o') →
      h'.get? s.heap.objs.size = some { cls := .type "list", dict := none, data := .seq its.toArray c', slots := #[] } → EP X pins σ Q (.ref s.heap.objs.size) { s with heap := h' } := fun its r' hz h' c' kp e =>
    ⟨.ref s.heap.objs.size, _, I.laid (t' := s.toks) kp (Nat.le_refl _) (show ObjOk X.prog X.w _ h' _ (.lst ys) from ⟨hz, its, c', r', e⟩), rfl, q _ (I.hok.fresh (Nat.le_refl _))⟩
  rcases hq with hq | hq
  · obtain ⟨its, r', pl, hz⟩ := I.list hq
    have hlen := r'.length
    obtain ⟨o, ho, hc, n, hd⟩ := pl.isList
    exact call_list_seq p (.inl rfl) ho hc hd (fun h' c' kp e => fin its r' hz h' c' kp e) (by simp only [List.size_toArray] <;> omega)
  · obtain ⟨its, r', pl, hz⟩ := I.tuple hq
    have hlen := r'.length
    obtain ⟨o, ho, hc, n, hd⟩ := pl
    exact call_list_seq p (.inr rfl) ho hc hd (fun h' c' kp e => fin its r' hz h' c' kp e) (by simp only [List.size_toArray] <;> omega)

/-! ### the call of a builtin's method: o.m(..) -/
/-- the value is of that builtin type -/
def tyV (K : PySem.W.Frag) (T : String) (x : V) (H : Hp) : Prop := match x with
  | .str _ => T = "str"
  | .int _ => T = "int"
  | .ref p => (T = "list" ∧ ∃ xs, SqL K H p xs) ∨ (T = "tuple" ∧ ∃ o, K.lookup p = some o ∧ o.cls = .type "tuple" ∧ o.dict = none) ∨
      (T = "dict" ∧ ((∃ kvs, H p = some (.dK kvs)) ∨ ∃ kvs, H p = some (.dT kvs))) ∨ (T = "set" ∧ ∃ S n, H p = some (.set S n))
  | _ => False
theorem tyV_is {pins : List (Addr × Obj)} {σ : St} {H : Hp} {s : Shared} {T : String} {x : V} {v : Value} (I : Inv X pins σ H s) (r : RelV x v) (ty : tyV X.K T x H) :
    s.TypeIs v T ∧ ∀ a, v = .ref a → ∃ ob, s.heap.get? a = some ob ∧ ob.dict = none := by
  cases x with
  | str z =>
    obtain ⟨t, rfl⟩ := r
    cases (show T = "str" from ty)
    exact ⟨typeIs_str s z t, fun _ e => nomatch e⟩
  | int i =>
    obtain ⟨t, rfl⟩ := r
    cases (show T = "int" from ty)
    exact ⟨typeIs_int s i t, fun _ e => nomatch e⟩
  | ref p =>
    cases r
    rcases ty with ⟨rfl, xs, hq⟩ | ⟨rfl, o, hk, hc, hd⟩ | ⟨rfl, hk⟩ | ⟨rfl, S, n, hk⟩
    · obtain ⟨its, _, pl, _⟩ := I.list hq
      refine ⟨pl.isList.typeIs, fun a e => ?_⟩
      cases e
      obtain ⟨o, n, e, c, hd, _⟩ := pl
      exact ⟨o, e, hd⟩
    · refine ⟨⟨o, I.kIn p o hk, hc⟩, fun a e => ?_⟩
      cases e
      exact ⟨o, I.kIn _ o hk, hd⟩
    · have z : ∃ o, s.heap.get? p = some o ∧ o.ExactDict := by
        rcases hk with ⟨kvs, hk⟩ | ⟨kvs, hk⟩
        · obtain ⟨_, _, _, _, o, _, _, e, ex, _⟩ := I.hok p _ hk
          exact ⟨o, e, ex⟩
        · obtain ⟨_, _, _, _, o, _, _, e, ex, _⟩ := I.hok p _ hk
          exact ⟨o, e, ex⟩
      obtain ⟨o, e, ex⟩ := z
      refine ⟨⟨o, e, ex.1⟩, fun a e2 => ?_⟩
      cases e2
      exact ⟨o, e, ex.2.1⟩
    · obtain ⟨o, _, _, _, e, ex, _⟩ := I.hok p _ hk
      refine ⟨⟨o, e, ex.1⟩, fun a e2 => ?_⟩
      cases e2
      exact ⟨o, e, ex.2.1⟩
  | _ => exact False.elim ty
def tBM0 (K : PySem.W.Frag) (T : String) (r : V → List V → Hp → VK → Prop) (to : TE) : TE := fun σ H Q => to σ H fun x H1 => tyV K T x H1 ∧ r x [] H1 Q
def tBM (K : PySem.W.Frag) (T : String) (r : V → List V → Hp → VK → Prop) (to : TE) (t : TA) : TE := fun σ H Q => to σ H fun x H1 => tyV K T x H1 ∧ t σ H1 fun xs H2 => r x xs H2 Q
variable {o e : Expr} {es : List Expr} {to : TE} {t : TA} {name : Str} {apos cpos : Pos} {T id : String} {r : V → List V → Hp → VK → Prop}
theorem pe_bm (pa : PlainAttrs T) (slot : Slot T name id) (hty : typeOf (.builtin id) = pure (.type "method_descriptor")) (hm : MtR X id r) (ho : PE X o to) (ha : PA X (e :: es) t)
    (hbase : attributeBase o name X.env (eval o X.env) = eval o X.env := by rfl)
    (hfew : ((backTo cpos (starEach (e :: es) X.env)).all (fun x => !x.1) && (backToKw cpos (keywordEach [] X.env)).all (fun x => x.1.isSome)
      && decide ((e :: es).length + ([] : List Keyword).length + (if ([] : List Keyword).isEmpty then 0 else 1) < 30)) = true := by rfl)
    (hline : (apos.endLine == cpos.line) = true := by rfl) (hs : starEach (e :: es) X.env = (false, eval e X.env) :: starEach es X.env := by rfl) (hplain : (backTo cpos (starEach es X.env)).any (·.1) = false := by rfl) :
    PE X (.Call (.Attribute o name apos) (e :: es) [] cpos) (tBM X.K T r to t) := by
  intro pins s σ H Q I h
  refine wpAny_Call_method_late hbase hfew hline rfl (thn (ho pins s σ H _ I h) fun v s1 ⟨x, H1, I1, r1, ty, q1⟩ => ?_)
  obtain ⟨h1, h2⟩ := tyV_is I1 r1 ty
  refine ⟨T, id, pa, slot, hty, h1, h2, ?_⟩
  have hA := ha cpos pins s1 σ H1 _ I1 q1
  rw [hs] at hA ⊢
  refine Calls.callWith_builtin (by show (false || (backTo cpos (starEach es X.env)).any (·.1)) = false; rw [hplain] <;> rfl) (Calls.evalArgs_plain ?_)
  exact thn hA fun us s2 ⟨vs, H2, I2, r2, q2⟩ => hm pins s2 σ H2 x vs v us Q I2 r1 r2 q2
/- xs.append(e), list.index on a module's tuple .. are MtR facts of 06m -/
end
end L2

namespace L2
open PySem PySem.Spec PyProof.Rows

def MtM (X : Cx) (id : String) (r : V → List V → Hp → VK → Prop) : Prop :=
  ∀ (pins : List (Addr × Obj)) (s : Shared) (σ : St) (H : Hp) (x : V) (xs : List V) (v : Value) (us : List Value) (Q : VK), Inv X pins σ H s → RelV x v → Vals xs us → r x xs H Q →
    wpAny (model X.prog X.w) X.A (call (.builtin id) (v :: us)) (EP X pins σ Q) X.xe s

/-! ### lists of values -/
theorem Vals.one : ∀ {x : V} {us : List Value}, Vals [x] us → ∃ u, us = [u] ∧ RelV x u
  | _, _, .cons r .nil => ⟨_, rfl, r⟩
theorem Vals.two : ∀ {x y : V} {us : List Value}, Vals [x, y] us → ∃ u v, us = [u, v] ∧ RelV x u ∧ RelV y v
  | _, _, _, .cons r (.cons q .nil) => ⟨_, _, rfl, r, q⟩
theorem Vals.zero : ∀ {us : List Value}, Vals [] us → us = []
  | _, .nil => rfl

section
variable {X : Cx} {pins : List (Addr × Obj)} {σ : St} {H : Hp} {s : Shared} {l b : Addr} {xs ys zs : List V}

/-! ### the two steps: a tracked list is rewritten, a new list is laid -/
theorem Inv.lset {its its' : List Value} {n : Nat} {f : Array Value → Array Value} {t' : Nat} (I : Inv X pins σ H s) (hH : H l = some (.lst xs))
    (e : s.heap.get? l = some { cls := .type "list", data := .seq its.toArray n }) (hf : f its.toArray = its'.toArray) (hv : Vals ys its') (hz : ys.length ≤ sizeLine) :
    Inv X pins σ (upd H l (.lst ys)) { s with heap := s.heap.update l (Obj.mapSeq f), toks := t' } := by
  have q := PySem.IsL.update e f
  rw [hf] at q
  refine I.write (x := l) (e := l) (by rw [hH]; exact trivial) (.inl rfl) (fun b' u hb hu => (Heap.get?_update_other s.heap (Obj.mapSeq f) (Ne.symm hb)).trans hu) ⟨_, q⟩ ?_
  exact ⟨hz, its', _, hv, q⟩
theorem Inv.lnew {its : List Value} {t' : Nat} (I : Inv X pins σ H s) (hv : Vals ys its) (hz : ys.length ≤ sizeLine) :
    Inv X pins σ (upd H s.heap.objs.size (.lst ys)) { s with heap := s.heap.push { cls := .type "list", data := .seq its.toArray }, toks := t' } :=
  I.laid (fun _ _ q => Heap.get?_push_of_some _ q) (Nat.le_refl _) ⟨hz, its, 0, hv, Heap.get?_push_size _ rfl⟩
theorem Inv.fresh (I : Inv X pins σ H s) : H s.heap.objs.size = none := I.hok.fresh (Nat.le_refl _)
theorem Inv.lstM (I : Inv X pins σ H s) (hH : H l = some (.lst xs)) : xs.length ≤ sizeLine ∧ ∃ (its : List Value) (n : Nat), Vals xs its ∧ xs.length = its.length ∧ s.heap.get? l = some { cls := .type "list", data := .seq its.toArray n } := by
  obtain ⟨z, its, n, r, e⟩ := I.hok l _ hH
  exact ⟨z, its, n, r, r.length, e⟩

theorem notLongL {n : Nat} (h : n ≤ sizeLine) : Builtin.List.listTooLong n = false := by
  unfold Builtin.List.listTooLong
  exact decide_eq_false (by omega)
end

section
variable {X : Cx}

/-! ### methods -/
def rAppend : V → List V → Hp → VK → Prop := fun x vs H Q => ∃ l xs y, x = .ref l ∧ vs = [y] ∧ H l = some (.lst xs) ∧ xs.length < sizeLine ∧ Q .non (upd H l (.lst (xs ++ [y])))
theorem mt_append : MtM X "list.append" rAppend := by
  intro pins s σ H x vs v us Q I rx rv h
  obtain ⟨l, xs, y, rfl, rfl, hH, hz, q⟩ := h
  cases rx
  obtain ⟨u, rfl, ru⟩ := rv.one
  obtain ⟨z, its, n, r, hl, e⟩ := I.lstM hH
  refine call_meets F.slot_list_append ⟨_, e, rfl⟩ F.entry_list_append (F.args_list_append_2 _ _) (PySem.list_append l its.toArray n u (by rw [List.size_toArray]; omega)) ⟨e, ?_⟩
  refine ⟨.non, _, I.lset (its' := its ++ [u]) hH e (by simp) (r.append (.cons ru .nil)) ?_, rfl, q⟩
  rw [List.length_append, List.length_singleton]
  omega

def rExtend : V → List V → Hp → VK → Prop := fun x vs H Q => ∃ l b xs zs, x = .ref l ∧ vs = [.ref b] ∧ H l = some (.lst xs) ∧ H b = some (.lst zs) ∧ xs.length + zs.length ≤ sizeLine ∧ Q .non (upd H l (.lst (xs ++ zs)))
theorem mt_extend : MtM X "list.extend" rExtend := by
  intro pins s σ H x vs v us Q I rx rv h
  obtain ⟨l, b, xs, zs, rfl, rfl, hH, hB, hz, q⟩ := h
  cases rx
  obtain ⟨u, rfl, ru⟩ := rv.one
  cases ru
  obtain ⟨z, its, n, r, hl, e⟩ := I.lstM hH
  obtain ⟨z2, its2, n2, r2, hl2, e2⟩ := I.lstM hB
  have hsz : its.toArray.size + its2.toArray.size ≤ sizeLine := by rw [List.size_toArray, List.size_toArray]; omega
  have hlong : ¬ (!its.toArray.isEmpty && Builtin.List.listTooLong (its.toArray.size + its2.toArray.size)) = true := by
    rw [notLongL hsz, Bool.and_false]
    exact Bool.false_ne_true
  refine call_meets F.slot_list_extend ⟨_, e, rfl⟩ F.entry_list_extend (F.args_list_extend_2 _ _)
    (AutoSeq1.list_extend_list_list_0 l its.toArray n b its2.toArray n2 hlong (by rw [List.size_toArray]; omega) (by omega)) ⟨e, e2, ?_⟩
  refine ⟨.non, _, I.lset (its' := its ++ its2) hH e (by simp) (r.append r2) ?_, rfl, q⟩
  rw [List.length_append]
  omega

def rPop : V → List V → Hp → VK → Prop := fun x vs H Q => ∃ l xs y, x = .ref l ∧ vs = [] ∧ H l = some (.lst xs) ∧ xs[xs.length - 1]? = some y ∧ Q y (upd H l (.lst xs.dropLast))

def rPopAt : V → List V → Hp → VK → Prop := fun x vs H Q => ∃ l xs i k y, x = .ref l ∧ vs = [.int i] ∧ H l = some (.lst xs) ∧ -(2 ^ 63) ≤ i ∧ i < 2 ^ 63 ∧ seqIndex? i xs.length = some k ∧ xs[k]? = some y ∧ Q y (upd H l (.lst (xs.eraseIdx k)))

def rReverse : V → List V → Hp → VK → Prop := fun x vs H Q => ∃ l xs, x = .ref l ∧ vs = [] ∧ H l = some (.lst xs) ∧ Q .non (upd H l (.lst xs.reverse))

def rClear : V → List V → Hp → VK → Prop := fun x vs H Q => ∃ l xs, x = .ref l ∧ vs = [] ∧ H l = some (.lst xs) ∧ Q .non (upd H l (.lst []))

/-! ### list + list, list += list, list * int -/
def rCat : R2 := fun x y H Q => ∃ l b xs zs, x = .ref l ∧ y = .ref b ∧ H l = some (.lst xs) ∧ H b = some (.lst zs) ∧ xs.length + zs.length ≤ sizeLine ∧ ∀ p, H p = none → Q (.ref p) (upd H p (.lst (xs ++ zs)))
theorem op_cat : OpR X (binaryOp .Add) rCat := by
  intro pins s σ H x y v u Q I rx ry h
  obtain ⟨l, b, xs, zs, rfl, rfl, hH, hB, hz, q⟩ := h
  cases rx
  cases ry
  obtain ⟨z, its, n, r, hl, e⟩ := I.lstM hH
  obtain ⟨z2, its2, n2, r2, hl2, e2⟩ := I.lstM hB
  refine PySem.P.add_list e e2 ?_ (by rw [List.size_toArray, List.size_toArray]; omega)
  have ea : its.toArray ++ its2.toArray = (its ++ its2).toArray := by simp
  rw [ea]
  exact ⟨.ref _, _, I.lnew (t' := s.toks) (r.append r2) (by rw [List.length_append]; omega), rfl, q _ I.fresh⟩
/-- a list times an int (a negative one is nothing) -/
def rRep : R2 := fun x y H Q => ∃ l k xs, x = .ref l ∧ y = .int k ∧ H l = some (.lst xs) ∧ -(2 ^ 63) ≤ k ∧ k < 2 ^ 63 ∧ xs.length * k.toNat ≤ sizeLine ∧
  ∀ p, H p = none → Q (.ref p) (upd H p (.lst (List.replicate k.toNat xs).flatten))

/-! ### del xs[i] -/
end

/-! ### xs[a:b] = ys -/
section
variable {prog : Program} {w : World} {A : Around} {E : Value → Shared → Prop} {s : Shared}
set_option maxRecDepth 100000 in
end

section
variable {X : Cx}
end
end L2
namespace L2
open PySem PySem.Spec PyProof.Rows

/-! ### lists of pairs as tables -/
section
variable {κ : Type} [DecidableEq κ]
def valV (kvs : List (κ × V)) (k : κ) : Option V := (kvs.find? fun kv => decide (kv.1 = k)).map (·.2)
/-- in its place, or at the end -/
def putK (kvs : List (κ × V)) (k : κ) (v : V) : List (κ × V) :=
  if (kvs.any fun kv => decide (kv.1 = k)) = true then kvs.map (fun kv => if kv.1 = k then (kv.1, v) else kv) else kvs ++ [(k, v)]
def dropK (kvs : List (κ × V)) (k : κ) : List (κ × V) := kvs.filter fun kv => decide (kv.1 ≠ k)



end


/-! ### a tracked dict, its keys ints and texts or tuples of these -/

/-- raw entries of a dict with tuple keys -/
abbrev KT (H : Hp) : List (List Key × V) → List (List Key × Addr × Value) → Prop := Paired fun p q => p.1 = q.1 ∧ H q.2.1 = some (.tup (p.1.map kV)) ∧ RelV p.2 q.2.2

section
variable {P : Program} {w : World} {H : Hp} {h : Heap} {a : Addr}
end

/-- what the dict at a holds at the key y -/
def DGet (H : Hp) (a : Addr) (y : V) (r : Option V) : Prop :=
  (∃ kvs k, Rd H a (.dK kvs) ∧ y = kV k ∧ r = valV kvs k) ∨ ∃ kvs k b, Rd H a (.dT kvs) ∧ y = .ref b ∧ H b = some (.tup (k.map kV)) ∧ r = valV kvs k
/-- the heap behind a[y] = v -/
def DPut (H : Hp) (a : Addr) (y v : V) (H' : Hp) : Prop :=
  (∃ kvs k, H a = some (.dK kvs) ∧ y = kV k ∧ kvs.length < sizeLine ∧ H' = upd H a (.dK (putK kvs k v))) ∨
  ∃ kvs k b, H a = some (.dT kvs) ∧ y = .ref b ∧ H b = some (.tup (k.map kV)) ∧ kvs.length < sizeLine ∧ H' = upd H a (.dT (putK kvs k v))


section
variable {X : Cx} {pins : List (Addr × Obj)} {σ : St} {H : Hp} {s : Shared} {a : Addr} {y v : V} {u r : Value} {o : Option V} {A : Around} {E : Value → Shared → Prop}


end

section
variable {X : Cx} {pins : List (Addr × Obj)} {σ : St} {H : Hp} {s : Shared} {a : Addr} {kvs : List (Key × V)} {k : Key} {u : Value} {A : Around} {E : Value → Shared → Prop}
end


/-! ### readings and rules -/
/-- the element of a subscription, not a slice -/
def NoSl (i : Expr) : Prop := ∀ ov iv, subscripted i false ov iv = operate [ov, iv] (getItem ov iv)


/-- d[y] -/
def tDGet (td ty : TE) : TE := fun σ H Q => td σ H fun x H1 => ty σ H1 fun y H2 => ∃ a v, x = .ref a ∧ DGet H2 a y (some v) ∧ Q v H2
/-- y in d, y not in d -/
def tDIn (ty td : TE) : TE := fun σ H Q => ty σ H fun y H1 => td σ H1 fun x H2 => ∃ a o, x = .ref a ∧ DGet H2 a y o ∧ Q (.bl o.isSome) H2
def tDNotIn (ty td : TE) : TE := fun σ H Q => ty σ H fun y H1 => td σ H1 fun x H2 => ∃ a o, x = .ref a ∧ DGet H2 a y o ∧ Q (.bl (!o.isSome)) H2
/-- d[y] = v -/
def sDPut (td ty tv : TE) : TS := fun D σ H => tv σ H fun v H1 => td σ H1 fun x H2 => ty σ H2 fun y H3 => ∃ a H4, x = .ref a ∧ DPut H3 a y v H4 ∧ D.nx σ H4
/-- d[y] op= v -/
def sDAug (td ty tv : TE) (rd : V → V → Hp → VK → Prop) : TS := fun D σ H => td σ H fun x H1 => ty σ H1 fun y H2 => ∃ a v, x = .ref a ∧ DGet H2 a y (some v) ∧
  tv σ H2 fun y2 H3 => rd v y2 H3 fun z H4 => ∃ H5, DPut H4 a y z H5 ∧ D.nx σ H5
/-- del d[y] -/
def sDDel (td ty : TE) : TS := fun D σ H => td σ H fun x H1 => ty σ H1 fun y H2 => ∃ a kvs k, x = .ref a ∧ H2 a = some (.dK kvs) ∧ y = kV k ∧ (valV kvs k).isSome = true ∧ D.nx σ (upd H2 a (.dK (dropK kvs k)))

section
variable {X : Cx} {o i e value : Expr} {pos pos' tpos : Pos} {td ty tv : TE}
end


/-! ### displays -/
/-- {}, to be a dict of the kind that is wanted -/
def tDNewK : TE := fun _ H Q => ∀ p, H p = none → Q (.ref p) (upd H p (.dK []))
def tDNewT : TE := fun _ H Q => ∀ p, H p = none → Q (.ref p) (upd H p (.dT []))
section
variable {X : Cx} {pos : Pos}
end

/-- the pairs of a display, from the left -/
def tPairs : List (TE × TE) → St → Hp → (List (V × V) → Hp → Prop) → Prop
  | [], _, H, Q => Q [] H
  | (tk, tv) :: r, σ, H, Q => tk σ H fun x H1 => tv σ H1 fun y H2 => tPairs r σ H2 fun ps H3 => Q ((x, y) :: ps) H3
abbrev VV : List (V × V) → List (Value × Value) → Prop := Paired fun p q => RelV p.1 q.1 ∧ RelV p.2 q.2
def PPs (X : Cx) (pos : Pos) (keys : List (Option Expr)) (values : List Expr) (trs : List (TE × TE)) : Prop :=
  ∀ (pins : List (Addr × Obj)) (s : Shared) (σ : St) (H : Hp) (Q : List (V × V) → Hp → Prop), Inv X pins σ H s → tPairs trs σ H Q →
    wpAny (model X.prog X.w) X.A (evalPairs (pairTrees keys values X.env pos)) (fun vs s' => ∃ ps H', Inv X pins σ H' s' ∧ VV ps vs ∧ Q ps H') X.xe s

def mergeK (kvs more : List (Key × V)) : List (Key × V) := more.foldl (fun acc kv => putK acc kv.1 kv.2) kvs
/-- {k: v, ..} with keys ints and texts; the new dict stands empty while the pairs are made -/
def tDisp (trs : List (TE × TE)) : TE := fun σ H Q => ∀ p, H p = none → tPairs trs σ (upd H p (.dK [])) fun ps H2 => H2 p = some (.dK []) ∧ ∃ kvs : List (Key × V), ps = kvs.map (fun kv => (kV kv.1, kv.2)) ∧ kvs.length ≤ 15 ∧ Q (.ref p) (upd H2 p (.dK (mergeK [] kvs)))


/-! ### methods -/
/-- a method call o.m(e) of a built-in, with one argument: what must be seen of the text -/
structure M1 (X : Cx) (o : Expr) (m : Str) (apos : Pos) (e : Expr) (cpos : Pos) : Prop where
  base : attributeBase o m X.env (eval o X.env) = eval o X.env
  few : ((backTo cpos (starEach [e] X.env)).all (fun x => !x.1) && (backToKw cpos (keywordEach [] X.env)).all (fun x => x.1.isSome)
    && decide (([e] : List Expr).length + ([] : List Keyword).length + (if ([] : List Keyword).isEmpty then 0 else 1) < 30)) = true
  line : (apos.endLine == cpos.line) = true
  trees : backTo cpos (starEach [e] X.env) = [(false, eval e X.env)]
structure M2 (X : Cx) (o : Expr) (m : Str) (apos : Pos) (e f : Expr) (cpos : Pos) : Prop where
  base : attributeBase o m X.env (eval o X.env) = eval o X.env
  few : ((backTo cpos (starEach [e, f] X.env)).all (fun x => !x.1) && (backToKw cpos (keywordEach [] X.env)).all (fun x => x.1.isSome)
    && decide (([e, f] : List Expr).length + ([] : List Keyword).length + (if ([] : List Keyword).isEmpty then 0 else 1) < 30)) = true
  line : (apos.endLine == cpos.line) = true
  trees : backTo cpos (starEach [e, f] X.env) = [(false, eval e X.env), (false, eval f X.env)]

/-- a is a dict, whatever its keys -/
def IsD (H : Hp) (a : Addr) : Prop := (∃ kvs, Rd H a (.dK kvs)) ∨ ∃ kvs, Rd H a (.dT kvs)

section
variable {X : Cx} {pins : List (Addr × Obj)} {σ : St} {H : Hp} {s : Shared} {a : Addr} {y d : V} {u r : Value} {o : Option V} {A : Around} {E : Value → Shared → Prop}
end

def tDGet1 (td ty : TE) : TE := fun σ H Q => td σ H fun x H1 => ∃ a, x = .ref a ∧ IsD H1 a ∧ ty σ H1 fun y H2 => ∃ o, DGet H2 a y o ∧ Q (o.getD .non) H2
def tDGet2 (td ty tx : TE) : TE := fun σ H Q => td σ H fun x H1 => ∃ a, x = .ref a ∧ IsD H1 a ∧ ty σ H1 fun y H2 => tx σ H2 fun z H3 => ∃ o, DGet H3 a y o ∧ Q (o.getD z) H3
/-- d.pop(k): there; d.pop(k, x): there or not -/
def tDPop1 (td ty : TE) : TE := fun σ H Q => td σ H fun x H1 => ∃ a, x = .ref a ∧ IsD H1 a ∧ ty σ H1 fun y H2 => ∃ kvs k v, H2 a = some (.dK kvs) ∧ y = kV k ∧ valV kvs k = some v ∧ Q v (upd H2 a (.dK (dropK kvs k)))
def tDPop2 (td ty tx : TE) : TE := fun σ H Q => td σ H fun x H1 => ∃ a, x = .ref a ∧ IsD H1 a ∧ ty σ H1 fun y H2 => tx σ H2 fun z H3 => ∃ kvs k, H3 a = some (.dK kvs) ∧ y = kV k ∧
  (∀ v, valV kvs k = some v → Q v (upd H3 a (.dK (dropK kvs k)))) ∧ (valV kvs k = none → Q z H3)
section
variable {X : Cx} {o e f : Expr} {apos cpos : Pos} {td ty tx : TE}
end

/-! ### dict(d): a copy -/
section
variable {X : Cx} {pins : List (Addr × Obj)} {σ : St} {H : Hp} {s : Shared} {a : Addr} {kvs : List (Key × V)} {A : Around} {E : Value → Shared → Prop}
end


section
variable {X : Cx} {pins : List (Addr × Obj)} {σ : St} {H : Hp} {s : Shared} {a : Addr} {y : V} {u : Value} {A : Around} {E : Value → Shared → Prop}
end
end L2

namespace Att
open PySem PySem.W PySem.Calls PyProof.Rows

/-! ### the script -/
theorem ints_of_wellAll {P : Params} {h : Heap} : ∀ (ns : List Int) (vs : List Value), WellAll P h vs (ns.map WData.int) → IntsAre vs ns := by
  intro ns
  induction ns with
  | nil =>
    intro vs w
    rw [List.map_nil] at w
    cases w
    exact .nil
  | cons n ns ih =>
    intro vs w
    rw [List.map_cons] at w
    cases w with
    | cons a b =>
      cases a
      exact .cons _ _ (ih _ b)

theorem script_of {l : OpenLaw} {n : Nat} (hn : l.most = some n) {P : Params} {h : Heap} {args : List WData} {vals : List Value}
    (hpre : l.row.toRowW.claim.pre args = true) (hwl : WellAll P h vals args) :
    ∃ a vs ns, vals = [Value.ref a] ∧ args = [WData.list (ns.map WData.int)] ∧ h.get? a = some { cls := .type "list", data := .seq vs.toArray } ∧ IntsAre vs ns ∧ ns.length ≤ n := by
  have hsh : WShape.hasAll [] args [.list .int] = true := (pre_splitW hpre).1
  have hc : l.pre.holds [] { args := args } = true := (pre_splitW hpre).2
  obtain ⟨d, r, rfl, h1, h2⟩ := hasAllW_cons hsh
  obtain rfl := hasAllW_nil h2
  obtain ⟨xs, rfl, h3⟩ := hasW_list h1
  obtain ⟨ns, rfl⟩ := items_int h3
  have hlen : ns.length ≤ n := by
    unfold OpenLaw.pre at hc
    have h4 : (WTm.not (.lt (.lit (.int (n : Int))) (.len (.arg 0)))).holds [] { args := [.list (ns.map .int)] } = true := by
      have h4 := (holds_andW hc).1
      rw [hn] at h4
      exact h4
    have h5 := condW_of h4 (w_not (w_lt w_lit (w_len_list (w_arg rfl))))
    rw [List.length_map] at h5
    refine Nat.le_of_not_lt fun q => ?_
    have q' : (n : Int) < ((ns.length : Nat) : Int) := by omega
    first
      | (rw [decide_eq_true q'] at h5; exact absurd h5 (by decide))
      | (simp at h5; omega)
  cases hwl with
  | cons w1 w2 =>
    cases w2
    cases w1 with
    | list ho hall => exact ⟨_, _, ns, rfl, rfl, ho, ints_of_wellAll ns _ hall, hlen⟩

theorem post_true (l : OpenLaw) (args : List WData) : l.row.toRowW.claim.post args (.bool true) args = true :=
  postW_of (r := l.row.toRowW) (X := (true == true))
    (show WShape.has [] (.bool true) .bool = true by first | rfl | decide | simp [WShape.has, WShape.arms, WShape.armsAll])
    (show (WTm.eq .res (.lit (.bool true))).value [] { args := args, res := some (.bool true), after := args } = some (.bool (true == true)) from w_eq_bool (w_res rfl) w_lit) rfl

/-! ### the attachment: holds_open's last premise (the goal 'hc' behind k_head) from a wpAny of the law's body -/

/-- the same from a codeAny of the CALL (for a layer whose function contracts speak of calls) -/
theorem attach_call {l : OpenLaw} {n : Nat} {q : Program} {loose : List Str} {XP : (Str → Option Value) → Heap → Prop} {YP : World → Heap → Prop} {d : DefRec}
    (hn : l.most = some n) (hdf : d.params.defaults = [])
    (call : ∀ (w : World) (s₀ s₁ : Shared) (mg mb : Str → Option Value) (fa : Addr) (o : Obj) (pm cd doc : Value) (a : Addr) (vs : List Value) (ns : List Int),
      Ground q loose [] XP w s₀ mg mb s₁.heap → YP w s₁.heap →
      s₁.heap.get? fa = some o → o.data = .func (docDef d.name d.params d.body d.scope pm cd doc) → s₁.heap.CodeRec cd d.name → mg d.name = some (.ref fa) →
      s₁.heap.get? a = some { cls := .type "list", data := .seq vs.toArray } → IntsAre vs ns → ns.length ≤ n → s₁.gens = #[] →
      codeAny (model l.prog w) callerA (.call (.ref fa) ⟨[.ref a], []⟩) (fun r s' => r = .ok (.ret (.bool true)) ∧ OldK s₁.heap s'.heap ∧ s'.os = s₁.os ∧ AllBare s'.gens) s₁) :
    WalkO q loose XP YP l.row.toRowW d [] (fun f vs => PySem.call f vs) := by
  intro w s₀ s₁ mg mb G Y fa o pm cd doc dV kV ho hd hcd hD hmg hg args vals as hpre hlay hrd hwl hlo
  obtain rfl : dV = .none := Dflts.none hD hdf
  obtain rfl : kV = .none := Dflts.noKw hD
  obtain ⟨a, vs, ns, rfl, rfl, hobj, hints, hlen⟩ := script_of hn hpre hwl
  refine enter_call (codeAny_mono (call w s₀ s₁ mg mb fa o pm cd doc a vs ns G Y ho (fd_plain hd) hcd hmg hobj hints hlen hg) fun r s' hq => ?_)
  obtain ⟨rfl, h2, h3, h4⟩ := hq
  exact ⟨.inl ⟨.bool true, .bool true, [], rfl, fun _ => rfl, .bool true, post_true l _, fun _ => ⟨List.Pairwise.nil, fun _ hm => (nomatch hm)⟩⟩, h2, h3, h4⟩


/-! ### rules over ANY heap (no ledger) from facts about the written part K: the library's own take a ledger (News) for what they write -/
section
variable {prog : Program} {w : World} {A : Around} {E : Value → Shared → Prop} {s : Shared} {K : Frag}





/-! the whole heap as the ledger: makes every rule that writes through a ledger a rule over any heap -/
def noObjs (h : Heap) : Heap := { h with objs := #[] }
def ledger (h : Heap) (L d : Addr) : List (Addr × Obj) := (List.range h.objs.size).filterMap fun a => if a = L ∨ a = d then none else (h.get? a).map fun o => (a, o)

end
end Att

namespace L2
open PySem PySem.Spec PyProof.Rows

theorem vals_ints : ∀ {vs : List Value} {ns : List Int}, IntsAre vs ns → Vals (ns.map V.int) vs
  | _, _, .nil => .nil
  | _, _, .cons n t h => .cons ⟨t, rfl⟩ (vals_ints h)

/-- nothing is tracked but the script, known to the object (or it is an object of the module) -/
def Only (H : Hp) : Prop := ∀ b, H b = none ∨ ∃ o xs, H b = some (.frz o (.lst xs))

end L2

namespace L2
open PySem PySem.Spec PyProof.Rows

abbrev KOf {K : PySem.W.Frag} {h : Heap} (_ : K.In h) : PySem.W.Frag := K

end L2

/- THE LAST THEOREM (shape; LID, My.* are yours):
   My.Adr: a structure of the addresses that your layer names (classes, functions); My.Txt K t: a structure (Prop) of the equations over K;
   My.txt_mk : {K} {implicit addresses ..} (e1 : nsIn K mainGlobals "law" = some (some (.ref f))) (e2 : K.lookup f = some ⟨oc, od, .func (fnOf "law" "law" params body scope dV kV doc pm an cdv ct), sl⟩) (e3 : codeIn K cdv "law" = true) .. : ∃ t, My.Txt K t

set_option maxRecDepth 100000 in
set_option maxHeartbeats 0 in
(the tactic k_is has no namespace: write k_is) -/

/-! SHORT WORDS over the layer: a def of the text, its body, what a loop and a test want. -/
namespace L2
open PySem PySem.Spec PyProof.Rows

/-! ### the text by places -/
/-- the j-th statement of a class's body -/
def inClass (s : Stmt) (j : Nat) : Stmt := match s with
  | .ClassDef _ _ _ body _ _ _ _ _ _ _ => body.getD j (.Pass ⟨0, 0, 0, 0⟩)
  | _ => .Pass ⟨0, 0, 0, 0⟩
def defArgs (s : Stmt) : Arguments := match s with
  | .FunctionDef _ a _ _ _ _ _ _ _ _ => a
  | _ => { posonlyargs := [], args := [], vararg := none, kwonlyargs := [], kw_defaults := [], kwarg := none, defaults := [] }
def defBody (s : Stmt) : List Stmt := match s with
  | .FunctionDef _ _ b _ _ _ _ _ _ _ => b
  | _ => []
def defScope (s : Stmt) : Scope := match s with
  | .FunctionDef _ _ _ _ _ _ sc _ _ _ => sc
  | _ => { kind := .function, names := [], isGenerator := false, isCoroutine := false }

/-! ### no exception leaves a def -/
abbrev CX0 : CXT := fun _ _ _ _ _ _ => False
abbrev E0 : XK := fun _ _ _ => False

/-! ### a def (or method) of the text as it stands behind the top -/
structure Fun (K : PySem.W.Frag) (x qual : Str) (st : Stmt) (f : Addr) (fd : FuncData) : Prop where
  ex : ∃ (oc : Value) (od : Option Addr) (kV doc pm : Value) (an : Option Addr) (cdv ct : Value) (osl : Array (Option Value)),
    fd = PySem.W.fnOf x qual (defArgs st) (defBody st) (defScope st) .none kV doc pm an cdv ct ∧ K.lookup f = some ⟨oc, od, .func fd, osl⟩ ∧ PySem.W.codeIn K cdv qual = true
  kp : PySem.W.keepIn K (.ref f) = true
section
variable {P : Program} {w : World} {K : PySem.W.Frag} {mg : Str → Option Value} {base : Heap}
/-- how its arguments bind (no defaults): h is «fun _ _ _ _ _ _ us hl => match us, hl with | [_, _], _ => rfl», one _ a parameter -/
theorem Fun.binds {x qual : Str} {st : Stmt} {f : Addr} {fd : FuncData} {ps : List Str} (F : Fun K x qual st f fd)
    (h : ∀ (kV doc pm : Value) (an : Option Addr) (cdv ct : Value) (us : List Value), us.length = ps.length → bindArgs (PySem.W.fnOf x qual (defArgs st) (defBody st) (defScope st) .none kV doc pm an cdv ct) ⟨us, []⟩ = pure (ps.zip us)) : Binds K fd ps [] := by
  obtain ⟨oc, od, kV, doc, pm, an, cdv, ct, osl, rfl, lk, hcd⟩ := F.ex
  exact .all (h kV doc pm an cdv ct)
theorem fun_mk {x qual : Str} {st : Stmt} {f : Addr} {oc : Value} {od an : Option Addr} {osl : Array (Option Value)} {kV doc pm cdv ct : Value} (l : K.lookup f = some ⟨oc, od, .func (PySem.W.fnOf x qual (defArgs st) (defBody st) (defScope st) .none kV doc pm an cdv ct), osl⟩)
    (c : PySem.W.codeIn K cdv qual = true) (k : PySem.W.keepIn K (.ref f) = true) : Fun K x qual st f (PySem.W.fnOf x qual (defArgs st) (defBody st) (defScope st) .none kV doc pm an cdv ct) := ⟨⟨oc, od, kV, doc, pm, an, cdv, ct, osl, rfl, l, c⟩, k⟩
end

/-! ### expressions in short: the name that stands in the i-th slot -/
section
variable {X : Cx}
end

/-! ### tests -/
theorem iteF {A B : Prop} (h : B) : if false = true then A else B := by
  rw [if_neg Bool.false_ne_true]
  exact h
theorem iteT {A B : Prop} (h : A) : if true = true then A else B := by
  rw [if_pos rfl]
  exact h

/-! ### heaps -/
/-- all that was tracked is as it was -/
def Same (H H' : Hp) : Prop := ∀ b o, H b = some o → H' b = some o

/-! ### a dict's pairs: keys that differ -/
section
variable {κ : Type} [DecidableEq κ]
end
end L2

set_option Elab.async false
set_option linter.all false
set_option maxRecDepth 100000
set_option maxHeartbeats 4000000
namespace FX
open PySem
theorem dict_mapFields (o : Obj) (f : Array Value → Array Value) : (o.mapFields f).dict = o.dict := by
  obtain ⟨c, d, dt, sl⟩ := o
  cases dt <;> rfl
/-- what stands behind a station: all but the exception at e, its elder entry at T, and the slots of the frames -/
structure Gone (fr : List Addr) (e : Addr) (T : Option Addr) (h h' : Heap) : Prop where
  keep : ∀ b o, b ≠ e → T ≠ some b → b ∉ fr → h.get? b = some o → h'.get? b = some o
  slot : ∀ b o, b ≠ e → T ≠ some b → h.get? b = some o → ∃ sl, h'.get? b = some { o with slots := sl }
  there : ∀ b o, h.get? b = some o → ∃ o', h'.get? b = some o'
/-- under way, with its newest entry at T -/
def Fly (h : Heap) (e : Addr) (cls : Value) (n : Nat) (T : Addr) (fl : Value) (dO : Option Addr) : Prop :=
  ∃ oe vs oT ts, h.get? e = some oe ∧ (oe.cls = cls ∧ oe.dict = dO) ∧ oe.data = .fields vs ∧ vs.size = n ∧ vs[1]? = some (.ref T) ∧ vs[2]? = some .none ∧ T ≠ e ∧ h.get? T = some oT ∧ oT.data = .fields ts ∧ ts[3]? = some fl
def Fresh (h : Heap) (e : Addr) (cls : Value) (n : Nat) (dO : Option Addr) : Prop := ∃ oe vs, h.get? e = some oe ∧ (oe.cls = cls ∧ oe.dict = dO) ∧ oe.data = .fields vs ∧ vs.size = n ∧ vs[1]? = some .none ∧ vs[2]? = some .none
section
variable {M : Model} {A : Around} {E : Value → Shared → Prop} {s : Shared}
theorem entry_all {base : Heap} {env : Env} {outer : List Env} {L e : Addr} {oe : Obj} {vs : Array Value} {head : Value} {more : Bool} {Q : Unit → Shared → Prop}
    (hfr : A.frames = some (env :: outer)) (hl : s.heap.FunFrames base (env :: outer)) (hf : env.frame = some L) (he : s.heap.get? e = some oe) (hd : oe.data = .fields vs) (hz : 1 < vs.size) (h2 : vs[2]? = some .none)
    (k : ∀ h' T, Gone ((env :: outer).filterMap (·.frame)) e none s.heap h' → s.heap.get? T = none → Fly h' e oe.cls vs.size T (rawInt L) oe.dict → Q () { s with heap := h' }) :
    wpAny M A (do let a ← frameOf env; let pl ← entryPlaceOf L more; let b ← EntryCells.newEntry head a .none (rawInt L) .none pl; setField (.ref e) 1 b) Q E s := by
  have nfr : e ∉ (env :: outer).filterMap (·.frame) := fun hm => by
    obtain ⟨_, o, ho, hn⟩ := hl.mem hm
    rw [he] at ho; cases ho; exact hn vs hd
  refine wpAny_bind (wpAny_frameOf_fun hfr hl hf fun g hg => wpAny_bind (wpAny_entryPlaceOf fun pl hpl => ?_))
  unfold EntryCells.newEntry newFields
  refine wpAny_bind (wpAny_newObj_type ?_ (hpl.sizeOk5 _ _ _ _ _))
  have hts3 : (([head, Value.ref L, Value.none, rawInt L, Value.none] ++ (if pl.isEmpty then List.replicate 6 Value.none else pl)).toArray)[3]? = some (rawInt L) := by simp
  revert hts3
  generalize (([head, Value.ref L, Value.none, rawInt L, Value.none] ++ (if pl.isEmpty then List.replicate 6 Value.none else pl)).toArray) = ts
  intro hts3
  have ge : g.get? e = some oe := (hg.2.1 e nfr).trans he
  refine wpAny_setField (Heap.get?_push_of_some _ ge) hd hz ?_
  have nT : g.objs.size ≠ e := Nat.ne_of_gt (Heap.lt_size ge)
  have stays : ∀ b o, b ≠ e → g.get? b = some o → ((g.push ⟨.type "traceback", none, .fields ts, #[]⟩).update e (Obj.mapFields (·.setIfInBounds 1 (Value.ref g.objs.size)))).get? b = some o := fun b o hb q => by
    rw [Heap.get?_update_other _ _ (Ne.symm hb)]
    exact Heap.get?_push_of_some _ q
  have dm := Obj.data_mapFields hd (·.setIfInBounds 1 (Value.ref g.objs.size))
  have atE := Heap.get?_update_self (Obj.mapFields (·.setIfInBounds 1 (Value.ref g.objs.size))) (Heap.get?_push_of_some ⟨.type "traceback", none, .fields ts, #[]⟩ ge) (Obj.isFreed_of_fields dm)
  have atT : ((g.push ⟨.type "traceback", none, .fields ts, #[]⟩).update e (Obj.mapFields (·.setIfInBounds 1 (Value.ref g.objs.size)))).get? g.objs.size = some ⟨.type "traceback", none, .fields ts, #[]⟩ := by
    rw [Heap.get?_update_other _ _ (Ne.symm nT)]
    exact Heap.get?_push_size g rfl
  refine k _ g.objs.size ⟨fun b o hb _ hn q => ?_, fun b o hb _ q => ?_, fun b o q => ?_⟩ ?_ ?_
  · exact stays b o hb ((hg.2.1 b hn).trans q)
  · obtain ⟨sl, z⟩ := hg.2.2 b o q
    exact ⟨sl, stays b _ hb z⟩
  · by_cases hb : b = e
    · subst hb; exact ⟨_, atE⟩
    · obtain ⟨sl, z⟩ := hg.2.2 b o q
      exact ⟨_, stays b _ hb z⟩
  · rw [hg.1]
    exact Heap.get?_none_of_le (Nat.le_refl _)
  · exact ⟨_, _, _, _, atE, ⟨Obj.cls_mapFields _ _, dict_mapFields _ _⟩, dm, by simp, by simp [hz], by rw [Array.getElem?_setIfInBounds_ne (by decide)]; exact h2, nT, atT, rfl, hts3⟩
theorem note_fresh {base : Heap} {env : Env} {outer : List Env} {L e : Addr} {cls : Value} {n : Nat} {dO : Option Addr} {Q : Unit → Shared → Prop} (hn : 1 < n)
    (hfr : A.frames = some (env :: outer)) (hl : s.heap.FunFrames base (env :: outer)) (hf : env.frame = some L) (he : Fresh s.heap e cls n dO)
    (k : ∀ h' T, Gone ((env :: outer).filterMap (·.frame)) e none s.heap h' → s.heap.get? T = none → Fly h' e cls n T (rawInt L) dO → Q () { s with heap := h' }) : wpAny M A (noteFrame (.ref e) env) Q E s := by
  obtain ⟨oe, vs, ge, ⟨rfl, rfl⟩, hd, rfl, h1, h2⟩ := he
  unfold noteFrame
  simp only [hf]
  refine wpAny_bind (wpAny_field ge hd h1 ?_)
  rw [if_neg (by decide)]
  exact entry_all hfr hl hf ge hd hn h2 k
theorem note_fly {base : Heap} {env : Env} {outer : List Env} {L e T : Addr} {cls : Value} {n : Nat} {dO : Option Addr} {Q : Unit → Shared → Prop} (hn : 1 < n)
    (hfr : A.frames = some (env :: outer)) (hl : s.heap.FunFrames base (env :: outer)) (hf : env.frame = some L) (he : Fly s.heap e cls n T .none dO)
    (k : ∀ h' T', Gone ((env :: outer).filterMap (·.frame)) e (some T) s.heap h' → s.heap.get? T' = none → Fly h' e cls n T' (rawInt L) dO → Q () { s with heap := h' }) : wpAny M A (noteFrame (.ref e) env) Q E s := by
  obtain ⟨oe, vs, oT, ts, ge, ⟨rfl, rfl⟩, hd, rfl, h1, h2, nT, gT, dT, h3⟩ := he
  unfold noteFrame
  simp only [hf]
  refine wpAny_bind (wpAny_field ge hd h1 ?_)
  rw [if_pos (show (Value.ref T != Value.none) = true from by simp)]
  refine wpAny_bind (wpAny_field gT dT h3 ?_)
  rw [if_neg (show ¬ ((Value.none == rawInt L) = true) from by simp [rawInt])]
  refine wpAny_bind (wpAny_setField gT dT (Array.getElem?_eq_some_iff.mp h3).1 ?_)
  have oth : ∀ b, b ≠ T → (s.heap.update T (Obj.mapFields (·.setIfInBounds 3 Value.none))).get? b = s.heap.get? b := fun b hb => Heap.get?_update_other _ _ (Ne.symm hb)
  have atT := Heap.get?_update_self (Obj.mapFields (·.setIfInBounds 3 Value.none)) gT (Obj.isFreed_of_fields (Obj.data_mapFields dT _))
  have hl' : (s.heap.update T (Obj.mapFields (·.setIfInBounds 3 Value.none))).FunFrames base (env :: outer) := hl.of_keeps fun b o hb q => ⟨o, (oth b fun z => by rw [z, gT] at hb; cases hb; exact q ts dT).trans hb, rfl⟩
  refine entry_all hfr hl' hf ((oth e (Ne.symm nT)).trans ge) hd hn h2 fun h' T' g new fly => k h' T' ⟨fun b o hb ht hm q => ?_, fun b o hb ht q => ?_, fun b o q => ?_⟩ ?_ fly
  · exact g.keep b o hb (by simp) hm ((oth b fun z => ht (by rw [z])).trans q)
  · exact g.slot b o hb (by simp) ((oth b fun z => ht (by rw [z])).trans q)
  · by_cases hb : b = T
    · subst hb; exact g.there _ _ atT
    · exact g.there b o ((oth b hb).trans q)
  · cases q : s.heap.get? T' with
    | none => rfl
    | some o =>
      by_cases hb : T' = T
      · subst hb; rw [atT] at new; cases new
      · rw [oth T' hb, q] at new; cases new
theorem flight_none {e T : Addr} {cls fl : Value} {n : Nat} {dO : Option Addr} {Q : Unit → Shared → Prop} (he : Fly s.heap e cls n T fl dO)
    (k : ∀ h', (∀ b o, b ≠ T → s.heap.get? b = some o → h'.get? b = some o) → (∃ o', h'.get? T = some o') → (∀ b, s.heap.get? b = none → h'.get? b = none) → Fly h' e cls n T .none dO → Q () { s with heap := h' }) : wpAny M A (setFlight (.ref e) none) Q E s := by
  obtain ⟨oe, vs, oT, ts, ge, ⟨rfl, rfl⟩, hd, rfl, h1, h2, nT, gT, dT, h3⟩ := he
  unfold setFlight
  refine wpAny_bind (wpAny_field ge hd h1 ?_)
  rw [if_pos (show (Value.ref T != Value.none) = true from by simp)]
  have hz : 3 < ts.size := (Array.getElem?_eq_some_iff.mp h3).1
  refine wpAny_setField gT dT hz ?_
  have oth : ∀ b, b ≠ T → (s.heap.update T (Obj.mapFields (·.setIfInBounds 3 ((none : Option Addr).elim Value.none fun f => rawInt f)))).get? b = s.heap.get? b := fun b hb => Heap.get?_update_other _ _ (Ne.symm hb)
  have atT := Heap.get?_update_self (Obj.mapFields (·.setIfInBounds 3 ((none : Option Addr).elim Value.none fun f => rawInt f))) gT (Obj.isFreed_of_fields (Obj.data_mapFields dT _))
  refine k _ (fun b o hb q => (oth b hb).trans q) ⟨_, atT⟩ (fun b q => (oth b fun z => by rw [z, gT] at q; cases q).trans q) ⟨oe, vs, _, _, (oth e (Ne.symm nT)).trans ge, ⟨rfl, rfl⟩, hd, rfl, h1, h2, nT, atT, Obj.data_mapFields dT _, by simp [hz]⟩
end
end FX
namespace FX
open PySem
section
variable {prog : Program} {w : World} {A : Around} {E : Value → Shared → Prop} {s : Shared}
theorem entry_unchain : entryFor table "proto.unchain" = some Builtin.«proto.unchain» := entryFor_of_tree (by kernel_rfl)
/-- a new exception within an except suite: what is handled becomes its context -/
theorem raiseNew_in {α : Type} {Q : α → Shared → Prop} {h e : Addr} {oh oe : Obj} {fh fe : Array Value} (hh : A.handled = some (.ref h)) (ne : h ≠ e) (gh : s.heap.get? h = some oh) (dh : oh.data = .fields fh) (c2 : fh[2]? = some .none)
    (ge : s.heap.get? e = some oe) (de : oe.data = .fields fe) (z : 2 < fe.size) (k : E (.ref e) { s with heap := s.heap.update e (Obj.mapFields (·.setIfInBounds 2 (.ref h))) }) : wpAny (model prog w) A (raiseNew (.ref e) : Sem α) Q E s := by
  unfold raiseNew
  refine wpAny_bind (wpAny_handled ?_)
  rw [hh]
  dsimp only
  rw [if_pos (by simp [ne])]
  refine wpAny_bind (wpAny_holding (PyProof.Rows.runValue_entry entry_unchain ?_))
  unfold Builtin.«proto.unchain»
  dsimp only
  refine wpAny_bind (wpAny_field gh dh c2 ?_)
  rw [if_pos (by decide)]
  refine wpAny_pure ⟨_, rfl, wpAny_bind ?_⟩
  unfold updateField
  refine wpAny_bind (wpAny_load ge ?_)
  rw [de]
  dsimp only
  rw [if_pos z]
  exact wpAny_update ge (wpAny_throw k)
/-- a handled thing: an exception without a context -/
def Held (h : Heap) (v : Value) : Prop := ∃ a o fs, v = .ref a ∧ h.get? a = some o ∧ o.data = .fields fs ∧ fs[2]? = some .none
/-- a walk's end, wherever it is -/
theorem stop_any {α : Type} {Q : α → Shared → Prop} (hh : A.handled = none ∨ ∃ v, A.handled = some v ∧ Held s.heap v)
    (k : ∀ h' e, (∀ b o, s.heap.get? b = some o → h'.get? b = some o) → (∃ o, h'.get? e = some o ∧ o.cls = .type "StopIteration") → E (.ref e) { s with heap := h' }) : wpAny (model prog w) A (do let x ← newExc (.type "StopIteration") []; raiseNew x : Sem α) Q E s := by
  simp only [newExc, newTuple]
  refine wpAny_bind (wpAny_bind (wpAny_newObj_type ?_ (by size_fits)))
  refine wpAny_bind (m := firstArgMember _ _) (wpAny_of_eq (a := Value.none) (by first | rfl | (simp only [firstArgMember]; rfl)) ?_)
  refine wpAny_newObj_type ?_ (by size_fits)
  have kp : ∀ b o, s.heap.get? b = some o → ((s.heap.push { cls := .type "tuple", data := .seq #[] }).push { cls := .type "StopIteration", data := .fields (#[Value.ref s.heap.objs.size, .none, .none, .none, .bool false, .none] ++ ownMembersOf (.type "StopIteration") []) }).get? b = some o := fun b o q => Heap.get?_push_of_some _ (Heap.get?_push_of_some _ q)
  rcases hh with hh | ⟨v, hh, a, oa, fa, rfl, ga, da, c2⟩
  · refine wpAny_raiseNew_none hh (k _ _ kp ⟨_, Heap.get?_push_size _ rfl, rfl⟩)
  · have ne : a ≠ (s.heap.push { cls := .type "tuple", data := .seq #[] }).objs.size := Nat.ne_of_lt (Heap.lt_size (Heap.get?_push_of_some _ ga))
    refine raiseNew_in hh ne (kp _ _ ga) da c2 (Heap.get?_push_size _ rfl) rfl (by simp; omega) (k _ _ (fun b o q => ?_) ⟨_, Heap.get?_update_self _ (Heap.get?_push_size _ rfl) (Obj.isFreed_of_fields (Obj.data_mapFields rfl _)), Obj.cls_mapFields _ _⟩)
    rw [Heap.get?_update_other _ _ (Ne.symm (Nat.ne_of_lt (Heap.lt_size (Heap.get?_push_of_some { cls := .type "tuple", data := .seq #[] } q))))]
    exact kp b o q
end
end FX
namespace FX
open PySem
section
variable {prog : Program} {w : World} {A : Around} {E : Value → Shared → Prop} {s : Shared}
/-- where a walk may end: nothing is handled, or an exception without a context -/
def Calm (A : Around) (h : Heap) : Prop := A.handled = none ∨ ∃ v, A.handled = some v ∧ Held h v
theorem Held.keep {h h' : Heap} {v : Value} (x : Held h v) (k : ∀ b o, h.get? b = some o → (∃ fs, o.data = .fields fs ∧ fs[2]? = some .none) → ∃ o', h'.get? b = some o' ∧ ∃ fs, o'.data = .fields fs ∧ fs[2]? = some .none) : Held h' v := by
  obtain ⟨a, o, fs, e, g, d, c⟩ := x
  obtain ⟨o', g', fs', d', c'⟩ := k a o g ⟨fs, d, c⟩
  exact ⟨a, o', fs', e, g', d', c'⟩
theorem Held.keeps {h h' : Heap} {v : Value} (x : Held h v) (k : ∀ b o, h.get? b = some o → h'.get? b = some o) : Held h' v := x.keep fun b o g r => ⟨o, k b o g, r⟩
theorem Calm.keeps {h h' : Heap} (x : Calm A h) (k : ∀ b o, h.get? b = some o → h'.get? b = some o) : Calm A h' := by
  rcases x with x | ⟨v, x, y⟩
  · exact .inl x
  · exact .inr ⟨v, x, y.keeps k⟩
theorem next_list_end {it l : Addr} {i : Nat} {items : Array Value} {Q : Option Value → Shared → Prop} (hh : Calm A s.heap) (hit : s.heap.IsListIter it l i) (hl : s.heap.IsList l items) (hx : items[i]? = none) (hne : ∀ v, A.handled = some v → v ≠ .ref it)
    (hQ : ∀ h', Heap.ExtBut it s.heap h' → Q none { s with heap := h' }) : wpAny (model prog w) A (pyNext (.ref it)) Q E s := by
  obtain ⟨o, ho, hc, hd⟩ := id hit
  obtain ⟨ol, hol, _, nl, hdl⟩ := hl
  unfold pyNext
  refine wpAny_bind (wpAny_attempt (wpAny_callSpecial?_slot (name := Str.ofString "__next__") hit.typeIs slot_listiter_next (wpAny_call_entry slot_listiter_next hit.typeIs entry_listiter_next ?_ (args_listiter_next _))))
  show wpAny _ _ (field (.ref it) 0 >>= _) _ _ s
  refine wpAny_bind (wpAny_field ho hd (x := .ref l) rfl ?_)
  show wpAny _ _ (if (Value.ref l == Value.none) = true then _ else _) _ _ s
  rw [if_neg (by intro z; cases z)]
  refine wpAny_bind (wpAny_field ho hd (x := .int i 0) rfl (wpAny_bind (wpAny_seqItems hol hdl ?_)))
  simp only [Int.toNat_natCast, hx]
  refine wpAny_bind (wpAny_rule (wpAny_bind (wpAny_setField ho hd (by simp) ?_)))
  have oth : ∀ b o', b ≠ it → s.heap.get? b = some o' → (s.heap.update it (Obj.mapFields (·.setIfInBounds 0 Value.none))).get? b = some o' := fun b o' hb q => (Heap.get?_update_other _ _ (Ne.symm hb)).trans q
  unfold Builtin.SmallTypes.stopIteration
  refine stop_any (A := A.in1) ?_ fun h' e kp ⟨oe, ge, ce⟩ => ?_
  · rcases hh with hh | ⟨v, hv, a, oa, fa, rfl, ga, da, c2⟩
    · exact .inl hh
    · exact .inr ⟨_, hv, a, oa, fa, rfl, oth a oa (fun z => hne _ hv (by rw [z])) ga, da, c2⟩
  · refine wpAny_bind (wpAny_isInstance (T := "StopIteration") (b := true) ⟨_, ge, ce⟩ isSubtype_stop ?_)
    exact wpAny_pure (hQ _ fun b o' hb q => kp b o' (oth b o' hb q))
end
section
variable {M : Model} {A : Around} {E : Value → Shared → Prop}
variable {nm q nm' q' : Str} {C N D N' : Addr} {bs bm bs' bm' : List Value} {hdct hdct' : Bool} {sn sn' : List Str} {sub sub' : List Value} {ab ab' : Bool} {col col' : Option Bool} {dd dd' : Option Addr} {k0 k1 k2 k3 k5 l0 l1 l2 l3 l5 : Option Value} {newId newId' : String}
/-- an exception of the own class C against the own class D -/
theorem matches_own {h : Heap} {g : Array GenState} {d : Drawn} {t : Nat} {os : OsState} {e : Addr} {oe : Obj} {Q : Bool → Shared → Prop}
    (hC : h.get? C = some (excClassObj nm q C N bs bm hdct sn sub ab col dd k0 k1 k2 k3 k5 newId)) (hD : h.get? D = some (excClassObj nm' q' D N' bs' bm' hdct' sn' sub' ab' col' dd' l0 l1 l2 l3 l5 newId'))
    (he : h.get? e = some oe) (hcls : oe.cls = .ref C) (hbase : bm'.contains (.type "BaseException") = true)
    (hq : Q ((Value.ref C :: bm).contains (.ref D)) ⟨h, g, d, t, os⟩) : wpAny M A (excMatches (.ref e) (.ref D)) Q E ⟨h, g, d, t, os⟩ := by
  have hB : (Value.ref D :: bm').contains (.type "BaseException") = true := by rw [List.contains_cons, hbase, Bool.or_true]
  have f := tc_notTuple
  unfold excMatches
  generalize hb : (Value.ref C :: bm).contains (.ref D) = r at hq
  repeat (first | (with_reducible refine wpAny_loadPart_at he ?_; rw [hcls]) | with_reducible refine wpAny_loadPart_at hD ?_ | (with_reducible refine wpAny_isSubtype_exc hD ?_; rw [hB]) | (with_reducible refine wpAny_isSubtype_exc hC ?_; rw [hb]) | wp_step)
  cases r <;> (wp_walk; exact hq)
end
end FX

set_option Elab.async false
set_option linter.all false
set_option maxRecDepth 100000
set_option maxHeartbeats 4000000
/-! A functional reading over the hand layer: values without addresses but those of made things, which are counted from 0 on. -/
namespace FS
open PySem PySem.Spec PyProof.Rows L2
abbrev St := L2.St

inductive PV where
  | non | bl (b : Bool) | int (i : Int) | str (x : Str) | tup (xs : List PV) | ref (i : Nat) | adr (a : Addr) | ty (n : String)
  | exc (C : Addr) (ns : List Str) (xs : List PV)
inductive VO where
  | lst (xs : List PV) | scr (xs : List Int) | dct (kvs : List (PV × PV)) | ins (C : Addr) (fs : List (Str × PV))
abbrev VH := List VO
/-- a raised thing: its class and its own fields -/
structure XV where
  cls : Addr
  ns : List Str
  xs : List PV
inductive Out (α : Type) where
  | ok (a : α) (h : VH) | exc (x : XV) (h : VH) | bad
abbrev M (α : Type) := VH → Out α
namespace M
def ret {α : Type} (a : α) : M α := fun h => .ok a h
def bind {α β : Type} (m : M α) (k : α → M β) : M β := fun h => match m h with
  | .ok a h' => k a h'
  | .exc x h' => .exc x h'
  | .bad => .bad
def bad {α : Type} : M α := fun _ => .bad
end M
abbrev Tau := List (Option PV)
abbrev FE := Tau → M PV
abbrev FT := Tau → M Bool
abbrev FA := Tau → M (List PV)
inductive Fl where
  | next (τ : Tau) (h : VH) | brk (τ : Tau) (h : VH) | cont (τ : Tau) (h : VH) | ret (v : PV) (h : VH) | exc (x : XV) (h : VH) | bad
abbrev FSt := Tau → VH → Fl

/-! ### the relation -/
/-- an exception that is held: its class, its own dict, no context -/
def ExcPhi (e C : Addr) (dO : Option Addr) : Heap → Prop := fun h => ∃ oe fs, h.get? e = some oe ∧ oe.cls = .ref C ∧ oe.dict = dO ∧ oe.data = .fields fs ∧ fs[2]? = some .none ∧ 5 < fs.size
mutual
def Rep (ρ : List Addr) (H : Hp) : PV → V → Prop
  | .non, v => v = .non
  | .bl b, v => v = .bl b
  | .int i, v => v = .int i
  | .str x, v => v = .str x
  | .ref i, v => ∃ a, ρ[i]? = some a ∧ v = .ref a
  | .adr a, v => v = .ref a
  | .ty n, v => v = .ty n
  | .tup xs, v => ∃ a vs, v = .ref a ∧ H a = some (.tup vs) ∧ Reps ρ H xs vs
  | .exc C ns xs, v => ∃ e dO, v = .ref e ∧ H e = some (.ext (ExcPhi e C dO)) ∧ ((dO = none ∧ ns = [] ∧ xs = []) ∨ ∃ d vs, dO = some d ∧ H d = some (.xd (ns.zip vs)) ∧ ns.length = xs.length ∧ Reps ρ H xs vs)
def Reps (ρ : List Addr) (H : Hp) : List PV → List V → Prop
  | [], vs => vs = []
  | x :: xs, vs => ∃ v ws, vs = v :: ws ∧ Rep ρ H x v ∧ Reps ρ H xs ws
end
/-- the keys of a dict, as the layer tells them -/
def scK : PV → Option Key
  | .int i => some (.inl i)
  | .str x => some (.inr x)
  | _ => none
def scKs : List PV → Option (List Key)
  | [] => some []
  | x :: xs => match scK x, scKs xs with
    | some k, some ks => some (k :: ks)
    | _, _ => none
def tpK : PV → Option (List Key)
  | .tup xs => scKs xs
  | _ => none
def KRep (ρ : List Addr) (H : Hp) : List (PV × PV) → List (Key × V) → Prop
  | [], l => l = []
  | p :: ps, l => ∃ k v r, l = (k, v) :: r ∧ scK p.1 = some k ∧ Rep ρ H p.2 v ∧ KRep ρ H ps r
def TRep (ρ : List Addr) (H : Hp) : List (PV × PV) → List (List Key × V) → Prop
  | [], l => l = []
  | p :: ps, l => ∃ k v r, l = (k, v) :: r ∧ tpK p.1 = some k ∧ Rep ρ H p.2 v ∧ TRep ρ H ps r
def FRep (ρ : List Addr) (H : Hp) : List (Str × PV) → List (Str × V) → Prop
  | [], l => l = []
  | p :: ps, l => ∃ v r, l = (p.1, v) :: r ∧ Rep ρ H p.2 v ∧ FRep ρ H ps r
def ORel (ρ : List Addr) (H : Hp) (a : Addr) : VO → Prop
  | .lst xs => ∃ vs, H a = some (.lst vs) ∧ Reps ρ H xs vs
  | .scr ns => ∃ o, H a = some (.frz o (.lst (ns.map V.int)))
  | .dct kvs => (∃ l, H a = some (.dK l) ∧ KRep ρ H kvs l) ∨ ∃ l, H a = some (.dT l) ∧ TRep ρ H kvs l
  | .ins C fs => ∃ dx l, H a = some (.ins C dx l) ∧ FRep ρ H fs l
/-- a def's table of the code of its lambdas: what stands in it is of that name -/
def TabOk (H : Hp) (P : Addr) (q : Str) : Prop := ∃ ps, H P = some (.tbl ps) ∧ TriplesOk ps.toList ∧
  ∀ pos cv, codeAmong pos ps.toList = some cv → ∃ c' φ, cv = .ref c' ∧ H c' = some (.ext φ) ∧ ∀ h : Heap, φ h → h.CodeRec (.ref c') q
abbrev Tb := List (Addr × Addr × Str)
structure Sim (tb : Tb) (ρ : List Addr) (vh : VH) (H : Hp) : Prop where
  tab : ∀ c P q, (c, P, q) ∈ tb → TabOk H P q
  nd : ρ.Nodup
  len : ρ.length = vh.length
  obj : ∀ (i : Nat) (a : Addr) (o : VO), ρ[i]? = some a → vh[i]? = some o → ORel ρ H a o
/-- the objects that are counted -/
def Cnt : HO → Prop
  | .lst _ => True
  | .frz _ _ => True
  | .dK _ => True
  | .dT _ => True
  | .ins _ _ _ => True
  | _ => False
/-- the things that never change -/
def Imm : HO → Prop
  | .tup _ => True
  | .ext _ => True
  | .xd _ => True
  | _ => False
theorem Cnt.no {u v : HO} (c : Cnt u) (i : Imm v) : v ≠ u := fun z => by subst z; cases v <;> first | exact c | exact i
def Keep (H H' : Hp) : Prop := ∀ a u, Imm u → H a = some u → H' a = some u
variable {tb : Tb}
theorem Keep.refl {H : Hp} : Keep H H := fun _ _ _ h => h
theorem Keep.trans {H H1 H2 : Hp} (x : Keep H H1) (y : Keep H1 H2) : Keep H H2 := fun a u i h => y a u i (x a u i h)
theorem pre_get {ρ ρ' : List Addr} (p : ρ <+: ρ') {i : Nat} {a : Addr} (h : ρ[i]? = some a) : ρ'[i]? = some a := by
  obtain ⟨t, rfl⟩ := p
  rw [List.getElem?_append_left (List.getElem?_eq_some_iff.mp h).1]; exact h
mutual
theorem Rep.mono {ρ ρ' : List Addr} {H H' : Hp} (p : ρ <+: ρ') (k : Keep H H') : ∀ {x : PV} {v : V}, Rep ρ H x v → Rep ρ' H' x v
  | .non, _, h => h
  | .bl _, _, h => h
  | .int _, _, h => h
  | .str _, _, h => h
  | .ref _, _, h => let ⟨a, e, z⟩ := h; ⟨a, pre_get p e, z⟩
  | .adr _, _, h => h
  | .ty _, _, h => h
  | .tup xs, _, h => let ⟨a, vs, e, z, r⟩ := h; ⟨a, vs, e, k a _ trivial z, Reps.mono p k r⟩
  | .exc C ns xs, _, h => by
    obtain ⟨e, dO, z1, z2, z3⟩ := h
    refine ⟨e, dO, z1, k _ _ trivial z2, ?_⟩
    rcases z3 with z3 | ⟨d, vs, q1, q2, q3, q4⟩
    · exact .inl z3
    · exact .inr ⟨d, vs, q1, k _ _ trivial q2, q3, Reps.mono p k q4⟩
theorem Reps.mono {ρ ρ' : List Addr} {H H' : Hp} (p : ρ <+: ρ') (k : Keep H H') : ∀ {xs : List PV} {vs : List V}, Reps ρ H xs vs → Reps ρ' H' xs vs
  | [], _, h => h
  | _ :: _, _, h => let ⟨v, ws, e, r, t⟩ := h; ⟨v, ws, e, Rep.mono p k r, Reps.mono p k t⟩
end
theorem KRep.mono {ρ ρ' : List Addr} {H H' : Hp} (p : ρ <+: ρ') (k : Keep H H') : ∀ {xs : List (PV × PV)} {vs : List (Key × V)}, KRep ρ H xs vs → KRep ρ' H' xs vs
  | [], _, h => h
  | _ :: _, _, h => let ⟨v, ws, l, e, r, t, q⟩ := h; ⟨v, ws, l, e, r, Rep.mono p k t, KRep.mono p k q⟩
theorem TRep.mono {ρ ρ' : List Addr} {H H' : Hp} (p : ρ <+: ρ') (k : Keep H H') : ∀ {xs : List (PV × PV)} {vs : List (List Key × V)}, TRep ρ H xs vs → TRep ρ' H' xs vs
  | [], _, h => h
  | _ :: _, _, h => let ⟨v, ws, l, e, r, t, q⟩ := h; ⟨v, ws, l, e, r, Rep.mono p k t, TRep.mono p k q⟩
theorem FRep.mono {ρ ρ' : List Addr} {H H' : Hp} (p : ρ <+: ρ') (k : Keep H H') : ∀ {xs : List (Str × PV)} {vs : List (Str × V)}, FRep ρ H xs vs → FRep ρ' H' xs vs
  | [], _, h => h
  | _ :: _, _, h => let ⟨v, l, e, t, q⟩ := h; ⟨v, l, e, Rep.mono p k t, FRep.mono p k q⟩
/-- an object's description, where its own entry is the same -/
theorem ORel.mono {ρ ρ' : List Addr} {H H' : Hp} {a : Addr} {o : VO} (p : ρ <+: ρ') (k : Keep H H') (e : H' a = H a) (h : ORel ρ H a o) : ORel ρ' H' a o := by
  cases o with
  | lst xs => obtain ⟨vs, z, r⟩ := h; exact ⟨vs, e.trans z, r.mono p k⟩
  | scr ns => obtain ⟨ob, z⟩ := h; exact ⟨ob, e.trans z⟩
  | dct kvs =>
    rcases h with ⟨l, z, r⟩ | ⟨l, z, r⟩
    · exact .inl ⟨l, e.trans z, r.mono p k⟩
    · exact .inr ⟨l, e.trans z, r.mono p k⟩
  | ins C fs => obtain ⟨dx, l, z, r⟩ := h; exact ⟨dx, l, e.trans z, r.mono p k⟩
theorem ORel.some {ρ : List Addr} {H : Hp} {a : Addr} {o : VO} (h : ORel ρ H a o) : ∃ u, H a = Option.some u ∧ Cnt u := by
  cases o with
  | lst xs => obtain ⟨vs, z, r⟩ := h; exact ⟨_, z, trivial⟩
  | scr ns => obtain ⟨ob, z⟩ := h; exact ⟨_, z, trivial⟩
  | dct kvs =>
    rcases h with ⟨l, z, r⟩ | ⟨l, z, r⟩
    · exact ⟨_, z, trivial⟩
    · exact ⟨_, z, trivial⟩
  | ins C fs => obtain ⟨dx, l, z, r⟩ := h; exact ⟨_, z, trivial⟩
theorem Sim.at {ρ : List Addr} {vh : VH} {H : Hp} (S : Sim tb ρ vh H) {i : Nat} {a : Addr} (h : ρ[i]? = Option.some a) : ∃ o, vh[i]? = Option.some o ∧ ORel ρ H a o := by
  have hl : i < vh.length := by rw [← S.len]; exact (List.getElem?_eq_some_iff.mp h).1
  exact ⟨vh[i], List.getElem?_eq_getElem hl, S.obj i a _ h (List.getElem?_eq_getElem hl)⟩
theorem Sim.some {ρ : List Addr} {vh : VH} {H : Hp} (S : Sim tb ρ vh H) {a : Addr} (h : a ∈ ρ) : ∃ u, H a = Option.some u ∧ Cnt u := by
  obtain ⟨i, hi⟩ := List.getElem?_of_mem h
  obtain ⟨o, _, r⟩ := S.at hi
  exact r.some
theorem Keep.new {H : Hp} {p : Addr} {o : HO} (h : H p = none) : Keep H (upd H p o) := fun a u i e => by
  rw [upd_ne (ne_of_none e h)]; exact e
theorem Keep.put {H : Hp} {p : Addr} {o u : HO} (h : H p = Option.some u) (n : Cnt u) : Keep H (upd H p o) := fun a v i e => by
  rw [upd_ne (ne_of e h (n.no i))]; exact e
theorem TabOk.new {H : Hp} {P : Addr} {q : Str} {p : Addr} {o : HO} (t : TabOk H P q) (h : H p = none) : TabOk (upd H p o) P q := by
  obtain ⟨ps, e, ok, k⟩ := t
  refine ⟨ps, by rw [upd_ne (ne_of_none e h)]; exact e, ok, fun pos cv z => ?_⟩
  obtain ⟨c', φ, z1, z2, z3⟩ := k pos cv z
  exact ⟨c', φ, z1, by rw [upd_ne (ne_of_none z2 h)]; exact z2, z3⟩
theorem TabOk.put {H : Hp} {P : Addr} {q : Str} {p : Addr} {o u : HO} (t : TabOk H P q) (h : H p = Option.some u) (n : Cnt u) : TabOk (upd H p o) P q := by
  obtain ⟨ps, e, ok, k⟩ := t
  refine ⟨ps, by rw [upd_ne (ne_of e h (fun z => by rw [← z] at n; exact n))]; exact e, ok, fun pos cv z => ?_⟩
  obtain ⟨c', φ, z1, z2, z3⟩ := k pos cv z
  exact ⟨c', φ, z1, by rw [upd_ne (ne_of z2 h (fun z => by rw [← z] at n; exact n))]; exact z2, z3⟩
/-- a new tuple, or another thing that is not counted -/
theorem Sim.side {ρ : List Addr} {vh : VH} {H : Hp} (S : Sim tb ρ vh H) {p : Addr} {o : HO} (h : H p = none) : Sim tb ρ vh (upd H p o) :=
  ⟨fun c P q m => (S.tab c P q m).new h, S.nd, S.len, fun i a ob e1 e2 => (S.obj i a ob e1 e2).mono List.prefix_rfl (Keep.new h) (by
    obtain ⟨u, hu, _⟩ := S.some (List.mem_of_getElem? e1)
    rw [upd_ne (ne_of_none hu h)])⟩
/-- a new counted thing -/
theorem Sim.push {ρ : List Addr} {vh : VH} {H : Hp} (S : Sim tb ρ vh H) {p : Addr} {u : HO} {o : VO} (h : H p = none) (hr : ORel (ρ ++ [p]) (upd H p u) p o) : Sim tb (ρ ++ [p]) (vh ++ [o]) (upd H p u) := by
  have np : p ∉ ρ := fun z => by obtain ⟨u, hu, _⟩ := S.some z; rw [h] at hu; cases hu
  refine ⟨fun c P q m => (S.tab c P q m).new h, ?_, by simp [S.len], fun i a ob e1 e2 => ?_⟩
  · rw [List.nodup_append]; exact ⟨S.nd, by simp, fun a ha b hb => by simp at hb; subst hb; intro z; subst z; exact np ha⟩
  · by_cases hi : i < ρ.length
    · rw [List.getElem?_append_left hi] at e1
      rw [List.getElem?_append_left (by rw [← S.len]; exact hi)] at e2
      refine (S.obj i a ob e1 e2).mono (List.prefix_append _ _) (Keep.new h) ?_
      obtain ⟨u, hu, _⟩ := S.some (List.mem_of_getElem? e1)
      rw [upd_ne (ne_of_none hu h)]
    · have hz : i = ρ.length := by
        have := (List.getElem?_eq_some_iff.mp e1).1
        simp at this; omega
      subst hz
      simp at e1
      rw [S.len] at e2
      simp at e2
      subst e1; subst e2; exact hr
/-- a counted thing is changed -/
theorem Sim.set {ρ : List Addr} {vh : VH} {H : Hp} (S : Sim tb ρ vh H) {i : Nat} {p : Addr} {u : HO} {o : VO} (h : ρ[i]? = Option.some p) (hr : ORel ρ (upd H p u) p o) : Sim tb ρ (vh.set i o) (upd H p u) := by
  obtain ⟨u0, h0, n0⟩ := S.some (List.mem_of_getElem? h)
  refine ⟨fun c P q m => (S.tab c P q m).put h0 n0, S.nd, by simp [S.len], fun j a ob e1 e2 => ?_⟩
  by_cases hj : j = i
  · subst hj
    rw [h] at e1; cases e1
    have hl : j < vh.length := by rw [← S.len]; exact (List.getElem?_eq_some_iff.mp h).1
    rw [List.getElem?_set_self hl] at e2
    cases e2
    exact hr
  · rw [List.getElem?_set_ne (Ne.symm hj)] at e2
    refine (S.obj j a ob e1 e2).mono List.prefix_rfl (Keep.put h0 n0) ?_
    have : a ≠ p := fun z => by
      subst z
      obtain ⟨h1, q1⟩ := List.getElem?_eq_some_iff.mp e1
      obtain ⟨h2, q2⟩ := List.getElem?_eq_some_iff.mp h
      exact hj ((List.getElem_inj S.nd).mp (q1.trans q2.symm))
    rw [upd_ne this]
theorem Keep.put' {ρ : List Addr} {vh : VH} {H : Hp} (S : Sim tb ρ vh H) {p : Addr} {o : HO} (h : p ∈ ρ) : Keep H (upd H p o) := by
  obtain ⟨u0, h0, n0⟩ := S.some h
  exact Keep.put h0 n0

/-- what may be handled: nothing, or an exception that is held -/
def Hd (hv : Option Value) (H : Hp) : Prop := hv = none ∨ ∃ e C dO, hv = some (.ref e) ∧ H e = some (.ext (ExcPhi e C dO))
theorem Hd.mono {hv : Option Value} {H H' : Hp} (k : Keep H H') (h : Hd hv H) : Hd hv H' := by
  rcases h with h | ⟨e, C, dO, h, q⟩
  · exact .inl h
  · exact .inr ⟨e, C, dO, h, k _ _ trivial q⟩
structure StRel (hv : Option Value) (ρ : List Addr) (H : Hp) (τ : Tau) (σ : St) : Prop where
  hd : Hd hv H
  len : τ.length = σ.length
  get : ∀ (i : Nat) (x : PV), τ[i]? = Option.some (Option.some x) → ∃ v, σ[i]? = Option.some (Option.some v) ∧ Rep ρ H x v
theorem StRel.mono {hv : Option Value} {ρ ρ' : List Addr} {H H' : Hp} {τ : Tau} {σ : St} (p : ρ <+: ρ') (k : Keep H H') (h : StRel hv ρ H τ σ) : StRel hv ρ' H' τ σ :=
  ⟨h.hd.mono k, h.len, fun i x e => let ⟨v, e1, r⟩ := h.get i x e; ⟨v, e1, r.mono p k⟩⟩
theorem StRel.set {hv : Option Value} {ρ : List Addr} {H : Hp} {τ : Tau} {σ : St} (h : StRel hv ρ H τ σ) {i : Nat} {x : PV} {v : V} (r : Rep ρ H x v) : StRel hv ρ H (τ.set i (Option.some x)) (σ.set i (Option.some v)) := by
  refine ⟨h.hd, by simp [h.len], fun j y e => ?_⟩
  by_cases hj : j = i
  · subst hj
    have hl : j < τ.length := by
      have := (List.getElem?_eq_some_iff.mp e).1; simpa using this
    rw [List.getElem?_set_self hl] at e
    cases e
    exact ⟨v, by rw [List.getElem?_set_self (by rw [← h.len]; exact hl)], r⟩
  · rw [List.getElem?_set_ne (Ne.symm hj)] at e
    obtain ⟨w, e1, q⟩ := h.get j y e
    exact ⟨w, by rw [List.getElem?_set_ne (Ne.symm hj)]; exact e1, q⟩
end FS

set_option Elab.async false
set_option linter.all false
set_option maxRecDepth 100000
set_option maxHeartbeats 4000000
namespace FS
open PySem PySem.Spec PyProof.Rows L2 FX
/-- an exception's own fields -/
def XF (ρ : List Addr) (H : Hp) (dO : Option Addr) (x : XV) : Prop :=
  (dO = none ∧ x.ns = [] ∧ x.xs = []) ∨ ∃ d vs, dO = some d ∧ H d = some (.xd (x.ns.zip vs)) ∧ x.ns.length = x.xs.length ∧ Reps ρ H x.xs vs
/-- an exception that is under way in the frame at hand: just made, or come from a callee -/
structure ExcAt (X : Cx) (ρ : List Addr) (H : Hp) (e : Addr) (x : XV) (s : Shared) : Prop where
  nb : X.base.get? e = none
  nH : H e = none
  n0 : X.ex = [] → X.s₀.heap.get? e = none
  np : ∀ p ∈ X.pn, p.1 ≠ e
  stage : ∃ dO, XF ρ H dO x ∧ ((∃ n, 5 < n ∧ Fresh s.heap e (.ref x.cls) n dO) ∨ ∃ T n, 5 < n ∧ Fly s.heap e (.ref x.cls) n T .none dO ∧ X.base.get? T = none ∧ H T = none ∧ (X.ex = [] → X.s₀.heap.get? T = none) ∧ ∀ p ∈ X.pn, p.1 ≠ T)
def XPost (tb : Tb) (X : Cx) (σ : St) (ρ : List Addr) (H : Hp) (x : XV) (vh : VH) (ev : Value) (s : Shared) : Prop :=
  ∃ ρ' H' e, ρ <+: ρ' ∧ Keep H H' ∧ Inv X [] σ H' s ∧ Sim tb ρ' vh H' ∧ ev = .ref e ∧ ExcAt X ρ' H' e x s
def Post (tb : Tb) (X : Cx) (σ : St) (ρ : List Addr) (H : Hp) (o : Out PV) (Q : VK) : Prop :=
  match o with
  | .ok v vh => ∀ ρ' H' w, ρ <+: ρ' → Keep H H' → Sim tb ρ' vh H' → Rep ρ' H' v w → Q w H'
  | .exc x vh => ∀ ev s, XPost tb X σ ρ H x vh ev s → X.xe ev s
  | .bad => False
def PostT (tb : Tb) (X : Cx) (σ : St) (ρ : List Addr) (H : Hp) (o : Out Bool) (Q : Bool → Hp → Prop) : Prop :=
  match o with
  | .ok b vh => ∀ ρ' H', ρ <+: ρ' → Keep H H' → Sim tb ρ' vh H' → Q b H'
  | .exc x vh => ∀ ev s, XPost tb X σ ρ H x vh ev s → X.xe ev s
  | .bad => False
def PostA (tb : Tb) (X : Cx) (σ : St) (ρ : List Addr) (H : Hp) (o : Out (List PV)) (Q : List V → Hp → Prop) : Prop :=
  match o with
  | .ok vs vh => ∀ ρ' H' ws, ρ <+: ρ' → Keep H H' → Sim tb ρ' vh H' → Reps ρ' H' vs ws → Q ws H'
  | .exc x vh => ∀ ev s, XPost tb X σ ρ H x vh ev s → X.xe ev s
  | .bad => False
def PostS (tb : Tb) (X : Cx) (ρ : List Addr) (H : Hp) (f : Fl) (D : Ends) : Prop :=
  match f with
  | .next τ vh => ∀ ρ' H' σ', ρ <+: ρ' → Keep H H' → Sim tb ρ' vh H' → StRel X.A.handled ρ' H' τ σ' → D.nx σ' H'
  | .brk τ vh => ∀ ρ' H' σ', ρ <+: ρ' → Keep H H' → Sim tb ρ' vh H' → StRel X.A.handled ρ' H' τ σ' → D.bk σ' H'
  | .cont τ vh => ∀ ρ' H' σ', ρ <+: ρ' → Keep H H' → Sim tb ρ' vh H' → StRel X.A.handled ρ' H' τ σ' → D.ct σ' H'
  | .ret v vh => ∀ ρ' H' w, ρ <+: ρ' → Keep H H' → Sim tb ρ' vh H' → Rep ρ' H' v w → D.rt w H'
  | .exc x vh => ∀ σ ev s, XPost tb X σ ρ H x vh ev s → X.xe ev s
  | .bad => False
def tOf (tb : Tb) (X : Cx) (f : FE) : TE := fun σ H Q => ∃ ρ vh τ, StRel X.A.handled ρ H τ σ ∧ Sim tb ρ vh H ∧ Post tb X σ ρ H (f τ vh) Q
def tOfT (tb : Tb) (X : Cx) (f : FT) : TT := fun σ H Q => ∃ ρ vh τ, StRel X.A.handled ρ H τ σ ∧ Sim tb ρ vh H ∧ PostT tb X σ ρ H (f τ vh) Q
def tOfA (tb : Tb) (X : Cx) (f : FA) : TA := fun σ H Q => ∃ ρ vh τ, StRel X.A.handled ρ H τ σ ∧ Sim tb ρ vh H ∧ PostA tb X σ ρ H (f τ vh) Q
def tOfS (tb : Tb) (X : Cx) (f : FSt) : TS := fun D σ H => ∃ ρ vh τ, StRel X.A.handled ρ H τ σ ∧ Sim tb ρ vh H ∧ PostS tb X ρ H (f τ vh) D
def EOk (tb : Tb) (X : Cx) (e : Expr) (f : FE) : Prop := PE X e (tOf tb X f)
def TOk (tb : Tb) (X : Cx) (e : Expr) (f : FT) : Prop := PT X e (tOfT tb X f)
def AOk (tb : Tb) (X : Cx) (es : List Expr) (f : FA) : Prop := PA X es (tOfA tb X f)
def SOk (tb : Tb) (X : Cx) (st : Stmt) (f : FSt) : Prop := PS X st (tOfS tb X f)
def BOk (tb : Tb) (X : Cx) (st : List Stmt) (f : FSt) : Prop := PSs X st (tOfS tb X f)
theorem PE.mono {X : Cx} {e : Expr} {t t' : TE} (h : PE X e t) (m : ∀ σ H Q, t' σ H Q → t σ H Q) : PE X e t' := fun pins s σ H Q I q => h pins s σ H Q I (m _ _ _ q)
theorem PT.mono {X : Cx} {e : Expr} {t t' : TT} (h : PT X e t) (m : ∀ σ H Q, t' σ H Q → t σ H Q) : PT X e t' := fun pins s σ H Q I q => h pins s σ H Q I (m _ _ _ q)
theorem PA.mono {X : Cx} {e : List Expr} {t t' : TA} (h : PA X e t) (m : ∀ σ H Q, t' σ H Q → t σ H Q) : PA X e t' := fun pos pins s σ H Q I q => h pos pins s σ H Q I (m _ _ _ q)
theorem PS.mono {X : Cx} {e : Stmt} {t t' : TS} (h : PS X e t) (m : ∀ D σ H, t' D σ H → t D σ H) : PS X e t' := fun pins s σ H Q I q => h pins s σ H Q I (m _ _ _ q)
theorem PSs.mono {X : Cx} {e : List Stmt} {t t' : TS} (h : PSs X e t) (m : ∀ D σ H, t' D σ H → t D σ H) : PSs X e t' := fun pins s σ H Q I q => h pins s σ H Q I (m _ _ _ q)
section
variable {tb : Tb} {X : Cx} {σ : St} {ρ ρ' : List Addr} {H H' : Hp}
theorem XPost.back {x : XV} {vh : VH} {ev : Value} {s : Shared} (p : ρ <+: ρ') (k : Keep H H') (h : XPost tb X σ ρ' H' x vh ev s) : XPost tb X σ ρ H x vh ev s := by
  obtain ⟨ρ2, H2, e, p2, k2, r⟩ := h
  exact ⟨ρ2, H2, e, p.trans p2, k.trans k2, r⟩
theorem Post.fwd {o : Out PV} {Q : VK} (p : ρ <+: ρ') (k : Keep H H') (h : Post tb X σ ρ H o Q) : Post tb X σ ρ' H' o Q := by
  cases o with
  | ok v vh => exact fun ρ2 H2 w p2 k2 => h ρ2 H2 w (p.trans p2) (k.trans k2)
  | exc x vh => exact fun ev s q => h ev s (q.back p k)
  | bad => exact h
theorem PostT.fwd {o : Out Bool} {Q : Bool → Hp → Prop} (p : ρ <+: ρ') (k : Keep H H') (h : PostT tb X σ ρ H o Q) : PostT tb X σ ρ' H' o Q := by
  cases o with
  | ok v vh => exact fun ρ2 H2 p2 k2 => h ρ2 H2 (p.trans p2) (k.trans k2)
  | exc x vh => exact fun ev s q => h ev s (q.back p k)
  | bad => exact h
theorem PostA.fwd {o : Out (List PV)} {Q : List V → Hp → Prop} (p : ρ <+: ρ') (k : Keep H H') (h : PostA tb X σ ρ H o Q) : PostA tb X σ ρ' H' o Q := by
  cases o with
  | ok v vh => exact fun ρ2 H2 w p2 k2 => h ρ2 H2 w (p.trans p2) (k.trans k2)
  | exc x vh => exact fun ev s q => h ev s (q.back p k)
  | bad => exact h
theorem PostS.fwd {o : Fl} {D : Ends} (p : ρ <+: ρ') (k : Keep H H') (h : PostS tb X ρ H o D) : PostS tb X ρ' H' o D := by
  cases o with
  | next τ vh => exact fun ρ2 H2 w p2 k2 => h ρ2 H2 w (p.trans p2) (k.trans k2)
  | brk τ vh => exact fun ρ2 H2 w p2 k2 => h ρ2 H2 w (p.trans p2) (k.trans k2)
  | cont τ vh => exact fun ρ2 H2 w p2 k2 => h ρ2 H2 w (p.trans p2) (k.trans k2)
  | ret v vh => exact fun ρ2 H2 w p2 k2 => h ρ2 H2 w (p.trans p2) (k.trans k2)
  | exc x vh => exact fun σ ev s q => h σ ev s (q.back p k)
  | bad => exact h
/-- the answer stands as it is -/
theorem Post.here {v : PV} {vh : VH} {w : V} {Q : VK} (h : Post tb X σ ρ H (.ok v vh) Q) (S : Sim tb ρ vh H) (r : Rep ρ H v w) : Q w H := h ρ H w List.prefix_rfl Keep.refl S r
/-- in a statement: an expression, then the rest -/
def M.then {α : Type} (m : M α) (k : α → VH → Fl) : VH → Fl := fun h => match m h with
  | .ok a h' => k a h'
  | .exc x h' => .exc x h'
  | .bad => .bad
theorem seqEE {vh : VH} {m : M (PV)} {k : PV → M (PV)} {Q : VK} {R : VK} (p : Post tb X σ ρ H (M.bind m k vh) Q)
    (hR : ∀ vh' ρ' H' v w, ρ <+: ρ' → Keep H H' → Sim tb ρ' vh' H' → Rep ρ' H' v w → Post tb X σ ρ' H' (k v vh') Q → R w H') : Post tb X σ ρ H (m vh) R := by
  unfold M.bind at p
  cases e : m vh with
  | ok v vh1 =>
    rw [e] at p
    exact fun ρ' H' w p1 k1 S1 r1 => hR vh1 ρ' H' v w p1 k1 S1 r1 (Post.fwd p1 k1 p)
  | exc x vh1 => rw [e] at p; exact p
  | bad => rw [e] at p; exact p
theorem seqET {vh : VH} {m : M (PV)} {k : PV → M (Bool)} {Q : Bool → Hp → Prop} {R : VK} (p : PostT tb X σ ρ H (M.bind m k vh) Q)
    (hR : ∀ vh' ρ' H' v w, ρ <+: ρ' → Keep H H' → Sim tb ρ' vh' H' → Rep ρ' H' v w → PostT tb X σ ρ' H' (k v vh') Q → R w H') : Post tb X σ ρ H (m vh) R := by
  unfold M.bind at p
  cases e : m vh with
  | ok v vh1 =>
    rw [e] at p
    exact fun ρ' H' w p1 k1 S1 r1 => hR vh1 ρ' H' v w p1 k1 S1 r1 (PostT.fwd p1 k1 p)
  | exc x vh1 => rw [e] at p; exact p
  | bad => rw [e] at p; exact p
theorem seqEA {vh : VH} {m : M (PV)} {k : PV → M (List PV)} {Q : List V → Hp → Prop} {R : VK} (p : PostA tb X σ ρ H (M.bind m k vh) Q)
    (hR : ∀ vh' ρ' H' v w, ρ <+: ρ' → Keep H H' → Sim tb ρ' vh' H' → Rep ρ' H' v w → PostA tb X σ ρ' H' (k v vh') Q → R w H') : Post tb X σ ρ H (m vh) R := by
  unfold M.bind at p
  cases e : m vh with
  | ok v vh1 =>
    rw [e] at p
    exact fun ρ' H' w p1 k1 S1 r1 => hR vh1 ρ' H' v w p1 k1 S1 r1 (PostA.fwd p1 k1 p)
  | exc x vh1 => rw [e] at p; exact p
  | bad => rw [e] at p; exact p
theorem seqES {vh : VH} {m : M (PV)} {k : PV → VH → Fl} {D : Ends} {R : VK} (p : PostS tb X ρ H (M.then m k vh) D)
    (hR : ∀ vh' ρ' H' v w, ρ <+: ρ' → Keep H H' → Sim tb ρ' vh' H' → Rep ρ' H' v w → PostS tb X ρ' H' (k v vh') D → R w H') : Post tb X σ ρ H (m vh) R := by
  unfold M.then at p
  cases e : m vh with
  | ok v vh1 =>
    rw [e] at p
    exact fun ρ' H' w p1 k1 S1 r1 => hR vh1 ρ' H' v w p1 k1 S1 r1 (PostS.fwd p1 k1 p)
  | exc x vh1 => rw [e] at p; exact p σ
  | bad => rw [e] at p; exact p
theorem seqTE {vh : VH} {m : M (Bool)} {k : Bool → M (PV)} {Q : VK} {R : Bool → Hp → Prop} (p : Post tb X σ ρ H (M.bind m k vh) Q)
    (hR : ∀ vh' ρ' H' v, ρ <+: ρ' → Keep H H' → Sim tb ρ' vh' H' → Post tb X σ ρ' H' (k v vh') Q → R v H') : PostT tb X σ ρ H (m vh) R := by
  unfold M.bind at p
  cases e : m vh with
  | ok v vh1 =>
    rw [e] at p
    exact fun ρ' H' p1 k1 S1 => hR vh1 ρ' H' v p1 k1 S1 (Post.fwd p1 k1 p)
  | exc x vh1 => rw [e] at p; exact p
  | bad => rw [e] at p; exact p
theorem seqTT {vh : VH} {m : M (Bool)} {k : Bool → M (Bool)} {Q : Bool → Hp → Prop} {R : Bool → Hp → Prop} (p : PostT tb X σ ρ H (M.bind m k vh) Q)
    (hR : ∀ vh' ρ' H' v, ρ <+: ρ' → Keep H H' → Sim tb ρ' vh' H' → PostT tb X σ ρ' H' (k v vh') Q → R v H') : PostT tb X σ ρ H (m vh) R := by
  unfold M.bind at p
  cases e : m vh with
  | ok v vh1 =>
    rw [e] at p
    exact fun ρ' H' p1 k1 S1 => hR vh1 ρ' H' v p1 k1 S1 (PostT.fwd p1 k1 p)
  | exc x vh1 => rw [e] at p; exact p
  | bad => rw [e] at p; exact p
theorem seqTS {vh : VH} {m : M (Bool)} {k : Bool → VH → Fl} {D : Ends} {R : Bool → Hp → Prop} (p : PostS tb X ρ H (M.then m k vh) D)
    (hR : ∀ vh' ρ' H' v, ρ <+: ρ' → Keep H H' → Sim tb ρ' vh' H' → PostS tb X ρ' H' (k v vh') D → R v H') : PostT tb X σ ρ H (m vh) R := by
  unfold M.then at p
  cases e : m vh with
  | ok v vh1 =>
    rw [e] at p
    exact fun ρ' H' p1 k1 S1 => hR vh1 ρ' H' v p1 k1 S1 (PostS.fwd p1 k1 p)
  | exc x vh1 => rw [e] at p; exact p σ
  | bad => rw [e] at p; exact p
theorem seqAE {vh : VH} {m : M (List PV)} {k : List PV → M (PV)} {Q : VK} {R : List V → Hp → Prop} (p : Post tb X σ ρ H (M.bind m k vh) Q)
    (hR : ∀ vh' ρ' H' v w, ρ <+: ρ' → Keep H H' → Sim tb ρ' vh' H' → Reps ρ' H' v w → Post tb X σ ρ' H' (k v vh') Q → R w H') : PostA tb X σ ρ H (m vh) R := by
  unfold M.bind at p
  cases e : m vh with
  | ok v vh1 =>
    rw [e] at p
    exact fun ρ' H' w p1 k1 S1 r1 => hR vh1 ρ' H' v w p1 k1 S1 r1 (Post.fwd p1 k1 p)
  | exc x vh1 => rw [e] at p; exact p
  | bad => rw [e] at p; exact p
theorem seqAA {vh : VH} {m : M (List PV)} {k : List PV → M (List PV)} {Q : List V → Hp → Prop} {R : List V → Hp → Prop} (p : PostA tb X σ ρ H (M.bind m k vh) Q)
    (hR : ∀ vh' ρ' H' v w, ρ <+: ρ' → Keep H H' → Sim tb ρ' vh' H' → Reps ρ' H' v w → PostA tb X σ ρ' H' (k v vh') Q → R w H') : PostA tb X σ ρ H (m vh) R := by
  unfold M.bind at p
  cases e : m vh with
  | ok v vh1 =>
    rw [e] at p
    exact fun ρ' H' w p1 k1 S1 r1 => hR vh1 ρ' H' v w p1 k1 S1 r1 (PostA.fwd p1 k1 p)
  | exc x vh1 => rw [e] at p; exact p
  | bad => rw [e] at p; exact p
theorem seqAS {vh : VH} {m : M (List PV)} {k : List PV → VH → Fl} {D : Ends} {R : List V → Hp → Prop} (p : PostS tb X ρ H (M.then m k vh) D)
    (hR : ∀ vh' ρ' H' v w, ρ <+: ρ' → Keep H H' → Sim tb ρ' vh' H' → Reps ρ' H' v w → PostS tb X ρ' H' (k v vh') D → R w H') : PostA tb X σ ρ H (m vh) R := by
  unfold M.then at p
  cases e : m vh with
  | ok v vh1 =>
    rw [e] at p
    exact fun ρ' H' w p1 k1 S1 r1 => hR vh1 ρ' H' v w p1 k1 S1 r1 (PostS.fwd p1 k1 p)
  | exc x vh1 => rw [e] at p; exact p σ
  | bad => rw [e] at p; exact p
end
/-! ### names, constants -/
section
variable {tb : Tb} {X : Cx} {pos : Pos}
def fVar (i : Nat) : FE := fun τ h => match τ[i]? with
  | some (some v) => .ok v h
  | _ => .bad
theorem e_var {i : Nat} {x : Str} (hN : X.N[i]? = some x) (hv : Vis X.env.scope x) (hd : (x == ("__debug__" : Str)) = false := by decide) (hcd : (x == ("__classdict__" : Str)) = false := by decide) : EOk tb X (.Name x pos) (fVar i) := by
  refine PE.mono (pe_var hN hv hd hcd) fun σ H Q ⟨ρ, vh, τ, st, S, p⟩ => ?_
  unfold fVar at p
  cases e : τ[i]? with
  | none => rw [e] at p; exact p.elim
  | some o => cases o with
    | none => rw [e] at p; exact p.elim
    | some v =>
      rw [e] at p
      obtain ⟨w, e1, r⟩ := st.get i v e
      exact ⟨w, e1, Post.here p S r⟩
def fC (v : PV) : FE := fun _ => M.ret v
theorem e_int {i j} : EOk tb X (.Constant (.int i) j pos) (fC (.int i)) := PE.mono pe_int fun σ H Q ⟨ρ, vh, τ, st, S, p⟩ => Post.here p S rfl
theorem e_bl {i j} : EOk tb X (.Constant (.bool i) j pos) (fC (.bl i)) := PE.mono pe_bl fun σ H Q ⟨ρ, vh, τ, st, S, p⟩ => Post.here p S rfl
theorem e_non {j} : EOk tb X (.Constant .none j pos) (fC .non) := PE.mono pe_non fun σ H Q ⟨ρ, vh, τ, st, S, p⟩ => Post.here p S rfl
theorem e_str {x j} : EOk tb X (.Constant (.str x) j pos) (fC (.str x)) := PE.mono pe_str fun σ H Q ⟨ρ, vh, τ, st, S, p⟩ => Post.here p S rfl
/-- a name of the module's top: a class, a def, a plain value -/
theorem e_glob {x : Str} {v : PV} {w : V} {u : Value} (hg : Gl X x) (hm : X.mg x = some u) (r : RelV w u) (hr : ∀ ρ H, Rep ρ H v w) (hd : (x == ("__debug__" : Str)) = false := by decide) : EOk tb X (.Name x pos) (fC v) :=
  PE.mono (pe_glob hg hm r hd) fun σ H Q ⟨ρ, vh, τ, st, S, p⟩ => Post.here p S (hr ρ H)
theorem e_bltn {x : Str} {v : PV} {w : V} {u : Value} (hg : Gl X x) (hm : X.mg x = none) (hv : bootBuiltins x = some u) (r : RelV w u) (hr : ∀ ρ H, Rep ρ H v w) (hn : x ≠ "__name__" := by decide) (hd : (x == ("__debug__" : Str)) = false := by decide) : EOk tb X (.Name x pos) (fC v) :=
  PE.mono (pe_bltn hg hm hv r hn hd) fun σ H Q ⟨ρ, vh, τ, st, S, p⟩ => Post.here p S (hr ρ H)
end
/-! ### operations on values -/
section
variable {tb : Tb} {X : Cx} {pos : Pos} {a b c : Expr} {fa fb fc : FE}
abbrev G2 := PV → PV → M PV
abbrev G1 := PV → M PV
def fOp (g : G2) (fa fb : FE) : FE := fun τ => M.bind (fa τ) fun x => M.bind (fb τ) fun y => g x y
def fUn (g : G1) (fa : FE) : FE := fun τ => M.bind (fa τ) g
/-- an operation's reading is that of the layer's rule -/
def Op2 (tb : Tb) (X : Cx) (r : R2) (g : G2) : Prop := ∀ σ ρ vh H v1 v2 w1 w2 Q, Sim tb ρ vh H → Rep ρ H v1 w1 → Rep ρ H v2 w2 → Post tb X σ ρ H (g v1 v2 vh) Q → r w1 w2 H Q
theorem op_mono {r : R2} {g : G2} (h : Op2 tb X r g) : ∀ σ H Q, tOf tb X (fOp g fa fb) σ H Q → tOp r (tOf tb X fa) (tOf tb X fb) σ H Q := fun σ H Q ⟨ρ, vh, τ, st, S, p⟩ =>
  ⟨ρ, vh, τ, st, S, seqEE p fun vh1 ρ1 H1 v1 w1 p1 k1 S1 r1 q1 => ⟨ρ1, vh1, τ, st.mono p1 k1, S1, seqEE q1 fun vh2 ρ2 H2 v2 w2 p2 k2 S2 r2 q2 => h σ ρ2 vh2 H2 v1 v2 w1 w2 Q S2 (r1.mono p2 k2) r2 q2⟩⟩
theorem e_op {op : Operator} {r : R2} {g : G2} (ho : OpR X (binaryOp op) r) (h : Op2 tb X r g) (ha : EOk tb X a fa) (hb : EOk tb X b fb) : EOk tb X (.BinOp a op b pos) (fOp g fa fb) := PE.mono (pe_op ho ha hb) (op_mono h)
theorem e_cmp {op : CmpOp} {r : R2} {g : G2} (ho : OpR X (compareOp op) r) (h : Op2 tb X r g) (ha : EOk tb X a fa) (hb : EOk tb X b fb) (hm : behindInMarks op b = false) : EOk tb X (.Compare a [op] [b] pos) (fOp g fa fb) := PE.mono (pe_cmpR ho ha hb hm) (op_mono h)
/-- a value that must be a truth, as a test -/
def fB (fa : FE) : FT := fun τ => M.bind (fa τ) fun x => match x with
  | .bl k => M.ret k
  | _ => M.bad
theorem PostT.here {σ : St} {ρ : List Addr} {H : Hp} {v : Bool} {vh : VH} {Q : Bool → Hp → Prop} (h : PostT tb X σ ρ H (.ok v vh) Q) (S : Sim tb ρ vh H) : Q v H := h ρ H List.prefix_rfl Keep.refl S
theorem tst_mono : ∀ σ H Q, tOfT tb X (fB fa) σ H Q → tTest (tOf tb X fa) σ H Q := fun σ H Q ⟨ρ, vh, τ, st, S, p⟩ =>
  ⟨ρ, vh, τ, st, S, seqET p fun vh1 ρ1 H1 v1 w1 p1 k1 S1 r1 q1 => by
    cases v1 with
    | bl k => exact ⟨k, r1, PostT.here q1 S1⟩
    | _ => exact q1.elim⟩
theorem t_cmp {op : CmpOp} {r : R2} {g : G2} (ho : OpR X (compareOp op) r) (h : Op2 tb X r g) (ha : EOk tb X a fa) (hb : EOk tb X b fb) (hm : behindInMarks op b = false) : TOk tb X (.Compare a [op] [b] pos) (fB (fOp g fa fb)) :=
  PT.mono (pt_cmpR ho ha hb hm) fun σ H Q q => by
    obtain ⟨ρ, vh, τ, st, S, p⟩ := tst_mono σ H Q q
    exact op_mono h σ H _ ⟨ρ, vh, τ, st, S, p⟩
/-! ints -/
def gAdd : G2 := fun x y => match x, y with | .int i, .int j => M.ret (.int (i + j)) | _, _ => M.bad
def gSub : G2 := fun x y => match x, y with | .int i, .int j => M.ret (.int (i - j)) | _, _ => M.bad
def gI (p : Int → Int → Bool) : G2 := fun x y => match x, y with | .int i, .int j => M.ret (.bl (p i j)) | _, _ => M.bad
theorem o_I (q : Int → Int → Bool) : Op2 tb X (rI0 fun i j => .bl (q i j)) (gI q) := fun σ ρ vh H v1 v2 w1 w2 Q S r1 r2 p => by
  cases v1 with
  | int i => cases v2 with
    | int j => exact ⟨i, j, r1, r2, Post.here p S rfl⟩
    | _ => exact p.elim
  | _ => exact p.elim
end
end FS

set_option Elab.async false
set_option linter.all false
set_option maxRecDepth 100000
set_option maxHeartbeats 4000000
namespace FS
open PySem PySem.Spec PyProof.Rows L2 FX
/-! ### and, or, not, a choice; tests -/
section
variable {tb : Tb} {X : Cx} {pos : Pos} {a b c : Expr} {fa fb fc : FE} {ta tb' : FT} {rest : List Expr}
def fAnd (fa fb : FE) : FE := fun τ => M.bind (fa τ) fun x => match x with
  | .bl true => fb τ
  | .bl false => M.ret (.bl false)
  | _ => M.bad
def fOr (fa fb : FE) : FE := fun τ => M.bind (fa τ) fun x => match x with
  | .bl true => M.ret (.bl true)
  | .bl false => fb τ
  | _ => M.bad
def fNot (fa : FE) : FE := fun τ => M.bind (fa τ) fun x => match x with
  | .bl c => M.ret (.bl (!c))
  | _ => M.bad
theorem e_one {op} (h : EOk tb X a fa) : EOk tb X (.BoolOp op [a] pos) fa := pe_one h
theorem e_and (ha : EOk tb X a fa) (hb : EOk tb X (.BoolOp .And (b :: rest) pos) fb) : EOk tb X (.BoolOp .And (a :: b :: rest) pos) (fAnd fa fb) :=
  PE.mono (pe_and ha hb) fun σ H Q ⟨ρ, vh, τ, st, S, p⟩ => ⟨ρ, vh, τ, st, S, seqEE p fun vh1 ρ1 H1 v1 w1 p1 k1 S1 r1 q1 => by
    cases v1 with
    | bl c =>
      cases c with
      | true => exact ⟨true, r1, iteT ⟨ρ1, vh1, τ, st.mono p1 k1, S1, q1⟩⟩
      | false => exact ⟨false, r1, iteF (Post.here q1 S1 rfl)⟩
    | _ => exact q1.elim⟩
/-- an expression whose value is a truth, as a test -/
theorem t_val (h : EOk tb X a fa) (he : ∀ whole, isTrue a X.env whole = (do let v ← whole; standAt a.pos; holding [v] (truthy v)) := by intro _; rfl) : TOk tb X a (fB fa) :=
  PT.mono (pt_val h he) fun σ H Q ⟨ρ, vh, τ, st, S, p⟩ => ⟨ρ, vh, τ, st, S, seqET p fun vh1 ρ1 H1 v1 w1 p1 k1 S1 r1 q1 => by
    cases v1 with
    | bl k => exact ⟨k, r1, PostT.here q1 S1⟩
    | _ => exact q1.elim⟩
def tNotF (t : FT) : FT := fun τ => M.bind (t τ) fun k => M.ret (!k)
def tAndF (t u : FT) : FT := fun τ => M.bind (t τ) fun k => if k = true then u τ else M.ret false
def tOrF (t u : FT) : FT := fun τ => M.bind (t τ) fun k => if k = true then M.ret true else u τ
def WOk (tb : Tb) (X : Cx) (e : Expr) (f : FT) : Prop := PW X e (tOfT tb X f)
theorem PW.mono {e : Expr} {t t' : TT} (h : PW X e t) (m : ∀ σ H Q, t' σ H Q → t σ H Q) : PW X e t' := fun whole pins s σ H Q I q => h whole pins s σ H Q I (m _ _ _ q)
theorem t_not (ha : TOk tb X a ta) : TOk tb X (.UnaryOp .Not a pos) (tNotF ta) :=
  PT.mono (pt_not ha) fun σ H Q ⟨ρ, vh, τ, st, S, p⟩ => ⟨ρ, vh, τ, st, S, seqTT p fun vh1 ρ1 H1 v1 p1 k1 S1 q1 => PostT.here q1 S1⟩
theorem w_or1 (ha : TOk tb X a ta) : WOk tb X (.BoolOp .Or [a] pos) ta := pw_or1 ha
theorem w_or (ha : TOk tb X a ta) (hb : WOk tb X (.BoolOp .Or (b :: rest) pos) tb') : WOk tb X (.BoolOp .Or (a :: b :: rest) pos) (tOrF ta tb') :=
  PW.mono (pw_or ha hb) fun σ H Q ⟨ρ, vh, τ, st, S, p⟩ => ⟨ρ, vh, τ, st, S, seqTT p fun vh1 ρ1 H1 v1 p1 k1 S1 q1 => by
    cases v1 with
    | true => exact iteT (PostT.here q1 S1)
    | false => exact iteF ⟨ρ1, vh1, τ, st.mono p1 k1, S1, q1⟩⟩
theorem w_pt {e : Expr} (h : WOk tb X e ta) : TOk tb X e ta := PW.pt h
def fIf (t : FT) (fa fb : FE) : FE := fun τ => M.bind (t τ) fun k => if k = true then fa τ else fb τ
theorem e_ifExp (hc : TOk tb X c ta) (ha : EOk tb X a fa) (hb : EOk tb X b fb) : EOk tb X (.IfExp c a b pos) (fIf ta fa fb) :=
  PE.mono (pe_ifExp hc ha hb) fun σ H Q ⟨ρ, vh, τ, st, S, p⟩ => ⟨ρ, vh, τ, st, S, seqTE p fun vh1 ρ1 H1 v1 p1 k1 S1 q1 => by
    cases v1 with
    | true => exact iteT ⟨ρ1, vh1, τ, st.mono p1 k1, S1, q1⟩
    | false => exact iteF ⟨ρ1, vh1, τ, st.mono p1 k1, S1, q1⟩⟩
/-- a op1 b op2 c, of operations that tell truths -/
def fChain (g g' : G2) (fa fb fc : FE) : FE := fun τ => M.bind (fa τ) fun x => M.bind (fb τ) fun y => M.bind (g x y) fun z => match z with
  | .bl true => M.bind (fc τ) fun w => g' y w
  | .bl false => M.ret (.bl false)
  | _ => M.bad
end
/-! ### argument lists, displays -/
section
variable {tb : Tb} {X : Cx} {pos : Pos} {e : Expr} {es : List Expr} {fe : FE} {fs : FA}
def aNil : FA := fun _ => M.ret []
def aCons (fe : FE) (fs : FA) : FA := fun τ => M.bind (fe τ) fun x => M.bind (fs τ) fun xs => M.ret (x :: xs)
theorem PostA.here {σ : St} {ρ : List Addr} {H : Hp} {v : List PV} {vh : VH} {w : List V} {Q : List V → Hp → Prop} (h : PostA tb X σ ρ H (.ok v vh) Q) (S : Sim tb ρ vh H) (r : Reps ρ H v w) : Q w H := h ρ H w List.prefix_rfl Keep.refl S r
theorem a_nil : AOk tb X [] aNil := PA.mono pa_nil fun σ H Q ⟨ρ, vh, τ, st, S, p⟩ => PostA.here p S rfl
theorem a_cons (ha : EOk tb X e fe) (hr : AOk tb X es fs) (hs : starEach (e :: es) X.env = (false, eval e X.env) :: starEach es X.env := by rfl) : AOk tb X (e :: es) (aCons fe fs) :=
  PA.mono (pa_cons ha hr hs) fun σ H Q ⟨ρ, vh, τ, st, S, p⟩ => ⟨ρ, vh, τ, st, S, seqEA p fun vh1 ρ1 H1 v1 w1 p1 k1 S1 r1 q1 => ⟨ρ1, vh1, τ, st.mono p1 k1, S1, seqAA q1 fun vh2 ρ2 H2 v2 w2 p2 k2 S2 r2 q2 => PostA.here q2 S2 ⟨w1, w2, rfl, r1.mono p2 k2, r2⟩⟩⟩
theorem Reps.length {ρ : List Addr} {H : Hp} : ∀ {xs : List PV} {vs : List V}, Reps ρ H xs vs → vs.length = xs.length
  | [], _, h => by rw [show _ = [] from h]; rfl
  | _ :: _, _, h => by obtain ⟨v, ws, e, _, t⟩ := h; rw [e, List.length_cons, List.length_cons, Reps.length t]
def big : Nat := 1000000
def fTup (fs : FA) : FE := fun τ => M.bind (fs τ) fun xs => if xs.length ≤ big then M.ret (.tup xs) else M.bad
def alloc (o : VO) : M PV := fun h => .ok (.ref h.length) (h ++ [o])
def fLst (fs : FA) : FE := fun τ => M.bind (fs τ) fun xs => if xs.length ≤ big then alloc (.lst xs) else M.bad
theorem big_le : big ≤ sizeLine := by decide
/-- a new tuple's answer -/
theorem Post.tup {σ : St} {ρ : List Addr} {H : Hp} {xs : List PV} {vs : List V} {vh : VH} {Q : VK} (h : Post tb X σ ρ H (.ok (.tup xs) vh) Q) (S : Sim tb ρ vh H) (r : Reps ρ H xs vs) {p : Addr} (hp : H p = none) : Q (.ref p) (upd H p (.tup vs)) :=
  h ρ _ _ List.prefix_rfl (Keep.new hp) (S.side hp) ⟨p, vs, rfl, upd_same, r.mono List.prefix_rfl (Keep.new hp)⟩
/-- a new list's answer -/
theorem Post.lst {σ : St} {ρ : List Addr} {H : Hp} {xs : List PV} {vs : List V} {vh : VH} {Q : VK} (h : Post tb X σ ρ H (alloc (.lst xs) vh) Q) (S : Sim tb ρ vh H) (r : Reps ρ H xs vs) {p : Addr} (hp : H p = none) : Q (.ref p) (upd H p (.lst vs)) := by
  have kp : Keep H (upd H p (.lst vs)) := Keep.new hp
  have pf : ρ <+: ρ ++ [p] := List.prefix_append _ _
  refine h (ρ ++ [p]) _ _ pf kp (S.push hp ⟨vs, upd_same, r.mono pf kp⟩) ⟨p, ?_, rfl⟩
  show (ρ ++ [p])[vh.length]? = some p
  rw [← S.len]; simp
theorem e_tup {x1} (h : AOk tb X es fs) : EOk tb X (.Tuple es x1 pos) (fTup fs) :=
  PE.mono (pe_tup h) fun σ H Q ⟨ρ, vh, τ, st, S, p⟩ => ⟨ρ, vh, τ, st, S, seqAE p fun vh1 ρ1 H1 v1 w1 p1 k1 S1 r1 q1 => by
    by_cases hz : v1.length ≤ big
    · rw [if_pos hz] at q1
      exact ⟨by rw [r1.length]; exact Nat.le_trans hz big_le, fun p hp => Post.tup q1 S1 r1 hp⟩
    · rw [if_neg hz] at q1; exact q1.elim⟩
theorem e_lst (h : AOk tb X es fs) : EOk tb X (.List es pos) (fLst fs) :=
  PE.mono (pe_lst h) fun σ H Q ⟨ρ, vh, τ, st, S, p⟩ => ⟨ρ, vh, τ, st, S, seqAE p fun vh1 ρ1 H1 v1 w1 p1 k1 S1 r1 q1 => by
    by_cases hz : v1.length ≤ big
    · rw [if_pos hz] at q1
      exact ⟨by rw [r1.length]; exact Nat.le_trans hz big_le, fun p hp => Post.lst q1 S1 r1 hp⟩
    · rw [if_neg hz] at q1; exact q1.elim⟩
end
/-! ### statements -/
section
variable {tb : Tb} {X : Cx} {pos : Pos} {e : Expr} {fe : FE} {st : Stmt} {sts : List Stmt} {f g : FSt} {t : FT}
def sNext : FSt := fun τ h => .next τ h
def sSeq (f g : FSt) : FSt := fun τ h => match f τ h with
  | .next τ' h' => g τ' h'
  | r => r
theorem PostS.next {ρ : List Addr} {H : Hp} {τ : Tau} {σ : St} {vh : VH} {D : Ends} (h : PostS tb X ρ H (.next τ vh) D) (S : Sim tb ρ vh H) (r : StRel X.A.handled ρ H τ σ) : D.nx σ H := h ρ H σ List.prefix_rfl Keep.refl S r
theorem b_nil : BOk tb X [] sNext := PSs.mono pss_nil fun D σ H ⟨ρ, vh, τ, st, S, p⟩ => PostS.next p S st
theorem seq_mono : ∀ D σ H, tOfS tb X (sSeq f g) D σ H → tSeq (tOfS tb X f) (tOfS tb X g) D σ H := fun D σ H ⟨ρ, vh, τ, st, S, p⟩ => by
  refine ⟨ρ, vh, τ, st, S, ?_⟩
  unfold sSeq at p
  cases e : f τ vh with
  | next τ1 vh1 =>
    rw [e] at p
    exact fun ρ' H' σ' p1 k1 S1 st1 => ⟨ρ', vh1, τ1, st1, S1, PostS.fwd p1 k1 p⟩
  | brk τ1 vh1 => rw [e] at p; exact p
  | cont τ1 vh1 => rw [e] at p; exact p
  | ret v vh1 => rw [e] at p; exact p
  | exc x vh1 => rw [e] at p; exact p
  | bad => rw [e] at p; exact p
theorem b_cons (h1 : SOk tb X st f) (h2 : BOk tb X sts g) : BOk tb X (st :: sts) (sSeq f g) := PSs.mono (pss_cons h1 h2) seq_mono
theorem b_one (h1 : SOk tb X st f) : BOk tb X [st] f := pss_one h1
def sRet (fe : FE) : FSt := fun τ => M.then (fe τ) fun v h => .ret v h
theorem s_ret (he : EOk tb X e fe) : SOk tb X (.Return (some e) pos) (sRet fe) :=
  PS.mono (ps_ret he) fun D σ H ⟨ρ, vh, τ, st, S, p⟩ => ⟨ρ, vh, τ, st, S, seqES (k := fun v h => .ret v h) p fun vh1 ρ1 H1 v1 w1 p1 k1 S1 r1 q1 => q1 ρ1 H1 w1 List.prefix_rfl Keep.refl S1 r1⟩
def sExpr (fe : FE) : FSt := fun τ => M.then (fe τ) fun _ h => .next τ h
theorem s_expr (he : EOk tb X e fe) (hs : swapsWith e none pos.line X.env = pure false := by rfl) : SOk tb X (.Expr e pos) (sExpr fe) :=
  PS.mono (ps_expr he hs) fun D σ H ⟨ρ, vh, τ, st, S, p⟩ => ⟨ρ, vh, τ, st, S, seqES (k := fun _ h => .next τ h) p fun vh1 ρ1 H1 v1 w1 p1 k1 S1 r1 q1 => PostS.next q1 S1 (st.mono p1 k1)⟩
def sIf (t : FT) (f g : FSt) : FSt := fun τ => M.then (t τ) fun k h => if k = true then f τ h else g τ h
theorem s_if {c : Expr} {as bs : List Stmt} (hc : TOk tb X c t) (ha : BOk tb X as f) (hb : BOk tb X bs g) : SOk tb X (.If c as bs pos) (sIf t f g) :=
  PS.mono (ps_if hc ha hb) fun D σ H ⟨ρ, vh, τ, st, S, p⟩ => ⟨ρ, vh, τ, st, S, seqTS (k := fun k h => if k = true then f τ h else g τ h) p fun vh1 ρ1 H1 v1 p1 k1 S1 q1 => by
    cases v1 with
    | true => exact iteT ⟨ρ1, vh1, τ, st.mono p1 k1, S1, q1⟩
    | false => exact iteF ⟨ρ1, vh1, τ, st.mono p1 k1, S1, q1⟩⟩
/-- what a target does with a value -/
abbrev FG := PV → FSt
def tOfG (tb : Tb) (X : Cx) (g : FG) : TG := fun w σ H Q => ∃ ρ vh τ v, StRel X.A.handled ρ H τ σ ∧ Sim tb ρ vh H ∧ Rep ρ H v w ∧ match g v τ vh with
  | .next τ' vh' => ∀ ρ' H' σ', ρ <+: ρ' → Keep H H' → Sim tb ρ' vh' H' → StRel X.A.handled ρ' H' τ' σ' → Q σ' H'
  | _ => False
def GOk (tb : Tb) (X : Cx) (tg : Expr) (g : FG) : Prop := PG X tg (tOfG tb X g)
theorem PG.mono {tg : Expr} {t t' : TG} (h : PG X tg t) (m : ∀ v σ H Q, t' v σ H Q → t v σ H Q) : PG X tg t' := fun pins s σ H v u Q I r q => h pins s σ H v u Q I r (m _ _ _ _ q)
def gN (i : Nat) : FG := fun v τ h => .next (τ.set i (some v)) h
theorem g_name {i : Nat} {x : Str} (hN : X.N.Nodup) (hi : X.N[i]? = some x) (hx : Loc X.env.scope x) (hf : X.fn x = true ∨ X.env.scope.names.lookup x = some .local := by first | exact .inl rfl | exact .inr rfl | assumption) : GOk tb X (.Name x pos) (gN i) :=
  PG.mono (pg_name hN hi hx hf) fun w σ H Q ⟨ρ, vh, τ, v, st, S, r, p⟩ => p ρ H _ List.prefix_rfl Keep.refl S (st.set r)
def sAsg (fe : FE) (g : FG) : FSt := fun τ => M.then (fe τ) fun v h => match g v τ h with
  | .next τ' h' => .next τ' h'
  | _ => .bad
theorem asg_mono {g : FG} : ∀ D σ H, tOfS tb X (sAsg fe g) D σ H → tAsg (tOf tb X fe) (tOfG tb X g) D σ H := fun D σ H ⟨ρ, vh, τ, st, S, p⟩ =>
  ⟨ρ, vh, τ, st, S, seqES (k := fun v h => match g v τ h with | .next τ' h' => .next τ' h' | _ => .bad) p fun vh1 ρ1 H1 v1 w1 p1 k1 S1 r1 q1 => by
    refine ⟨ρ1, vh1, τ, v1, st.mono p1 k1, S1, r1, ?_⟩
    cases e : g v1 τ vh1 with
    | next τ2 vh2 => rw [e] at q1; exact q1
    | brk _ _ => rw [e] at q1; exact q1.elim
    | cont _ _ => rw [e] at q1; exact q1.elim
    | ret _ _ => rw [e] at q1; exact q1.elim
    | exc _ _ => rw [e] at q1; exact q1.elim
    | bad => rw [e] at q1; exact q1.elim⟩
theorem s_asg {tg : Expr} {g : FG} (he : EOk tb X e fe) (hg : GOk tb X tg g) (hs : swapsWithSole [tg] e pos.line X.env = pure false := by rfl) (hw : swappedStores [tg] e X.env = pure none := by rfl)
    (h1 : (assignEach [tg] X.env).map (·.2) = [assign tg X.env] := by rfl) : SOk tb X (.Assign [tg] e pos) (sAsg fe g) := PS.mono (ps_asg he hg hs hw h1) asg_mono
/-- several targets of a tuple -/
def gsA : List FG → List PV → FSt
  | [], [], τ, h => .next τ h
  | g :: gs, v :: vs, τ, h => match g v τ h with
    | .next τ' h' => gsA gs vs τ' h'
    | _ => .bad
  | _, _, _, _ => .bad
def tOfGs (tb : Tb) (X : Cx) (gs : List FG) : TGs := fun ws σ H Q => ∃ ρ vh τ vs, StRel X.A.handled ρ H τ σ ∧ Sim tb ρ vh H ∧ Reps ρ H vs ws ∧ match gsA gs vs τ vh with
  | .next τ' vh' => ∀ ρ' H' σ', ρ <+: ρ' → Keep H H' → Sim tb ρ' vh' H' → StRel X.A.handled ρ' H' τ' σ' → Q σ' H'
  | _ => False
def GsOk (tb : Tb) (X : Cx) (tgs : List Expr) (gs : List FG) : Prop := PGs X tgs (tOfGs tb X gs)
theorem PGs.mono {tg : List Expr} {t t' : TGs} (h : PGs X tg t) (m : ∀ v σ H Q, t' v σ H Q → t v σ H Q) : PGs X tg t' := fun pins s σ H v u Q I r q => h pins s σ H v u Q I r (m _ _ _ _ q)
theorem gs_nil : GsOk tb X [] [] := PGs.mono pgs_nil fun ws σ H Q ⟨ρ, vh, τ, vs, st, S, r, p⟩ => by
  cases vs with
  | nil => exact ⟨r, p ρ H σ List.prefix_rfl Keep.refl S st⟩
  | cons _ _ => exact p.elim
theorem gs_cons {tg : Expr} {tgs : List Expr} {g : FG} {gs : List FG} (h1 : GOk tb X tg g) (h2 : GsOk tb X tgs gs)
    (hs : (assignEach (tg :: tgs) X.env).map (·.2) = assign tg X.env :: (assignEach tgs X.env).map (·.2) := by rfl) : GsOk tb X (tg :: tgs) (g :: gs) :=
  PGs.mono (pgs_cons h1 h2 hs) fun ws σ H Q ⟨ρ, vh, τ, vs, st, S, r, p⟩ => by
    cases vs with
    | nil => exact p.elim
    | cons v vs =>
      obtain ⟨w, ws', e, r1, r2⟩ := r
      refine ⟨w, ws', e, ρ, vh, τ, v, st, S, r1, ?_⟩
      unfold gsA at p
      cases e1 : g v τ vh with
      | next τ1 vh1 =>
        rw [e1] at p
        refine fun ρ' H' σ' p1 k1 S1 st1 => ⟨ρ', vh1, τ1, vs, st1, S1, r2.mono p1 k1, ?_⟩
        dsimp only at p
        cases e2 : gsA gs vs τ1 vh1 with
        | next τ2 vh2 => rw [e2] at p; exact fun ρ2 H2 σ2 p2 k2 => p ρ2 H2 σ2 (p1.trans p2) (k1.trans k2)
        | brk _ _ => rw [e2] at p; exact p.elim
        | cont _ _ => rw [e2] at p; exact p.elim
        | ret _ _ => rw [e2] at p; exact p.elim
        | exc _ _ => rw [e2] at p; exact p.elim
        | bad => rw [e2] at p; exact p.elim
      | brk _ _ => rw [e1] at p; exact p.elim
      | cont _ _ => rw [e1] at p; exact p.elim
      | ret _ _ => rw [e1] at p; exact p.elim
      | exc _ _ => rw [e1] at p; exact p.elim
      | bad => rw [e1] at p; exact p.elim
def gT (gs : List FG) : FG := fun v τ h => match v with
  | .tup vs => gsA gs vs τ h
  | _ => .bad
theorem gsA_len : ∀ {gs : List FG} {vs : List PV} {τ τ' : Tau} {h h' : VH}, gsA gs vs τ h = .next τ' h' → vs.length = gs.length
  | [], [], _, _, _, _, _ => rfl
  | [], _ :: _, _, _, _, _, e => by simp [gsA] at e
  | _ :: _, [], _, _, _, _, e => by simp [gsA] at e
  | g :: gs, v :: vs, τ, τ', h, h', e => by
    unfold gsA at e
    cases e1 : g v τ h with
    | next τ1 h1 => rw [e1] at e; dsimp only at e; rw [List.length_cons, List.length_cons, gsA_len e]
    | brk _ _ => rw [e1] at e; cases e
    | cont _ _ => rw [e1] at e; cases e
    | ret _ _ => rw [e1] at e; cases e
    | exc _ _ => rw [e1] at e; cases e
    | bad => rw [e1] at e; cases e
theorem g_tup {tgs : List Expr} {k : Nat} {gs : List FG} (hc : X.calm = true) (h : GsOk tb X tgs gs) (hn : (assignEach tgs X.env).length = gs.length := by rfl) (hst : (assignEach tgs X.env).findIdx? (·.1) = none := by rfl) : GOk tb X (.Tuple tgs k pos) (gT gs) :=
  PG.mono (pg_tup hc h hn hst) fun w σ H Q ⟨ρ, vh, τ, v, st, S, r, p⟩ => by
    cases v with
    | tup vs =>
      obtain ⟨a, ws, e, ha, r1⟩ := r
      have p' : match gsA gs vs τ vh with
        | .next τ' vh' => ∀ ρ' H' σ', ρ <+: ρ' → Keep H H' → Sim tb ρ' vh' H' → StRel X.A.handled ρ' H' τ' σ' → Q σ' H'
        | _ => False := p
      refine ⟨a, ws, e, SqT.of ha, ?_, ρ, vh, τ, vs, st, S, r1, p'⟩
      rw [r1.length]
      cases e2 : gsA gs vs τ vh with
      | next τ2 vh2 => exact gsA_len e2
      | brk _ _ => rw [e2] at p'; exact p'.elim
      | cont _ _ => rw [e2] at p'; exact p'.elim
      | ret _ _ => rw [e2] at p'; exact p'.elim
      | exc _ _ => rw [e2] at p'; exact p'.elim
      | bad => rw [e2] at p'; exact p'.elim
    | _ => exact p.elim
end
end FS

set_option Elab.async false
set_option linter.all false
set_option maxRecDepth 100000
set_option maxHeartbeats 4000000
namespace FS
open PySem PySem.Spec PyProof.Rows L2 FX
/-- all tracked objects stand -/
theorem HOk.tracked {P : Program} {w : World} {H : Hp} {h h' : Heap} (x : HOk P w H h) (k : ∀ c u v, H c = some u → h.get? c = some v → h'.get? c = some v) : HOk P w H h' := fun a o e =>
  (x a o e).stay (fun b u hb q => by
    rcases hb with rfl | hb
    · exact k _ _ _ e q
    · exact k _ _ _ hb q) (fun _ q => q) fun _ _ q => q
/-- an exception as it lies behind a call -/
def CXF (P : Program) (w : World) (base : Heap) : CXT := fun outer H s E ev s' => ∃ e cls H' T n dO, ev = .ref e ∧ s'.os = s.os ∧ AllBare s'.gens ∧ Un (frs outer) [] H H' s.heap s'.heap ∧ HOk P w H' s'.heap ∧
  base.get? e = none ∧ H' e = none ∧ s.heap.get? e = none ∧ base.get? T = none ∧ H' T = none ∧ s.heap.get? T = none ∧ 5 < n ∧ Fly s'.heap e cls n T .none dO ∧ E cls dO H'
/-- what a def does, as a function -/
abbrev FF := List PV → M PV
def spF (tb : Tb) (F : FF) (n : Nat) : Sp := fun vs H Q E => ∃ ρ vh xs, xs.length = n ∧ Reps ρ H xs vs ∧ Sim tb ρ vh H ∧ match F xs vh with
  | .ok v vh' => ∀ ρ' H' w, ρ <+: ρ' → Keep H H' → Sim tb ρ' vh' H' → Rep ρ' H' v w → Q w H'
  | .exc x vh' => ∀ ρ' H' dO, ρ <+: ρ' → Keep H H' → Sim tb ρ' vh' H' → XF ρ' H' dO x → E (.ref x.cls) dO H'
  | .bad => False
def FnF (P : Program) (w : World) (K : PySem.W.Frag) (mg : Str → Option Value) (base : Heap) (tb : Tb) (k : Nat) (f : Addr) (fd : FuncData) (ps : List Str) (F : FF) : Prop :=
  FnOk P w K mg base (CXF P w base) k f fd ps (spF tb F ps.length)
section
variable {tb : Tb} {X : Cx} {pos : Pos}
theorem Reps.vals {ρ : List Addr} {H : Hp} : ∀ {xs : List PV} {vs : List V} {us : List Value}, Reps ρ H xs vs → Vals vs us → us.length = xs.length := fun r v => by rw [← v.length, r.length]
/-- the callee runs -/
theorem run_F {k : Nat} {f : Addr} {fd : FuncData} {ps : List Str} {F : FF} {pins : List (Addr × Obj)} {σ : St} {ρ : List Addr} {vh : VH} {H : Hp} {s : Shared} {Q : VK} {xs : List PV} {vs : List V} {us : List Value} {args : Args}
    (Fn : FnF X.prog X.w X.K X.mg X.base tb k f fd ps F) (hr : Room k X.A) (hb : BindsTo s fd args (ps.zip us)) (hl : xs.length = ps.length)
    (I : Inv X pins σ H s) (S : Sim tb ρ vh H) (r : Reps ρ H xs vs) (rv : Vals vs us) (p : Post tb X σ ρ H (F xs vh) Q) : codeAny (model X.prog X.w) X.A (.call (.ref f) args) (fun r s' => match r with | .ok (.ret v) => EP X pins σ Q v s' | .ok _ => False | .error e => X.xe e s') s := by
  refine codeAny_mono (Fn.run X.A X.stack s H args us vs Q (fun cls d H' => ∃ x vh' ρ', F xs vh = .exc x vh' ∧ cls = .ref x.cls ∧ ρ <+: ρ' ∧ Keep H H' ∧ Sim tb ρ' vh' H' ∧ XF ρ' H' d x) hr I.env0 hb rv ⟨ρ, vh, xs, hl, r, S, ?_⟩) fun res s' hq => ?_
  · cases e : F xs vh with
    | ok v vh1 => rw [e] at p; exact p
    | exc x vh1 => exact fun ρ' H' dO p1 k1 S1 f1 => ⟨x, vh1, ρ', rfl, rfl, p1, k1, S1, f1⟩
    | bad => rw [e] at p; exact p
  · cases res with
    | ok fl =>
      cases fl with
      | ret u => exact I.after hq
      | next => exact False.elim hq
      | brk => exact False.elim hq
      | cont => exact False.elim hq
    | error ev =>
      obtain ⟨e, cls, H', T, n, dO, rfl, os, bare, un, hok, nb, nH, ns, nbT, nHT, nsT, hn, fly, x, vh1, ρ', ex, rfl, p1, k1, S1, f1⟩ := hq
      rw [ex] at p
      refine p _ s' ⟨ρ', H', e, p1, k1, (I.call' (ch := []) os un hok bare fun b z => absurd z (by simp)).pins_of (fun q hq => absurd hq (by simp)), S1, rfl, ⟨nb, nH, fun hx => ?_, fun q hq z => ?_, dO, f1, .inr ⟨T, n, hn, fly, nbT, nHT, fun hx => ?_, fun q hq z => ?_⟩⟩⟩
      · cases z : X.s₀.heap.get? e with
        | none => rfl
        | some o => obtain ⟨o', q⟩ := I.base.there e o z (by rw [hx]; simp); rw [ns] at q; cases q
      · have := (I.pin q (List.mem_append_left _ hq)).1
        rw [z, ns] at this; cases this
      · cases z : X.s₀.heap.get? T with
        | none => rfl
        | some o => obtain ⟨o', q⟩ := I.base.there T o z (by rw [hx]; simp); rw [nsT] at q; cases q
      · have := (I.pin q (List.mem_append_left _ hq)).1
        rw [z, nsT] at this; cases this
def fCall (F : FF) (n : Nat) (fs : FA) : FE := fun τ => M.bind (fs τ) fun xs => if xs.length = n then F xs else M.bad
end
end FS
namespace FS
open PySem PySem.Spec PyProof.Rows L2 FX
section
variable {tb : Tb} {X : Cx} {pos p : Pos} {x : Str} {e : Expr} {es : List Expr} {fs : FA} {k : Nat} {f : Addr} {fd : FuncData} {ps : List Str} {F : FF}
/-- f(e, ..), a def of the text, without defaults -/
theorem e_call (Fn : FnF X.prog X.w X.K X.mg X.base tb k f fd ps F) (hr : Room k X.A) (hg : Gl X x) (hm : X.mg x = some (.ref f)) (hk : PySem.W.keepIn X.K (.ref f) = true) (hb : Binds X.K fd ps [])
    (ha : AOk tb X (e :: es) fs) (hdb : (x == ("__debug__" : Str)) = false := by decide) (he : starEach (e :: es) X.env = (false, eval e X.env) :: starEach es X.env := by rfl) (hpl : (backTo pos (starEach es X.env)).any (·.1) = false := by rfl) :
    EOk tb X (.Call (.Name x p) (e :: es) [] pos) (fCall F ps.length fs) := by
  intro pins s σ H Q I ⟨ρ, vh, τ, st, S, p⟩
  refine wpAny_Call_Name_kw (ld_glob I hg hm ?_ hdb)
  refine PySem.W.callWith_K (h₀ := X.base) I.ok.mod.kin hk (thn (ha pos pins s σ H (fun ws H1 => ∃ ρ1 vh1 xs, xs.length = ps.length ∧ Sim tb ρ1 vh1 H1 ∧ Reps ρ1 H1 xs ws ∧ Post tb X σ ρ1 H1 (F xs vh1) Q) I ⟨ρ, vh, τ, st, S, seqAE p fun vh1 ρ1 H1 v1 w1 p1 k1 S1 r1 q1 => ?_⟩) fun us s1 ⟨vs, H1, I1, r, q⟩ => ⟨I1.kIn, ?_⟩) he hpl
  · by_cases hl : v1.length = ps.length
    · rw [if_pos hl] at q1; exact ⟨ρ1, vh1, v1, hl, S1, r1, q1⟩
    · rw [if_neg hl] at q1; exact q1.elim
  · obtain ⟨ρ1, vh1, xs, hl, S1, r1, q1⟩ := q
    have hz : (us ++ []).length = ps.length := by rw [List.append_nil, ← r.length, r1.length, hl]
    have hbb := hb s1 us I1.kIn hz
    rw [List.append_nil] at hbb
    exact wpAny_call (run_F Fn hr hbb hl I1 S1 r1 r q1)
end
/-! ### a def by its body -/
def startT (N : List Str) (xs : List PV) : Tau := xs.map some ++ List.replicate (N.length - xs.length) none
def runB (g : FSt) (τ : Tau) : M PV := fun h => match g τ h with
  | .next _ h' => .ok .non h'
  | .ret v h' => .ok v h'
  | .exc x h' => .exc x h'
  | _ => .bad
theorem Reps.get {ρ : List Addr} {H : Hp} : ∀ {xs : List PV} {vs : List V} {i : Nat} {x : PV}, Reps ρ H xs vs → xs[i]? = some x → ∃ v, vs[i]? = some v ∧ Rep ρ H x v
  | [], _, _, _, _, e => by simp at e
  | _ :: _, _, 0, _, r, e => by obtain ⟨v, ws, rfl, r1, _⟩ := r; simp at e; subst e; exact ⟨v, rfl, r1⟩
  | _ :: _, _, i + 1, x, r, e => by obtain ⟨v, ws, rfl, _, r2⟩ := r; simp at e; obtain ⟨w, h1, h2⟩ := Reps.get r2 e; exact ⟨w, by simpa using h1, h2⟩
theorem start_rel {hv : Option Value} {ρ : List Addr} {H : Hp} {N : List Str} {xs : List PV} {vs : List V} (hd : Hd hv H) (r : Reps ρ H xs vs) : StRel hv ρ H (startT N xs) (start N vs) := by
  have hl := r.length
  refine ⟨hd, by simp [startT, L2.start, hl], fun i x e => ?_⟩
  unfold startT at e
  by_cases hi : i < xs.length
  · rw [List.getElem?_append_left (by simpa using hi), List.getElem?_map] at e
    cases e1 : xs[i]? with
    | none => rw [e1] at e; cases e
    | some y =>
      rw [e1] at e
      have e2 : y = x := by simpa using e
      subst e2
      obtain ⟨v, h1, h2⟩ := r.get e1
      refine ⟨v, ?_, h2⟩
      unfold L2.start
      rw [List.getElem?_append_left (by simpa [hl] using hi), List.getElem?_map, h1]; rfl
  · rw [List.getElem?_append_right (by simpa using hi), List.getElem?_replicate] at e
    split at e <;> cases e
section
variable {tb : Tb} {P : Program} {w : World} {K : PySem.W.Frag} {mg : Str → Option Value} {base : Heap}
/-- an exception leaves a def's frame -/
theorem leave_F {N : List Str} {qual : Str} {scope : Scope} {f : Addr} {cd : Value} {A : Around} {outer : List Env} {s : Shared} {H H0 : Hp} {E : XK} {σ : St} {ρ : List Addr} {x : XV} {vh : VH} {ev : Value} {s' : Shared}
    (hE : ∀ ρ' H' dO, ρ <+: ρ' → Keep H0 H' → Sim tb ρ' vh H' → XF ρ' H' dO x → E (.ref x.cls) dO H')
    (q : XPost tb (cxOf (CXF P w base) P w K mg base N qual scope f cd A outer s H E) σ ρ H0 x vh ev s') : (cxOf (CXF P w base) P w K mg base N qual scope f cd A outer s H E).xe ev s' := by
  obtain ⟨ρ', H', e, p1, k1, I, S1, rfl, xe⟩ := q
  obtain ⟨dO, f1, stage⟩ := xe.stage
  have hfr : (A.deeper (envOfC qual scope s.heap.objs.size f cd)).frames = some (envOfC qual scope s.heap.objs.size f cd :: outer) := I.ok.frames
  have hl : s'.heap.FunFrames base (envOfC qual scope s.heap.objs.size f cd :: outer) := I.stack
  have n0 : s.heap.get? e = none := xe.n0 rfl
  have fin : ∀ {h1 h2 : Heap} {T T' : Addr} {Told : Option Addr} {n : Nat}, Gone ((envOfC qual scope s.heap.objs.size f cd :: outer).filterMap (·.frame)) e Told s'.heap h1 → s'.heap.get? T' = none → (∀ t, Told = some t → H' t = none ∧ s.heap.get? t = none ∧ ∃ ot ts, s'.heap.get? t = some ot ∧ ot.data = .fields ts) →
      (∀ b o, b ≠ T' → h1.get? b = some o → h2.get? b = some o) → (∃ o', h2.get? T' = some o') → 5 < n → Fly h2 e (.ref x.cls) n T' .none dO → CXF P w base outer H s E (.ref e) { s' with heap := h2 } := by
    intro h1 h2 T T' Told n g newT hT kp thT hn fly
    have nT' : ∀ b o, s'.heap.get? b = some o → b ≠ T' := fun b o q z => by rw [z, newT] at q; cases q
    have frT : ∀ {b u}, H' b = some u → b ∉ (envOfC qual scope s.heap.objs.size f cd :: outer).filterMap (·.frame) := fun {b u} hu hb => by
      have := I.stkFree b hb; rw [hu] at this; cases this
    have sT' : s.heap.get? T' = none := by
      cases z : s.heap.get? T' with
      | none => rfl
      | some o => obtain ⟨o', q⟩ := I.base.there T' o z (by simp [cxOf]); rw [newT] at q; cases q
    refine ⟨e, _, H', T', n, dO, rfl, I.os, I.bare, ⟨fun b o q hn hb hx => ?_, fun b o q hn hb hx => ?_, fun b o q hn hx => I.base.free b o q hn (by simp [cxOf]), fun b o q hx => ?_, I.base.tups, I.base.frzs, I.base.tbls⟩, ?_, xe.nb, xe.nH, n0, ?_, ?_, sT', hn, fly, hE ρ' H' dO p1 k1 S1 f1⟩
    · have q1 := I.base.keep b o q hn hb (by simp [cxOf])
      refine kp b o (nT' b o q1) (g.keep b o (fun z => by rw [z, n0] at q; cases q) (fun z => by rw [(hT b z).2.1] at q; cases q) (fun z => ?_) q1)
      rcases List.mem_cons.mp (I.stkSub b z) with z | z
      · exact absurd (Nat.lt_of_lt_of_le (Heap.lt_size q) (by rw [z]; exact I.ok.above)) (Nat.lt_irrefl _)
      · exact hb z
    · obtain ⟨sl, q1⟩ := I.base.slot b o q hn hb (by simp [cxOf])
      obtain ⟨sl2, q2⟩ := g.slot b _ (fun z => by rw [z, n0] at q; cases q) (fun z => by rw [(hT b z).2.1] at q; cases q) q1
      exact ⟨sl2, kp b _ (nT' b _ q1) q2⟩
    · obtain ⟨o1, q1⟩ := I.base.there b o q (by simp [cxOf])
      obtain ⟨o2, q2⟩ := g.there b o1 q1
      exact ⟨o2, kp b o2 (nT' b o1 q1) q2⟩
    · refine HOk.tracked I.hok fun c u v hc q => kp c v (nT' c v q) (g.keep c v (fun z => by rw [z, xe.nH] at hc; cases hc) (fun z => by rw [(hT c z).1] at hc; cases hc) (frT hc) q)
    · cases z : base.get? T' with
      | none => rfl
      | some o => have := I.bk T' o z; rw [newT] at this; cases this
    · cases z : H' T' with
      | none => rfl
      | some u => have := (I.hok T' u z).lt; obtain ⟨o, q⟩ : ∃ o, s'.heap.get? T' = some o := by
                    have ok := I.hok T' u z
                    cases u with
                    | lst xs => obtain ⟨_, _, _, _, e⟩ := ok; exact ⟨_, e⟩
                    | tup xs => obtain ⟨_, _, _, o, e, _⟩ := ok; exact ⟨_, e⟩
                    | dK kvs => obtain ⟨_, _, _, _, o, _, _, e, _⟩ := ok; exact ⟨_, e⟩
                    | dT kvs => obtain ⟨_, _, _, _, o, _, _, e, _⟩ := ok; exact ⟨_, e⟩
                    | set S n => obtain ⟨o, _, _, _, e, _⟩ := ok; exact ⟨_, e⟩
                    | ins C dx fs => obtain ⟨_, _, _, e, _⟩ := ok; exact ⟨_, e⟩
                    | own y => obtain ⟨_, e⟩ := ok; exact ⟨_, e⟩
                    | xd fs => obtain ⟨_, ⟨_, _, _, e, _⟩, _⟩ := ok; exact ⟨_, e⟩
                    | rng lo hi => obtain ⟨_, _, _, e⟩ := ok; exact ⟨_, e⟩
                    | frz ob u => obtain ⟨e, _⟩ := ok; exact ⟨_, e⟩
                    | tbl ps => exact ⟨_, ok⟩
                    | met f y => exact ⟨_, ok⟩
                    | ext φ => obtain ⟨_, ⟨_, e⟩, _⟩ := ok; exact ⟨_, e⟩
                  rw [newT] at q; cases q
  show wpAny (model P w) (A.deeper (envOfC qual scope s.heap.objs.size f cd)) (leaving (envOfC qual scope s.heap.objs.size f cd) (.ref e)) _ _ s'
  unfold leaving
  rcases stage with ⟨n, hn, fr⟩ | ⟨T, n, hn, fl, nbT, nHT, n0T, npT⟩
  · refine wpAny_bind (note_fresh (by omega) hfr hl rfl fr fun h1 T' g newT fly => flight_none fly fun h2 kp thT _ fly2 => ?_)
    exact fin (T := T') g newT (fun t z => nomatch z) kp thT hn fly2
  · refine wpAny_bind (note_fly (by omega) hfr hl rfl fl fun h1 T' g newT fly => flight_none fly fun h2 kp thT _ fly2 => ?_)
    refine fin (T := T') g newT (fun t z => ?_) kp thT hn fly2
    cases z
    obtain ⟨_, _, oT, ts, _, _, _, _, _, _, _, gT, dT, _⟩ := fl
    exact ⟨nHT, n0T rfl, oT, ts, gT, dT⟩
/-- THE RULE for a def: its body's function -/
theorem fn_F {k : Nat} {f : Addr} {name qual : Str} {params : Arguments} {body : List Stmt} {scope : Scope} {dV kV doc pm cdv ct oc : Value} {an od : Option Addr} {osl : Array (Option Value)} {N ps : List Str} {F : FF} {g : FSt}
    (lk : K.lookup f = some ⟨oc, od, .func (PySem.W.fnOf name qual params body scope dV kV doc pm an cdv ct), osl⟩) (hcd : PySem.W.codeIn K cdv qual = true) (S : FnScope N ps scope)
    (hbody : ∀ (A : Around) (outer : List Env) (s : Shared) (H : Hp) (E : XK), Room k (A.deeper (envOfC qual scope s.heap.objs.size f cdv)) → BOk tb (cxOf (CXF P w base) P w K mg base N qual scope f cdv A outer s H E) body g)
    (hF : ∀ xs vh, xs.length = ps.length → runB g (startT N xs) vh = F xs vh) : FnF P w K mg base tb (k + 1) f (PySem.W.fnOf name qual params body scope dV kV doc pm an cdv ct) ps F := by
  refine fn_of lk hcd S (fun vs H Q E ⟨ρ, vh, xs, hl, r, _⟩ => by rw [r.length, hl]) fun A outer s H vs Q E hr ⟨ρ, vh, xs, hl, r, Sm, hq⟩ => ?_
  refine ⟨_, hbody A outer s H E hr, ρ, vh, startT N xs, start_rel (.inl hr.hd) r, Sm, ?_⟩
  have e := hF xs vh hl
  rw [← e] at hq
  unfold runB at hq
  cases eg : g (startT N xs) vh with
  | next τ vh1 => rw [eg] at hq; exact fun ρ' H' σ' p1 k1 S1 _ => hq ρ' H' .non p1 k1 S1 rfl
  | brk τ vh1 => rw [eg] at hq; exact hq.elim
  | cont τ vh1 => rw [eg] at hq; exact hq.elim
  | ret v vh1 => rw [eg] at hq; exact hq
  | exc x vh1 => rw [eg] at hq; exact fun σ ev s' q => leave_F hq q
  | bad => rw [eg] at hq; exact hq.elim
end
end FS

set_option Elab.async false
set_option linter.all false
set_option maxRecDepth 100000
set_option maxHeartbeats 4000000
namespace FS
open PySem PySem.Spec PyProof.Rows L2 FX
open PySem.SeqAt
/-! ### equality, as deep as values go -/
def fl : PV → Bool
  | .non => true | .bl _ => true | .int _ => true | .str _ => true | _ => false
def feq : PV → PV → Bool
  | .non, .non => true
  | .bl a, .bl b => a == b
  | .bl a, .int b => (if a then 1 else 0) == b
  | .int a, .bl b => a == (if b then 1 else 0)
  | .int a, .int b => a == b
  | .str a, .str b => a == b
  | _, _ => false
/-- a counted list's items -/
def lsOf (h : VH) (i : Nat) : Option (List PV) := match h[i]? with
  | some (.lst xs) => some xs
  | some (.scr ns) => some (ns.map PV.int)
  | _ => none
/-- of what kind a value is, for == -/
inductive Kd where
  | flat | tp (xs : List PV) | ls (xs : List PV)
def kd (h : VH) (x : PV) : Option Kd := match x with
  | .non => some .flat
  | .bl _ => some .flat
  | .int _ => some .flat
  | .str _ => some .flat
  | .tup xs => some (.tp xs)
  | .ref i => match lsOf h i with
    | some xs => some (.ls xs)
    | none => none
  | _ => none
mutual
def eqF (h : VH) : Nat → PV → PV → Option Bool
  | 0, _, _ => none
  | n + 1, x, y => match kd h x, kd h y with
    | some .flat, some .flat => some (feq x y)
    | some (.tp xs), some (.tp ys) => match eqsF h n xs ys with
      | some b => some (b && (xs.length == ys.length))
      | none => none
    | some (.ls xs), some (.ls ys) => if xs.length = ys.length then eqsF h n xs ys else some false
    | some _, some _ => some false
    | _, _ => none
/-- the items two by two, as far as the shorter goes -/
def eqsF (h : VH) : Nat → List PV → List PV → Option Bool
  | 0, _, _ => none
  | _ + 1, [], _ => some true
  | _ + 1, _ :: _, [] => some true
  | n + 1, x :: xs, y :: ys => match eqF h n x y, eqsF h n xs ys with
    | some a, some b => some (a && b)
    | _, _ => none
end
section
variable {A : Around} {s : Shared} {ρ : List Addr} {H : Hp}
theorem fl_V {x : PV} {v : V} (r : Rep ρ H x v) (f : fl x = true) : flatV v = true := by
  cases x <;> first | (cases r; rfl) | exact absurd f Bool.false_ne_true
theorem feq_V {x y : PV} {v w : V} (r : Rep ρ H x v) (q : Rep ρ H y w) (f : fl x = true) (g : fl y = true) : eqV v w = feq x y := by
  cases x <;> first | exact absurd f Bool.false_ne_true | (cases y <;> first | exact absurd g Bool.false_ne_true | (cases r; cases q; rfl))
theorem feq_same {x y : PV} {v : V} (r : Rep ρ H x v) (q : Rep ρ H y v) (f : fl x = true) (g : fl y = true) : feq x y = true := by
  cases x <;> first | exact absurd f Bool.false_ne_true | (cases y <;> first | exact absurd g Bool.false_ne_true | (cases r; cases q; simp [feq]) | (cases r; exact nomatch q))
/-- what is shown of an equality: by ==, by != and within containers -/
structure Eqs (A : Around) (s : Shared) (u z : Value) (b : Bool) : Prop where
  at_ : EqAt A s u z b
  rc : RcAt A s u z b
  ne : RcNeAt A s u z (!b)
theorem eqs_flat {x y : PV} {v w : V} {u z : Value} (r : Rep ρ H x v) (q : Rep ρ H y w) (f : fl x = true) (g : fl y = true) (rv : RelV v u) (rw' : RelV w z) : Eqs A s u z (feq x y) := by
  have ea : EqAt A s u z (feq x y) := by
    have e := eqAt_V (A := A) (s := s) rv rw' (fl_V r f) (fl_V q g)
    rw [feq_V r q f g] at e; exact e
  cases x with
  | non  =>
    cases r; cases rv
    cases y with
    | non  => cases q; cases rw'; exact ⟨ea, RcAt.none_none , RcNeAt.none_none ⟩
    | bl b => cases q; cases rw'; exact ⟨ea, RcAt.none_bool b, RcNeAt.none_bool b⟩
    | int b => cases q; obtain ⟨t, rfl⟩ := rw'; exact ⟨ea, RcAt.none_int b t, RcNeAt.none_int b t⟩
    | str b => cases q; obtain ⟨t, rfl⟩ := rw'; exact ⟨ea, RcAt.none_str b t, RcNeAt.none_str b t⟩
    | _ => exact absurd g Bool.false_ne_true
  | bl a =>
    cases r; cases rv
    cases y with
    | non  => cases q; cases rw'; exact ⟨ea, RcAt.bool_none a, RcNeAt.bool_none a⟩
    | bl b => cases q; cases rw'; exact ⟨ea, RcAt.bool_bool a b, RcNeAt.bool_bool a b⟩
    | int b => cases q; obtain ⟨t, rfl⟩ := rw'; exact ⟨ea, RcAt.bool_int a b t, RcNeAt.bool_int a b t⟩
    | str b => cases q; obtain ⟨t, rfl⟩ := rw'; exact ⟨ea, RcAt.bool_str a b t, RcNeAt.bool_str a b t⟩
    | _ => exact absurd g Bool.false_ne_true
  | int a =>
    cases r; obtain ⟨t', rfl⟩ := rv
    cases y with
    | non  => cases q; cases rw'; exact ⟨ea, RcAt.int_none a t', RcNeAt.int_none a t'⟩
    | bl b => cases q; cases rw'; exact ⟨ea, RcAt.int_bool a t' b, RcNeAt.int_bool a t' b⟩
    | int b => cases q; obtain ⟨t, rfl⟩ := rw'; exact ⟨ea, RcAt.int_int a t' b t, RcNeAt.int_int a t' b t⟩
    | str b => cases q; obtain ⟨t, rfl⟩ := rw'; exact ⟨ea, RcAt.int_str a t' b t, RcNeAt.int_str a t' b t⟩
    | _ => exact absurd g Bool.false_ne_true
  | str a =>
    cases r; obtain ⟨t', rfl⟩ := rv
    cases y with
    | non  => cases q; cases rw'; exact ⟨ea, RcAt.str_none a t', RcNeAt.str_none a t'⟩
    | bl b => cases q; cases rw'; exact ⟨ea, RcAt.str_bool a t' b, RcNeAt.str_bool a t' b⟩
    | int b => cases q; obtain ⟨t, rfl⟩ := rw'; exact ⟨ea, RcAt.str_int a t' b t, RcNeAt.str_int a t' b t⟩
    | str b => cases q; obtain ⟨t, rfl⟩ := rw'; exact ⟨ea, RcAt.str_str a t' b t, RcNeAt.str_str a t' b t⟩
    | _ => exact absurd g Bool.false_ne_true
  | _ => exact absurd f Bool.false_ne_true
theorem eqs_split {h : VH} : ∀ {xs ys : List PV} {n : Nat} {b : Bool}, eqsF h n xs ys = some b → ∃ e : Nat → Bool, (∀ (j : Nat) x y, xs[j]? = some x → ys[j]? = some y → ∃ m, m < n ∧ eqF h m x y = some (e j)) ∧ (List.range (min xs.length ys.length)).all e = b
  | _, _, 0, _, q => by simp [eqsF] at q
  | [], ys, n + 1, b, q => by
    simp only [eqsF, Option.some.injEq] at q; subst q
    exact ⟨fun _ => true, fun j x y e => by simp at e, by simp⟩
  | x :: xs, [], n + 1, b, q => by
    simp only [eqsF, Option.some.injEq] at q; subst q
    exact ⟨fun _ => true, fun j x y _ e => by simp at e, by simp⟩
  | x :: xs, y :: ys, n + 1, b, q => by
    unfold eqsF at q
    cases e1 : eqF h n x y with
    | none => rw [e1] at q; simp at q
    | some a =>
      cases e2 : eqsF h n xs ys with
      | none => rw [e1, e2] at q; simp at q
      | some c =>
        rw [e1, e2] at q
        simp only [Option.some.injEq] at q
        obtain ⟨e, he, hb⟩ := eqs_split e2
        refine ⟨fun j => match j with | 0 => a | k + 1 => e k, fun j x' y' h1 h2 => ?_, ?_⟩
        · cases j with
          | zero => simp at h1 h2; subst h1; subst h2; exact ⟨n, Nat.lt_succ_self _, e1⟩
          | succ k => simp at h1 h2; obtain ⟨m, hm, z⟩ := he k x' y' h1 h2; exact ⟨m, Nat.lt_succ_of_lt hm, z⟩
        · rw [List.length_cons, List.length_cons, Nat.add_min_add_right, List.range_succ_eq_map, List.all_cons, List.all_map, ← q, ← hb]
          rfl
/-- what lies at a counted list -/
theorem ls_get {tb : Tb} {vh : VH} {i : Nat} {xs : List PV} {P : Program} {w : World} (S : Sim tb ρ vh H) (ok : HOk P w H s.heap) (e : lsOf vh i = some xs) {a : Addr} (ha : ρ[i]? = some a) : ∃ vs its, Reps ρ H xs vs ∧ Vals vs its ∧ s.heap.IsList a its.toArray ∧ Rd H a (.lst vs) := by
  obtain ⟨o, ho, r⟩ := S.at ha
  unfold lsOf at e
  rw [ho] at e
  cases o with
  | lst ys =>
    cases e
    obtain ⟨vs, hv, rr⟩ := r
    obtain ⟨_, its, n, rv, hg⟩ := ok a _ hv
    exact ⟨vs, its, rr, rv, ⟨_, hg, rfl, n, rfl⟩, .inl hv⟩
  | scr ns =>
    cases e
    obtain ⟨ob, hv⟩ := r
    obtain ⟨hg, hz, its, n, rv, hg2⟩ := ok a _ hv
    refine ⟨ns.map V.int, its, ?_, rv, ⟨_, hg2, rfl, n, rfl⟩, .inr ⟨ob, hv⟩⟩
    clear hv hg hg2 rv ho hz
    induction ns with
    | nil => rfl
    | cons k r ih => exact ⟨_, _, rfl, rfl, ih⟩
  | dct _ => cases e
  | ins _ _ => cases e
theorem tup_get {vs : List V} {P : Program} {w : World} {a : Addr} (ok : HOk P w H s.heap) (ha : H a = some (.tup vs)) : ∃ its, Vals vs its ∧ s.heap.IsTuple a its.toArray := by
  obtain ⟨_, its, rv, o, hg, hc, n, hd⟩ := ok a _ ha
  exact ⟨its, rv, o, hg, hc, n, hd⟩
theorem items_eq {us zs : List Value} {vs ws : List V} {xs ys : List PV} {e : Nat → Bool} (rx : Reps ρ H xs vs) (ry : Reps ρ H ys ws) (ru : Vals vs us) (rz : Vals ws zs)
    (k : ∀ (j : Nat) x y v w u z, xs[j]? = some x → ys[j]? = some y → Rep ρ H x v → Rep ρ H y w → RelV v u → RelV w z → EqAt A.in1 s u z (e j)) :
    ∀ (j : Nat) (h1 : j < us.toArray.size) (h2 : j < zs.toArray.size), EqAt A.in1 s us.toArray[j] zs.toArray[j] (e j) := fun j h1 h2 => by
  have l1 : us.length = xs.length := rx.vals ru
  have l2 : zs.length = ys.length := ry.vals rz
  simp only [List.size_toArray] at h1 h2
  have g1 : xs[j]? = some xs[j] := List.getElem?_eq_getElem (by omega)
  have g2 : ys[j]? = some ys[j] := List.getElem?_eq_getElem (by omega)
  obtain ⟨v, hv, rv⟩ := rx.get g1
  obtain ⟨w, hw, rw'⟩ := ry.get g2
  obtain ⟨u, hu, qu⟩ := ru.get hv
  obtain ⟨z, hz, qz⟩ := rz.get hw
  have e1 : us.toArray[j] = u := by
    have := (List.getElem?_eq_some_iff.mp hu).2; simpa using this
  have e2 : zs.toArray[j] = z := by
    have := (List.getElem?_eq_some_iff.mp hz).2; simpa using this
  rw [e1, e2]
  exact k j _ _ v w u z g1 g2 rv rw' qu qz
theorem Reps.same_len {xs ys : List PV} {vs : List V} (a : Reps ρ H xs vs) (b : Reps ρ H ys vs) : xs.length = ys.length := by rw [← a.length, ← b.length]
theorem kd_flat {vh : VH} {x : PV} (e : kd vh x = some .flat) : fl x = true := by
  cases x with
  | ref i => simp only [kd] at e; cases q : lsOf vh i <;> (rw [q] at e; cases e)
  | _ => first | rfl | cases e
theorem kd_tp {vh : VH} {x : PV} {xs : List PV} (e : kd vh x = some (.tp xs)) : x = .tup xs := by
  cases x with
  | ref i => simp only [kd] at e; cases q : lsOf vh i <;> (rw [q] at e; cases e)
  | tup ys => cases e; rfl
  | _ => cases e
theorem kd_ls {vh : VH} {x : PV} {xs : List PV} (e : kd vh x = some (.ls xs)) : ∃ i, x = .ref i ∧ lsOf vh i = some xs := by
  cases x with
  | ref i => simp only [kd] at e; cases q : lsOf vh i with
    | none => rw [q] at e; cases e
    | some ys => rw [q] at e; cases e; exact ⟨i, rfl, q⟩
  | _ => cases e
theorem eqs_ft {x : PV} {v : V} {u : Value} {a : Addr} {its : Array Value} (r : Rep ρ H x v) (f : fl x = true) (rv : RelV v u) (t : s.heap.IsTuple a its) (hu : A.units < cLine) : Eqs A s u (.ref a) false ∧ Eqs A s (.ref a) u false := by
  cases x with
  | non => cases r; cases rv; exact ⟨⟨.none_tuple t hu, .none_tuple t hu, .none_tuple t hu⟩, ⟨.tuple_none t hu, .tuple_none t hu, .tuple_none t hu⟩⟩
  | bl k => cases r; cases rv; exact ⟨⟨.bool_tuple k t hu, .bool_tuple k t hu, .bool_tuple k t hu⟩, ⟨.tuple_bool k t hu, .tuple_bool k t hu, .tuple_bool k t hu⟩⟩
  | int k => cases r; obtain ⟨t', rfl⟩ := rv; exact ⟨⟨.int_tuple k t' t hu, .int_tuple k t' t hu, .int_tuple k t' t hu⟩, ⟨.tuple_int k t' t hu, .tuple_int k t' t hu, .tuple_int k t' t hu⟩⟩
  | str k => cases r; obtain ⟨t', rfl⟩ := rv; exact ⟨⟨.str_tuple k t' t hu, .str_tuple k t' t hu, .str_tuple k t' t hu⟩, ⟨.tuple_str k t' t hu, .tuple_str k t' t hu, .tuple_str k t' t hu⟩⟩
  | _ => exact absurd f Bool.false_ne_true
theorem eqs_fl {x : PV} {v : V} {u : Value} {a : Addr} {its : Array Value} (r : Rep ρ H x v) (f : fl x = true) (rv : RelV v u) (t : s.heap.IsList a its) (hu : A.units < cLine) : Eqs A s u (.ref a) false ∧ Eqs A s (.ref a) u false := by
  cases x with
  | non => cases r; cases rv; exact ⟨⟨.none_list t hu, .none_list t hu, .none_list t hu⟩, ⟨.list_none t hu, .list_none t hu, .list_none t hu⟩⟩
  | bl k => cases r; cases rv; exact ⟨⟨.bool_list k t hu, .bool_list k t hu, .bool_list k t hu⟩, ⟨.list_bool k t hu, .list_bool k t hu, .list_bool k t hu⟩⟩
  | int k => cases r; obtain ⟨t', rfl⟩ := rv; exact ⟨⟨.int_list k t' t hu, .int_list k t' t hu, .int_list k t' t hu⟩, ⟨.list_int k t' t hu, .list_int k t' t hu, .list_int k t' t hu⟩⟩
  | str k => cases r; obtain ⟨t', rfl⟩ := rv; exact ⟨⟨.str_list k t' t hu, .str_list k t' t hu, .str_list k t' t hu⟩, ⟨.list_str k t' t hu, .list_str k t' t hu, .list_str k t' t hu⟩⟩
  | _ => exact absurd f Bool.false_ne_true
theorem Eqs.of_refs {a c : Addr} {b : Bool} (rc : RcAt A s (.ref a) (.ref c) b) (ne : RcNeAt A s (.ref a) (.ref c) (!b)) (same : a = c → b = true) : Eqs A s (.ref a) (.ref c) b := by
  refine ⟨?_, rc, ne⟩
  by_cases h : a = c
  · subst h; rw [same rfl]; exact .same _
  · exact .of_refs h rc
/-- the deep equality is that of the machine -/
theorem eqs_ok {tb : Tb} {vh : VH} {P : Program} {w' : World} (S : Sim tb ρ vh H) (ok : HOk P w' H s.heap) : ∀ (n : Nat) (A : Around), A.units + n < cLine → ∀ (x y : PV) (b : Bool) (v w : V) (u z : Value), eqF vh n x y = some b → Rep ρ H x v → Rep ρ H y w → RelV v u → RelV w z → Eqs A s u z b ∧ (v = w → b = true) := by
  intro n
  induction n using Nat.strongRecOn with
  | _ n ih =>
  intro A hu x y b v w u z q rx ry rv rw'
  cases n with
  | zero => simp [eqF] at q
  | succ n =>
  have hu0 : A.units < cLine := by omega
  have hin : ∀ m, m < n → A.in1.units + m < cLine := fun m hm => by show A.units + 1 + m < cLine; omega
  unfold eqF at q
  cases ex : kd vh x with
  | none => rw [ex] at q; simp at q
  | some kx =>
  cases ey : kd vh y with
  | none => rw [ex, ey] at q; simp at q
  | some ky =>
  rw [ex, ey] at q
  cases kx with
  | flat =>
    have fx := kd_flat ex
    cases ky with
    | flat =>
      have fy := kd_flat ey
      cases q
      exact ⟨eqs_flat rx ry fx fy rv rw', fun e => by subst e; exact feq_same rx ry fx fy⟩
    | tp ys =>
      cases q
      obtain rfl := kd_tp ey
      obtain ⟨c, ws, rfl, hc, _⟩ := ry
      cases rw'
      obtain ⟨its, _, t⟩ := tup_get ok hc
      exact ⟨(eqs_ft rx fx rv t hu0).1, fun e => by subst e; cases x <;> first | exact absurd fx Bool.false_ne_true | exact nomatch rx⟩
    | ls ys =>
      cases q
      obtain ⟨j, rfl, el⟩ := kd_ls ey
      obtain ⟨c, hc, rfl⟩ := ry
      cases rw'
      obtain ⟨_, its, _, _, t, _⟩ := ls_get S ok el hc
      exact ⟨(eqs_fl rx fx rv t hu0).1, fun e => by subst e; cases x <;> first | exact absurd fx Bool.false_ne_true | exact nomatch rx⟩
  | tp xs =>
    obtain rfl := kd_tp ex
    obtain ⟨a, vs, rfl, ha, rxs⟩ := rx
    cases rv
    obtain ⟨its, rvi, ta⟩ := tup_get ok ha
    cases ky with
    | flat =>
      cases q
      have fy := kd_flat ey
      exact ⟨(eqs_ft ry fy rw' ta hu0).2, fun e => by subst e; cases y <;> first | exact absurd fy Bool.false_ne_true | exact nomatch ry⟩
    | tp ys =>
      obtain rfl := kd_tp ey
      obtain ⟨c, ws, rfl, hc, rys⟩ := ry
      cases rw'
      obtain ⟨itc, rwi, tc⟩ := tup_get ok hc
      dsimp only at q
      cases e1 : eqsF vh n xs ys with
      | none => rw [e1] at q; simp at q
      | some r =>
      rw [e1] at q
      simp only [Option.some.injEq] at q
      obtain ⟨e, he, hb⟩ := eqs_split e1
      have l1 : its.length = xs.length := rxs.vals rvi
      have l2 : itc.length = ys.length := rys.vals rwi
      have hit := items_eq (A := A) (s := s) rxs rys rvi rwi (e := e) fun j x y v w u z g1 g2 r1 r2 q1 q2 => by
        obtain ⟨m, hm, hz⟩ := he j x y g1 g2
        exact (ih m (by omega) A.in1 (hin m hm) x y (e j) v w u z hz r1 r2 q1 q2).1.at_
      have rc := RcAt.tuples ta tc hu0 hit
      have ne := RcNeAt.tuples ta tc hu0 hit
      simp only [List.size_toArray, l1, l2, hb, q] at rc ne
      have same : V.ref a = V.ref c → b = true := fun z => by
        cases z
        rw [ha] at hc; cases hc
        have ll := rxs.same_len rys
        rw [← q, ← hb, ll, beq_self_eq_true, Bool.and_true, List.all_eq_true]
        intro j hj
        have hj' : j < ys.length := by simpa using hj
        have g1 : xs[j]? = some xs[j] := List.getElem?_eq_getElem (by omega)
        have g2 : ys[j]? = some ys[j] := List.getElem?_eq_getElem hj'
        obtain ⟨m, hm, hz⟩ := he j _ _ g1 g2
        obtain ⟨v1, hv1, r1⟩ := rxs.get g1
        obtain ⟨v2, hv2, r2⟩ := rys.get g2
        obtain ⟨u1, _, q1⟩ := rvi.get hv1
        rw [hv1] at hv2; cases hv2
        exact (ih m (by omega) A.in1 (hin m hm) _ _ _ _ _ u1 u1 hz r1 r2 q1 q1).2 rfl
      exact ⟨Eqs.of_refs rc ne fun z => same (by rw [z]), same⟩
    | ls ys =>
      cases q
      obtain ⟨j, rfl, el⟩ := kd_ls ey
      obtain ⟨c, hc, rfl⟩ := ry
      cases rw'
      obtain ⟨_, itc, _, _, tc, rd⟩ := ls_get S ok el hc
      have nac : a ≠ c := fun z => by
        subst z
        rcases rd with rd | ⟨o, rd⟩ <;> (rw [ha] at rd; cases rd)
      exact ⟨⟨.of_refs nac (RcAt.tuple_list ta tc hu0), RcAt.tuple_list ta tc hu0, RcNeAt.tuple_list ta tc hu0⟩, fun z => by cases z; exact absurd rfl nac⟩
  | ls xs =>
    obtain ⟨i, rfl, el⟩ := kd_ls ex
    obtain ⟨a, ha, rfl⟩ := rx
    cases rv
    obtain ⟨vs, its, rxs, rvi, ta, rda⟩ := ls_get S ok el ha
    cases ky with
    | flat =>
      cases q
      have fy := kd_flat ey
      exact ⟨(eqs_fl ry fy rw' ta hu0).2, fun e => by subst e; cases y <;> first | exact absurd fy Bool.false_ne_true | exact nomatch ry⟩
    | tp ys =>
      cases q
      obtain rfl := kd_tp ey
      obtain ⟨c, ws, rfl, hc, rys⟩ := ry
      cases rw'
      obtain ⟨itc, rwi, tc⟩ := tup_get ok hc
      have nac : a ≠ c := fun z => by
        subst z
        rcases rda with rd | ⟨o, rd⟩ <;> (rw [hc] at rd; cases rd)
      exact ⟨⟨.of_refs nac (RcAt.list_tuple ta tc hu0), RcAt.list_tuple ta tc hu0, RcNeAt.list_tuple ta tc hu0⟩, fun z => by cases z; exact absurd rfl nac⟩
    | ls ys =>
      obtain ⟨j, rfl, el2⟩ := kd_ls ey
      obtain ⟨c, hc, rfl⟩ := ry
      cases rw'
      obtain ⟨ws, itc, rys, rwi, tc, rdc⟩ := ls_get S ok el2 hc
      have l1 : its.length = xs.length := rxs.vals rvi
      have l2 : itc.length = ys.length := rys.vals rwi
      dsimp only at q
      by_cases hl : xs.length = ys.length
      · simp only [hl, if_true] at q
        obtain ⟨e, he, hb⟩ := eqs_split q
        have hit := items_eq (A := A) (s := s) rxs rys rvi rwi (e := e) fun j x y v w u z g1 g2 r1 r2 q1 q2 => by
          obtain ⟨m, hm, hz⟩ := he j x y g1 g2
          exact (ih m (by omega) A.in1 (hin m hm) x y (e j) v w u z hz r1 r2 q1 q2).1.at_
        have hsz : its.toArray.size = itc.toArray.size := by simp [l1, l2, hl]
        have rc := RcAt.lists ta tc hsz hu0 hit
        have ne := RcNeAt.lists ta tc hsz hu0 hit
        rw [hl, Nat.min_self] at hb
        simp only [List.size_toArray, l1, hl, hb] at rc ne
        have same : V.ref a = V.ref c → b = true := fun z => by
          cases z
          have evs : vs = ws := by
            rcases rda with r1 | ⟨o1, r1⟩ <;> rcases rdc with r2 | ⟨o2, r2⟩ <;> (rw [r1] at r2; cases r2) <;> rfl
          subst evs
          rw [← hb, List.all_eq_true]
          intro k hk
          have hk' : k < ys.length := by simpa using hk
          have g1 : xs[k]? = some xs[k] := List.getElem?_eq_getElem (by omega)
          have g2 : ys[k]? = some ys[k] := List.getElem?_eq_getElem hk'
          obtain ⟨m, hm, hz⟩ := he k _ _ g1 g2
          obtain ⟨v1, hv1, r1⟩ := rxs.get g1
          obtain ⟨v2, hv2, r2⟩ := rys.get g2
          obtain ⟨u1, _, q1⟩ := rvi.get hv1
          rw [hv1] at hv2; cases hv2
          exact (ih m (by omega) A.in1 (hin m hm) _ _ _ _ _ u1 u1 hz r1 r2 q1 q1).2 rfl
        exact ⟨Eqs.of_refs rc ne fun z => same (by rw [z]), same⟩
      · simp only [hl, if_false, Option.some.injEq] at q
        subst q
        have hsz : (its.toArray.size != itc.toArray.size) = true := by simp [l1, l2, hl]
        have nac : a ≠ c := fun z => by
          subst z
          have evs : vs = ws := by
            rcases rda with r1 | ⟨o1, r1⟩ <;> rcases rdc with r2 | ⟨o2, r2⟩ <;> (rw [r1] at r2; cases r2) <;> rfl
          subst evs
          exact hl (rxs.same_len rys)
        exact ⟨⟨.of_refs nac (RcAt.lists_lengths ta tc hsz hu0), RcAt.lists_lengths ta tc hsz hu0, RcNeAt.lists_lengths ta tc hsz hu0⟩, fun z => by cases z; exact absurd rfl nac⟩
end
end FS

set_option Elab.async false
set_option linter.all false
set_option maxRecDepth 100000
set_option maxHeartbeats 4000000
namespace FS
open PySem PySem.Spec PyProof.Rows L2 FX
section
variable {tb : Tb} {X : Cx} {pos : Pos} {a b c : Expr} {fa fb fc : FE}
/-! ### == and != -/
def gEq : G2 := fun x y h => match eqF h 40 x y with
  | some k => .ok (.bl k) h
  | none => .bad
def gNe : G2 := fun x y h => match eqF h 40 x y with
  | some k => .ok (.bl (!k)) h
  | none => .bad
/-- an operation told by its function alone -/
def rOf (tb : Tb) (X : Cx) (g : G2) : R2 := fun w1 w2 H Q => ∃ σ ρ vh v1 v2, Sim tb ρ vh H ∧ Rep ρ H v1 w1 ∧ Rep ρ H v2 w2 ∧ Post tb X σ ρ H (g v1 v2 vh) Q
theorem o_of (g : G2) : Op2 tb X (rOf tb X g) g := fun σ ρ vh H v1 v2 w1 w2 Q S r1 r2 p => ⟨σ, ρ, vh, v1, v2, S, r1, r2, p⟩
theorem op_eqF (hu : X.A.units + 40 < cLine) : OpR X (compareOp .Eq) (rOf tb X gEq) := fun pins s σ H x y v u Q I rx ry ⟨σ', ρ, vh, v1, v2, S, r1, r2, p⟩ => by
  unfold gEq at p
  cases e : eqF vh 40 v1 v2 with
  | none => rw [e] at p; exact p.elim
  | some k =>
    rw [e] at p
    exact (eqs_ok S I.hok 40 X.A hu v1 v2 k x y v u e r1 r2 rx ry).1.rc _ _ _ _ ⟨.bl k, H, I, rfl, Post.here p S rfl⟩
theorem op_neF (hu : X.A.units + 40 < cLine) : OpR X (compareOp .NotEq) (rOf tb X gNe) := fun pins s σ H x y v u Q I rx ry ⟨σ', ρ, vh, v1, v2, S, r1, r2, p⟩ => by
  unfold gNe at p
  cases e : eqF vh 40 v1 v2 with
  | none => rw [e] at p; exact p.elim
  | some k =>
    rw [e] at p
    exact (eqs_ok S I.hok 40 X.A hu v1 v2 k x y v u e r1 r2 rx ry).1.ne _ _ _ _ ⟨.bl (!k), H, I, rfl, Post.here p S rfl⟩
theorem t_eq (hu : X.A.units + 40 < cLine) (ha : EOk tb X a fa) (hb : EOk tb X b fb) (hm : behindInMarks .Eq b = false := by rfl) : TOk tb X (.Compare a [.Eq] [b] pos) (fB (fOp gEq fa fb)) := t_cmp (op_eqF hu) (o_of gEq) ha hb hm
theorem t_ne (hu : X.A.units + 40 < cLine) (ha : EOk tb X a fa) (hb : EOk tb X b fb) (hm : behindInMarks .NotEq b = false := by rfl) : TOk tb X (.Compare a [.NotEq] [b] pos) (fB (fOp gNe fa fb)) := t_cmp (op_neF hu) (o_of gNe) ha hb hm
/-! ### is, is not, of truths -/
def gIs : G2 := fun x y => match x, y with | .bl i, .bl j => M.ret (.bl (i == j)) | _, _ => M.bad
def gIsNot : G2 := fun x y => match x, y with | .bl i, .bl j => M.ret (.bl (i != j)) | _, _ => M.bad
theorem op_isNotF : OpR X (compareOp .IsNot) (rOf tb X gIsNot) := fun pins s σ H x y v u Q I rx ry ⟨σ', ρ, vh, v1, v2, S, r1, r2, p⟩ => by
  cases v1 with
  | bl i => cases v2 with
    | bl j => cases r1; cases r2; cases rx; cases ry; exact isnot_bool ⟨.bl (i != j), H, I, rfl, Post.here p S rfl⟩
    | _ => exact p.elim
  | _ => exact p.elim
theorem t_isNot (ha : EOk tb X a fa) (hb : EOk tb X b fb) (hm : behindInMarks .IsNot b = false := by rfl) : TOk tb X (.Compare a [.IsNot] [b] pos) (fB (fOp gIsNot fa fb)) := t_cmp op_isNotF (o_of gIsNot) ha hb hm
/-! ### ints -/
def gMul : G2 := fun x y => match x, y with
  | .int i, .int j => if (-(2 ^ 64) < i ∧ i < 2 ^ 64) ∨ (-(2 ^ 64) < j ∧ j < 2 ^ 64) ∨ (i.natAbs < 2 ^ 400 ∧ j.natAbs < 2 ^ 400) then M.ret (.int (i * j)) else M.bad
  | _, _ => M.bad
def gMod : G2 := fun x y => match x, y with | .int i, .int j => if 0 < j then M.ret (.int (i % j)) else M.bad | _, _ => M.bad
def gDiv : G2 := fun x y => match x, y with | .int i, .int j => if 0 < j ∧ j < 2 ^ 400 then M.ret (.int (i / j)) else M.bad | _, _ => M.bad
def gPow : G2 := fun x y => match x, y with | .int i, .int j => if 0 ≤ j ∧ j ≤ 1000000 ∧ i.natAbs < 2 ^ 64 then M.ret (.int (i ^ j.toNat)) else M.bad | _, _ => M.bad
theorem bits400 {i : Int} (h : i.natAbs < 2 ^ 400) : Builtin.Int.intBits i ≤ 400 := by
  unfold Builtin.Int.intBits
  split
  · omega
  · rename_i hz
    have h0 : i.natAbs ≠ 0 := fun z => hz (by simpa using z)
    have := (Nat.log2_lt h0).mpr h
    omega
theorem mul_ok {i j : Int} (h : (-(2 ^ 64) < i ∧ i < 2 ^ 64) ∨ (-(2 ^ 64) < j ∧ j < 2 ^ 64) ∨ (i.natAbs < 2 ^ 400 ∧ j.natAbs < 2 ^ 400)) : IntMulOk i j := by
  rcases h with h | h | ⟨h1, h2⟩
  · exact CMul.ok (.inl h)
  · exact CMul.ok (.inr h)
  · have a := bits400 h1
    have b := bits400 h2
    unfold IntMulOk Builtin.Int.intTooBig
    have : ¬ ((Builtin.Int.intBits i + Builtin.Int.intBits j : Int) > (bitsLine : Int)) := by
      have hb : (800 : Int) ≤ (bitsLine : Int) := by decide
      omega
    have : (Builtin.Int.intBits i + Builtin.Int.intBits j : Int) ≤ (bitsLine : Int) := by omega
    simp [this]
theorem op_mulF : OpR X (binaryOp .Mult) (rI (fun i j => (-(2 ^ 64) < i ∧ i < 2 ^ 64) ∨ (-(2 ^ 64) < j ∧ j < 2 ^ 64) ∨ (i.natAbs < 2 ^ 400 ∧ j.natAbs < 2 ^ 400)) fun i j => .int (i * j)) := opI fun _ _ _ _ _ _ _ hc q => mul_int q (mul_ok hc)
theorem op_divF : OpR X (binaryOp .FloorDiv) (rI (fun _ j => 0 < j ∧ j < 2 ^ 400) fun i j => .int (i / j)) := opI fun i j _ _ _ _ _ hc q => by
  have h1 : (0 : Int) < j := hc.1
  have h2 : j < 2 ^ 400 := hc.2
  refine floordiv_int (by omega) (by rw [Int.fdiv_eq_ediv_of_nonneg i (by omega)]; exact q) (.inl (PyProof.noPylong_of_log2 ?_))
  have h0 : j.natAbs ≠ 0 := by omega
  have h3 : j.natAbs < 2 ^ 400 := by omega
  have := (Nat.log2_lt h0).mpr h3
  omega
theorem o_I2 {C : Int → Int → Prop} [∀ i j, Decidable (C i j)] {f : Int → Int → Int} : Op2 tb X (rI C fun i j => .int (f i j)) (fun x y => match x, y with | .int i, .int j => if C i j then M.ret (.int (f i j)) else M.bad | _, _ => M.bad) := fun σ ρ vh H v1 v2 w1 w2 Q S r1 r2 p => by
  cases v1 with
  | int i => cases v2 with
    | int j =>
      dsimp only at p
      by_cases hc : C i j
      · rw [if_pos hc] at p; exact ⟨i, j, r1, r2, hc, Post.here p S rfl⟩
      · rw [if_neg hc] at p; exact p.elim
    | _ => exact p.elim
  | _ => exact p.elim
theorem e_mul (ha : EOk tb X a fa) (hb : EOk tb X b fb) : EOk tb X (.BinOp a .Mult b pos) (fOp gMul fa fb) := e_op op_mulF o_I2 ha hb
theorem e_mod (ha : EOk tb X a fa) (hb : EOk tb X b fb) : EOk tb X (.BinOp a .Mod b pos) (fOp gMod fa fb) := e_op op_mod o_I2 ha hb
theorem e_div (ha : EOk tb X a fa) (hb : EOk tb X b fb) : EOk tb X (.BinOp a .FloorDiv b pos) (fOp gDiv fa fb) := e_op op_divF o_I2 ha hb
theorem e_pow (ha : EOk tb X a fa) (hb : EOk tb X b fb) : EOk tb X (.BinOp a .Pow b pos) (fOp gPow fa fb) := e_op (r := rI (fun i j => 0 ≤ j ∧ j ≤ 1000000 ∧ i.natAbs < 2 ^ 64) fun i j => .int (i ^ j.toNat)) op_pow o_I2 ha hb
theorem t_ge (ha : EOk tb X a fa) (hb : EOk tb X b fb) (hm : behindInMarks .GtE b = false := by rfl) : TOk tb X (.Compare a [.GtE] [b] pos) (fB (fOp (gI fun i j => decide (j ≤ i)) fa fb)) := t_cmp op_ge (o_I _) ha hb hm
/-! ### + of ints, texts, tuples, lists -/
def gPlus : G2 := fun x y => match x, y with
  | .int i, .int j => M.ret (.int (i + j))
  | .str i, .str j => if i.length + j.length ≤ big then M.ret (.str (i ++ j)) else M.bad
  | .tup xs, .tup ys => if xs ≠ [] ∧ xs.length + ys.length ≤ big then M.ret (.tup (xs ++ ys)) else M.bad
  | .ref i, .ref j => fun h => match h[i]?, h[j]? with
    | some (.lst xs), some (.lst ys) => if xs.length + ys.length ≤ big then alloc (.lst (xs ++ ys)) h else .bad
    | _, _ => .bad
  | _, _ => M.bad
theorem op_plusF : OpR X (binaryOp .Add) (fun x y H Q => (rI0 (fun i j => .int (i + j)) x y H Q ∨ ∃ i j, x = .str i ∧ y = .str j ∧ i.length + j.length ≤ sizeLine ∧ Q (.str (i ++ j)) H) ∨ (rCatT X.K x y H Q ∨ rCat x y H Q)) := fun pins s σ H x y v u Q I rx ry q => by
  rcases q with (q | q) | (q | q)
  · exact op_add pins s σ H x y v u Q I rx ry q
  · exact op_add_str pins s σ H x y v u Q I rx ry q
  · exact op_catT pins s σ H x y v u Q I rx ry q
  · exact op_cat pins s σ H x y v u Q I rx ry q
theorem Reps.append {ρ : List Addr} {H : Hp} : ∀ {xs ys : List PV} {vs ws : List V}, Reps ρ H xs vs → Reps ρ H ys ws → Reps ρ H (xs ++ ys) (vs ++ ws)
  | [], _, _, _, h, k => by rw [show _ = [] from h]; exact k
  | _ :: _, _, _, _, h, k => by obtain ⟨v, ws', rfl, r, t⟩ := h; exact ⟨v, _, rfl, r, Reps.append t k⟩
theorem sim_lst {ρ : List Addr} {vh : VH} {H : Hp} (S : Sim tb ρ vh H) {i : Nat} {p : Addr} {xs : List PV} (h : ρ[i]? = some p) (e : vh[i]? = some (VO.lst xs)) : ∃ vs, H p = some (HO.lst vs) ∧ Reps ρ H xs vs := S.obj i p _ h e
theorem o_plus : Op2 tb X (fun x y H Q => (rI0 (fun i j => .int (i + j)) x y H Q ∨ ∃ i j, x = .str i ∧ y = .str j ∧ i.length + j.length ≤ sizeLine ∧ Q (.str (i ++ j)) H) ∨ (rCatT X.K x y H Q ∨ rCat x y H Q)) gPlus := fun σ ρ vh H v1 v2 w1 w2 Q S r1 r2 p => by
  cases v1 with
  | int i => cases v2 with
    | int j => exact .inl (.inl ⟨i, j, r1, r2, Post.here p S rfl⟩)
    | _ => exact p.elim
  | str i => cases v2 with
    | str j =>
      simp only [gPlus] at p
      by_cases hz : i.length + j.length ≤ big
      · rw [if_pos hz] at p; exact .inl (.inr ⟨i, j, r1, r2, Nat.le_trans hz big_le, Post.here p S rfl⟩)
      · rw [if_neg hz] at p; exact p.elim
    | _ => exact p.elim
  | tup xs => cases v2 with
    | tup ys =>
      simp only [gPlus] at p
      by_cases hz : xs ≠ [] ∧ xs.length + ys.length ≤ big
      · rw [if_pos hz] at p
        obtain ⟨a1, vs, e1, h1, q1⟩ := r1
        obtain ⟨a2, ws, e2, h2, q2⟩ := r2
        refine .inr (.inl ⟨a1, a2, vs, ws, e1, e2, SqT.of h1, SqT.of h2, fun z => ?_, ?_, fun z => ?_, fun _ p' hp => Post.tup p S (q1.append q2) hp⟩)
        · subst z; exact hz.1 (List.eq_nil_of_length_eq_zero (by rw [← q1.length]; rfl))
        · rw [q1.length, q2.length]; exact Nat.le_trans hz.2 big_le
        · subst z
          have ey : ys = [] := List.eq_nil_of_length_eq_zero (by rw [← q2.length]; rfl)
          subst ey
          rw [List.append_nil] at p
          exact Post.here p S ⟨a1, vs, rfl, h1, q1⟩
      · rw [if_neg hz] at p; exact p.elim
    | _ => exact p.elim
  | ref i => cases v2 with
    | ref j =>
      simp only [gPlus] at p
      obtain ⟨p1, h1, e1⟩ := r1
      obtain ⟨p2, h2, e2⟩ := r2
      cases ei : vh[i]? with
      | none => rw [ei] at p; exact p.elim
      | some o1 =>
        cases ej : vh[j]? with
        | none => rw [ei, ej] at p; cases o1 <;> exact p.elim
        | some o2 =>
          rw [ei, ej] at p
          cases o1 with
          | lst xs => cases o2 with
            | lst ys =>
              dsimp only at p
              by_cases hz : xs.length + ys.length ≤ big
              · rw [if_pos hz] at p
                obtain ⟨vs, g1, q1⟩ := sim_lst S h1 ei
                obtain ⟨ws, g2, q2⟩ := sim_lst S h2 ej
                exact .inr (.inr ⟨p1, p2, vs, ws, e1, e2, g1, g2, by rw [q1.length, q2.length]; exact Nat.le_trans hz big_le, fun p' hp => Post.lst p S (q1.append q2) hp⟩)
              · rw [if_neg hz] at p; exact p.elim
            | _ => exact p.elim
          | _ => exact p.elim
    | _ => exact p.elim
  | _ => exact p.elim
theorem e_plus (ha : EOk tb X a fa) (hb : EOk tb X b fb) : EOk tb X (.BinOp a .Add b pos) (fOp gPlus fa fb) := e_op op_plusF o_plus ha hb
end
end FS

set_option Elab.async false
set_option linter.all false
set_option maxRecDepth 100000
set_option maxHeartbeats 4000000
namespace FS
open PySem PySem.Spec PyProof.Rows L2 FX
section
variable {tb : Tb} {X : Cx} {pos p : Pos} {a b c e : Expr} {es : List Expr} {fa fb fc : FE} {fs : FA} {x : Str}
/-! ### an item by its place -/
def gIx : G2 := fun x y => match y with
  | .int i => match x with
    | .tup xs => match atI xs i with
      | some v => M.ret v
      | none => M.bad
    | .ref l => fun h => match lsOf h l with
      | some xs => match atI xs i with
        | some v => .ok v h
        | none => .bad
      | none => .bad
    | .str z => if z.length ≤ big then match atI z.cps.toList i with
        | some k => M.ret (.str ⟨#[k]⟩)
        | none => M.bad
      else M.bad
    | _ => M.bad
  | _ => M.bad
theorem atI_rep {ρ : List Addr} {H : Hp} {xs : List PV} {vs : List V} {i : Int} {v : PV} (r : Reps ρ H xs vs) (e : atI xs i = some v) : ∃ w, atI vs i = some w ∧ Rep ρ H v w := by
  unfold atI at e ⊢
  rw [r.length]
  cases q : ixN xs.length i with
  | none => rw [q] at e; cases e
  | some j =>
    rw [q] at e
    obtain ⟨w, h1, h2⟩ := r.get (i := j) e
    exact ⟨w, h1, h2⟩
theorem ls_rd {ρ : List Addr} {vh : VH} {H : Hp} (S : Sim tb ρ vh H) {i : Nat} {xs : List PV} (e : lsOf vh i = some xs) {a : Addr} (ha : ρ[i]? = some a) : ∃ vs, Reps ρ H xs vs ∧ Rd H a (.lst vs) := by
  obtain ⟨o, ho, r⟩ := S.at ha
  unfold lsOf at e
  rw [ho] at e
  cases o with
  | lst ys => cases e; obtain ⟨vs, hv, rr⟩ := r; exact ⟨vs, rr, .inl hv⟩
  | scr ns =>
    cases e
    obtain ⟨ob, hv⟩ := r
    refine ⟨ns.map V.int, ?_, .inr ⟨ob, hv⟩⟩
    clear hv ho
    induction ns with
    | nil => rfl
    | cons k r ih => exact ⟨_, _, rfl, rfl, ih⟩
  | dct _ => cases e
  | ins _ _ => cases e
theorem o_ix : Op2 tb X (rIx X.K) gIx := fun σ ρ vh H v1 v2 w1 w2 Q S r1 r2 p => by
  cases v2 with
  | int i =>
    cases v1 with
    | tup xs =>
      obtain ⟨a1, vs, e1, h1, q1⟩ := r1
      simp only [gIx] at p
      cases q : atI xs i with
      | none => rw [q] at p; exact p.elim
      | some v =>
        rw [q] at p
        obtain ⟨w, h2, h3⟩ := atI_rep q1 q
        exact .inr (.inl ⟨a1, vs, i, w, e1, r2, SqT.of h1, h2, Post.here p S h3⟩)
    | ref l =>
      obtain ⟨a1, h1, e1⟩ := r1
      simp only [gIx] at p
      cases ql : lsOf vh l with
      | none => rw [ql] at p; exact p.elim
      | some xs =>
        rw [ql] at p
        dsimp only at p
        cases q : atI xs i with
        | none => rw [q] at p; exact p.elim
        | some v =>
          rw [q] at p
          obtain ⟨vs, rr, rd⟩ := ls_rd S ql h1
          obtain ⟨w, h2, h3⟩ := atI_rep rr q
          exact .inl ⟨a1, vs, i, w, e1, r2, .inl rd, h2, Post.here p S h3⟩
    | str z =>
      simp only [gIx] at p
      by_cases hz : z.length ≤ big
      · rw [if_pos hz] at p
        cases q : atI z.cps.toList i with
        | none => rw [q] at p; exact p.elim
        | some k => rw [q] at p; exact .inr (.inr ⟨z, i, k, r1, r2, Nat.le_trans hz big_le, q, Post.here p S rfl⟩)
      · rw [if_neg hz] at p; exact p.elim
    | _ => exact p.elim
  | _ => exact p.elim
theorem e_ix (ha : EOk tb X a fa) (hb : EOk tb X b fb) (hs : PlainIx b := by intro _ _; rfl) : EOk tb X (.Subscript a b pos) (fOp gIx fa fb) := PE.mono (pe_ix ix_seq ha hb hs) (op_mono o_ix)
/-! ### calls of built-in functions and types -/
def CB (tb : Tb) (X : Cx) (r : List V → Hp → VK → Prop) (g : FF) : Prop := ∀ σ ρ vh H xs ws Q, Hd X.A.handled H → Sim tb ρ vh H → Reps ρ H xs ws → Post tb X σ ρ H (g xs vh) Q → r ws H Q
def fCB (g : FF) (fs : FA) : FE := fun τ => M.bind (fs τ) g
theorem cb_mono {r : List V → Hp → VK → Prop} {g : FF} (h : CB tb X r g) : ∀ σ H Q, tOf tb X (fCB g fs) σ H Q → tCB r (tOfA tb X fs) σ H Q := fun σ H Q ⟨ρ, vh, τ, st, S, p⟩ =>
  ⟨ρ, vh, τ, st, S, seqAE p fun vh1 ρ1 H1 v1 w1 p1 k1 S1 r1 q1 => h σ ρ1 vh1 H1 v1 w1 Q (st.hd.mono k1) S1 r1 q1⟩
theorem e_callB {id : String} {r : List V → Hp → VK → Prop} {g : FF} (hc : CallR X (.builtin id) r) (h : CB tb X r g) (hg : Gl X x) (hm : X.mg x = none) (hv : bootBuiltins x = some (.builtin id)) (ha : AOk tb X (e :: es) fs) (hn : x ≠ "__name__" := by decide)
    (hdb : (x == ("__debug__" : Str)) = false := by decide) (he : starEach (e :: es) X.env = (false, eval e X.env) :: starEach es X.env := by rfl) (hpl : (backTo pos (starEach es X.env)).any (·.1) = false := by rfl) : EOk tb X (.Call (.Name x p) (e :: es) [] pos) (fCB g fs) :=
  PE.mono (pe_callB hc hg hm hv ha hn hdb he hpl) (cb_mono h)
theorem e_callTy {T : String} {r : List V → Hp → VK → Prop} {g : FF} (hc : CallR X (.type T) r) (h : CB tb X r g) (hg : Gl X x) (hm : X.mg x = none) (hv : bootBuiltins x = some (.type T)) (ha : AOk tb X (e :: es) fs) (hn : x ≠ "__name__" := by decide)
    (hdb : (x == ("__debug__" : Str)) = false := by decide) (he : starEach (e :: es) X.env = (false, eval e X.env) :: starEach es X.env := by rfl) (hpl : (backTo pos (starEach es X.env)).any (·.1) = false := by rfl) : EOk tb X (.Call (.Name x p) (e :: es) [] pos) (fCB g fs) :=
  PE.mono (pe_callTy hc hg hm hv ha hn hdb he hpl) (cb_mono h)
/-- a call told by its function alone -/
def rcOf (tb : Tb) (X : Cx) (g : FF) : List V → Hp → VK → Prop := fun ws H Q => ∃ σ ρ vh xs, Hd X.A.handled H ∧ Sim tb ρ vh H ∧ Reps ρ H xs ws ∧ Post tb X σ ρ H (g xs vh) Q
theorem cb_of (g : FF) : CB tb X (rcOf tb X g) g := fun σ ρ vh H xs ws Q hd S r p => ⟨σ, ρ, vh, xs, hd, S, r, p⟩
/-! len -/
def gLen : FF := fun xs => match xs with
  | [.str z] => if z.length ≤ big then M.ret (.int z.length) else M.bad
  | [.tup ys] => M.ret (.int ys.length)
  | [.ref l] => fun h => match lsOf h l with
    | some ys => .ok (.int ys.length) h
    | none => .bad
  | _ => M.bad
theorem call_lenF : CallR X (.builtin "len") (rcOf tb X gLen) := fun pins s σ H xs us Q I rs ⟨σ', ρ, vh, ys, hd, S, r, p⟩ => by
  cases ys with
  | nil => exact p.elim
  | cons y ys =>
    obtain ⟨w, ws, rfl, r1, r2⟩ := r
    cases ys with
    | cons _ _ => cases y <;> exact p.elim
    | nil =>
      cases (show ws = [] from r2)
      cases y with
      | str z =>
        simp only [gLen] at p
        by_cases hz : z.length ≤ big
        · rw [if_pos hz] at p; exact call_len_str pins s σ H _ us Q I rs ⟨z, by rw [show w = _ from r1], Nat.le_trans hz big_le, Post.here p S rfl⟩
        · rw [if_neg hz] at p; exact p.elim
      | tup zs =>
        obtain ⟨a1, vs, e1, h1, q1⟩ := r1
        refine call_len_seq pins s σ H _ us Q I rs ⟨a1, vs, by rw [e1], .inr (SqT.of h1), ?_⟩
        rw [q1.length]; exact Post.here p S rfl
      | ref l =>
        obtain ⟨a1, h1, e1⟩ := r1
        simp only [gLen] at p
        cases ql : lsOf vh l with
        | none => rw [ql] at p; exact p.elim
        | some zs =>
          rw [ql] at p
          obtain ⟨vs, rr, rd⟩ := ls_rd S ql h1
          refine call_len_seq pins s σ H _ us Q I rs ⟨a1, vs, by rw [e1], .inl (.inl rd), ?_⟩
          rw [rr.length]; exact Post.here p S rfl
      | _ => exact p.elim
/-! int, list, max, min -/
def gInt : FF := fun xs => match xs with
  | [.int i] => M.ret (.int i)
  | [.bl k] => M.ret (.int (if k then 1 else 0))
  | _ => M.bad
theorem cb_int : CB tb X (fun xs H Q => (∃ i, xs = [V.int i] ∧ Q (.int i) H) ∨ ∃ k, xs = [V.bl k] ∧ Q (.int (if k then 1 else 0)) H) gInt := fun σ ρ vh H xs ws Q hd S r p => by
  cases xs with
  | nil => exact p.elim
  | cons y ys =>
    obtain ⟨w, ws', rfl, r1, r2⟩ := r
    cases ys with
    | cons _ _ => cases y <;> exact p.elim
    | nil =>
      cases (show ws' = [] from r2)
      cases y with
      | int i => exact .inl ⟨i, by rw [show w = _ from r1], Post.here p S rfl⟩
      | bl k => exact .inr ⟨k, by rw [show w = _ from r1], Post.here p S rfl⟩
      | _ => exact p.elim
def gMax : FF := fun xs => match xs with
  | [.int i, .int j] => M.ret (.int (if j > i then j else i))
  | _ => M.bad
def gMin : FF := fun xs => match xs with
  | [.int i, .int j] => M.ret (.int (if j < i then j else i))
  | _ => M.bad
theorem two_ints {ρ : List Addr} {H : Hp} {xs : List PV} {ws : List V} {g : Int → Int → M PV} {σ : St} {vh : VH} {Q : VK} (r : Reps ρ H xs ws) (p : Post tb X σ ρ H ((match xs with | [.int i, .int j] => g i j | _ => M.bad) vh) Q) : ∃ i j, ws = [V.int i, V.int j] ∧ Post tb X σ ρ H (g i j vh) Q := by
  match xs, r, p with
  | [], _, p => exact p.elim
  | [y], _, p => cases y <;> exact p.elim
  | y :: z :: t :: u, _, p => cases y <;> cases z <;> exact p.elim
  | [y, z], r, p =>
    obtain ⟨w, ws', rfl, r1, w2, ws2, rfl, r2, rfl⟩ := r
    cases y <;> first | (exact p.elim) | (cases z <;> first | exact p.elim | exact ⟨_, _, by rw [show w = _ from r1, show w2 = _ from r2], p⟩)
theorem cb_max : CB tb X (fun xs H Q => ∃ i j, xs = [V.int i, V.int j] ∧ Q (.int (if j > i then j else i)) H) gMax := fun σ ρ vh H xs ws Q hd S r p => by
  obtain ⟨i, j, e, q⟩ := two_ints (g := fun i j => M.ret (.int (if j > i then j else i))) r p
  exact ⟨i, j, e, Post.here q S rfl⟩
theorem cb_min : CB tb X (fun xs H Q => ∃ i j, xs = [V.int i, V.int j] ∧ Q (.int (if j < i then j else i)) H) gMin := fun σ ρ vh H xs ws Q hd S r p => by
  obtain ⟨i, j, e, q⟩ := two_ints (g := fun i j => M.ret (.int (if j < i then j else i))) r p
  exact ⟨i, j, e, Post.here q S rfl⟩
def gList : FF := fun xs => match xs with
  | [.tup ys] => alloc (.lst ys)
  | [.ref l] => fun h => match lsOf h l with
    | some ys => alloc (.lst ys) h
    | none => .bad
  | _ => M.bad
theorem call_listF : CallR X (.type "list") (rcOf tb X gList) := fun pins s σ H xs us Q I rs ⟨σ', ρ, vh, ys, hd, S, r, p⟩ => by
  cases ys with
  | nil => exact p.elim
  | cons y ys =>
    obtain ⟨w, ws, rfl, r1, r2⟩ := r
    cases ys with
    | cons _ _ => cases y <;> exact p.elim
    | nil =>
      cases (show ws = [] from r2)
      cases y with
      | tup zs =>
        obtain ⟨a1, vs, e1, h1, q1⟩ := r1
        exact call_list_of pins s σ H _ us Q I rs ⟨a1, vs, by rw [e1], .inr (SqT.of h1), fun l hl => Post.lst p S q1 hl⟩
      | ref l =>
        obtain ⟨a1, h1, e1⟩ := r1
        simp only [gList] at p
        cases ql : lsOf vh l with
        | none => rw [ql] at p; exact p.elim
        | some zs =>
          rw [ql] at p
          obtain ⟨vs, rr, rd⟩ := ls_rd S ql h1
          exact call_list_of pins s σ H _ us Q I rs ⟨a1, vs, by rw [e1], .inl (.inl rd), fun l hl => Post.lst p S rr hl⟩
      | _ => exact p.elim
end
end FS

set_option Elab.async false
set_option linter.all false
set_option maxRecDepth 100000
set_option maxHeartbeats 4000000
namespace FS
open PySem PySem.Spec PyProof.Rows L2 FX
/-! ### what is walked: none: it can't be told; some none: the end -/
abbrev Src := Nat → VH → Option (Option PV)
def srcL (l : Nat) : Src := fun i h => match lsOf h l with
  | some xs => some xs[i]?
  | none => none
def srcR (lo : Int) (n : Nat) : Src := fun i _ => some (if i < n then some (.int (lo + i)) else none)
def loopF (src : Src) (g : FG) (body : FSt) : Nat → Nat → FSt
  | 0, _ => fun _ _ => .bad
  | n + 1, i => fun τ h => match src i h with
    | none => .bad
    | some none => .next τ h
    | some (some x) => match g x τ h with
      | .next τ1 h1 => match body τ1 h1 with
        | .next τ2 h2 => loopF src g body n (i + 1) τ2 h2
        | .cont τ2 h2 => loopF src g body n (i + 1) τ2 h2
        | .brk τ2 h2 => .next τ2 h2
        | .ret v h2 => .ret v h2
        | _ => .bad
      | _ => .bad
def lenL (h : VH) (l : Nat) : Nat := match lsOf h l with
  | some xs => xs.length
  | none => 0
def sForL (fi : FE) (g : FG) (body : FSt) : FSt := fun τ h => match fi τ h with
  | .ok (.ref l) h1 => loopF (srcL l) g body (lenL h1 l + 1) 0 τ h1
  | _ => .bad
section
variable {tb : Tb} {X : Cx} {pos : Pos}
theorem PS.nox' {st : Stmt} {t : TS} (h : PS X.nox st t) : PS X st t := fun pins s σ H D I hw =>
  wpAny_mono (h pins s σ H D (I.wish _) hw) (fun _ _ q => q.unwish) fun _ _ z => False.elim z
/-- where a loop stands: the turn's number and what is left -/
def LoopIn (tb : Tb) (X : Cx) (src : Src) (g : FG) (body : FSt) (D : Ends) (l : Nat) (a : Addr) (n i : Nat) (σ : St) (H : Hp) : Prop :=
  ∃ ρ vh τ, ρ[l]? = some a ∧ StRel X.A.handled ρ H τ σ ∧ Sim tb ρ vh H ∧ PostS tb X.nox ρ H (loopF src g body n i τ vh) D
/-- one turn of a loop, as the layer wants it -/
theorem loop_turn {src : Src} {g : FG} {body : FSt} {n i : Nat} {D : Ends} {σ : St} {ρ : List Addr} {H : Hp} {vh : VH} {τ : Tau} {x : PV} {w : V} {l : Nat} {a : Addr} (la : ρ[l]? = some a)
    (st : StRel X.A.handled ρ H τ σ) (S : Sim tb ρ vh H) (r : Rep ρ H x w) (e : src i vh = some (some x)) (p : PostS tb X.nox ρ H (loopF src g body (n + 1) i τ vh) D) :
    tOfG tb X.nox g w σ H fun σ2 H2 => tOfS tb X.nox body { D with nx := (LoopIn tb X src g body D l a n (i + 1)), ct := (LoopIn tb X src g body D l a n (i + 1)), bk := D.nx } σ2 H2 := by
  refine ⟨ρ, vh, τ, x, st, S, r, ?_⟩
  unfold loopF at p
  rw [e] at p
  dsimp only at p
  cases e1 : g x τ vh with
  | next τ1 h1 =>
    rw [e1] at p
    refine fun ρ1 H1 σ1 p1 k1 S1 st1 => ⟨ρ1, h1, τ1, st1, S1, ?_⟩
    dsimp only at p
    cases e2 : body τ1 h1 with
    | next τ2 h2 => rw [e2] at p; exact fun ρ2 H2 σ2 p2 k2 S2 st2 => ⟨ρ2, h2, τ2, pre_get (p1.trans p2) la, st2, S2, PostS.fwd (p1.trans p2) (k1.trans k2) p⟩
    | cont τ2 h2 => rw [e2] at p; exact fun ρ2 H2 σ2 p2 k2 S2 st2 => ⟨ρ2, h2, τ2, pre_get (p1.trans p2) la, st2, S2, PostS.fwd (p1.trans p2) (k1.trans k2) p⟩
    | brk τ2 h2 => rw [e2] at p; exact fun ρ2 H2 σ2 p2 k2 S2 st2 => p ρ2 H2 σ2 (p1.trans p2) (k1.trans k2) S2 st2
    | ret v h2 => rw [e2] at p; exact fun ρ2 H2 w2 p2 k2 S2 r2 => p ρ2 H2 w2 (p1.trans p2) (k1.trans k2) S2 r2
    | exc y h2 => rw [e2] at p; exact p.elim
    | bad => rw [e2] at p; exact p.elim
  | brk _ _ => rw [e1] at p; exact p.elim
  | cont _ _ => rw [e1] at p; exact p.elim
  | ret _ _ => rw [e1] at p; exact p.elim
  | exc _ _ => rw [e1] at p; exact p.elim
  | bad => rw [e1] at p; exact p.elim
theorem loop_list {K : PySem.W.Frag} {g : FG} {body : FSt} {D : Ends} {σ : St} {ρ : List Addr} {H : Hp} {vh : VH} {τ : Tau} {l : Nat} {a : Addr} {n : Nat} (la : ρ[l]? = some a)
    (st : StRel X.A.handled ρ H τ σ) (S : Sim tb ρ vh H) (p : PostS tb X.nox ρ H (loopF (srcL l) g body n 0 τ vh) D) :
    ∃ W : Nat → Nat → St → Hp → Prop, (∃ m, W 0 m σ H) ∧ ∀ i m σ H, W i m σ H →
      ((Itl K a).stop i H ∧ D.nx σ H) ∨ ((Itl K a).go i H ∧ ∃ N : St → Hp → Prop, (∀ σ' H', N σ' H' → ∃ m', m' < m ∧ W (i + 1) m' σ' H') ∧ ∀ x H', (Itl K a).yld i H x H' → tOfG tb X.nox g x σ H' fun σ2 H2 => tOfS tb X.nox body { D with nx := N, ct := N, bk := D.nx } σ2 H2) := by
  refine ⟨fun i m σ H => LoopIn tb X (srcL l) g body D l a m i σ H, ⟨n, ρ, vh, τ, la, st, S, p⟩, ?_⟩
  rintro i m σ H ⟨ρ, vh, τ, la, st, S, p⟩
  cases m with
  | zero => exact p.elim
  | succ m =>
    have p0 := p
    unfold loopF at p
    cases e : srcL l i vh with
    | none => rw [e] at p; exact p.elim
    | some o =>
      have e0 := e
      unfold srcL at e
      cases el : lsOf vh l with
      | none => rw [el] at e; cases e
      | some xs =>
        rw [el] at e
        have ei : xs[i]? = o := by simpa using e
        obtain ⟨vs, rr, rd⟩ := ls_rd S el la
        cases o with
        | none =>
          rw [e0] at p
          refine .inl ⟨⟨vs, .inl rd, ?_⟩, PostS.next p S st⟩
          rw [rr.length]; exact List.getElem?_eq_none_iff.mp ei
        | some x =>
          obtain ⟨w, hw, rw'⟩ := rr.get ei
          refine .inr ⟨⟨vs, w, .inl rd, hw⟩, _, fun σ' H' q => ⟨m, Nat.lt_succ_self _, q⟩, fun y H' hy => ?_⟩
          obtain ⟨rfl, hy⟩ := hy
          have ey := hy vs (.inl rd)
          rw [hw] at ey; cases ey
          exact loop_turn la st S rw' e0 p0
theorem loop_noexc {src : Src} {g : FG} {body : FSt} : ∀ (n i : Nat) (τ : Tau) (h : VH) (x : XV) (h' : VH), loopF src g body n i τ h ≠ .exc x h'
  | 0, _, _, _, _, _ => fun e => by cases e
  | n + 1, i, τ, h, x, h' => fun e => by
    unfold loopF at e
    cases e0 : src i h with
    | none => rw [e0] at e; cases e
    | some o =>
      rw [e0] at e
      cases o with
      | none => cases e
      | some y =>
        dsimp only at e
        cases e1 : g y τ h with
        | next τ1 h1 =>
          rw [e1] at e
          dsimp only at e
          cases e2 : body τ1 h1 with
          | next τ2 h2 => rw [e2] at e; exact loop_noexc n (i + 1) τ2 h2 x h' e
          | cont τ2 h2 => rw [e2] at e; exact loop_noexc n (i + 1) τ2 h2 x h' e
          | brk τ2 h2 => rw [e2] at e; cases e
          | ret v h2 => rw [e2] at e; cases e
          | exc y h2 => rw [e2] at e; cases e
          | bad => rw [e2] at e; cases e
        | brk _ _ => rw [e1] at e; cases e
        | cont _ _ => rw [e1] at e; cases e
        | ret _ _ => rw [e1] at e; cases e
        | exc _ _ => rw [e1] at e; cases e
        | bad => rw [e1] at e; cases e
theorem PostS.nox {ρ : List Addr} {H : Hp} {f : Fl} {D : Ends} (hf : ∀ x h, f ≠ .exc x h) (p : PostS tb X ρ H f D) : PostS tb X.nox ρ H f D := by
  cases f with
  | exc x h => exact absurd rfl (hf x h)
  | next _ _ => exact p
  | brk _ _ => exact p
  | cont _ _ => exact p
  | ret _ _ => exact p
  | bad => exact p
/-- for x in a list -/
theorem s_forL {tg iter : Expr} {body : List Stmt} {fi : FE} {g : FG} {f : FSt} (hc : X.calm = true) (hi : EOk tb X.nox iter fi) (hg : GOk tb X.nox tg g) (hb : BOk tb X.nox body f) (hs : ∀ x, foldedSetIterable iter X.env x = pure x := by intro _; rfl) :
    SOk tb X (.For tg iter body [] pos) (sForL fi g f) := by
  refine PS.nox' (PS.mono (ps_for (X := X.nox) PassesOwn.never hc (pi_list hi) hg hb hs) fun D σ H ⟨ρ, vh, τ, st, S, p⟩ => ?_)
  refine ⟨ρ, vh, τ, st, S, ?_⟩
  unfold sForL at p
  cases e : fi τ vh with
  | ok v h1 =>
    rw [e] at p
    cases v with
    | ref l =>
      intro ρ1 H1 w p1 k1 S1 r1
      obtain ⟨a, la, rfl⟩ := r1
      obtain ⟨o, ho, oo⟩ := S1.at la
      have p2 := PostS.nox (loop_noexc _ _ _ _) p
      have el : ∃ xs, lsOf h1 l = some xs := by
        cases q : lsOf h1 l with
        | some xs => exact ⟨xs, rfl⟩
        | none =>
          dsimp only at p
          unfold loopF at p
          have z : srcL l 0 h1 = none := by unfold srcL; rw [q]
          rw [z] at p; exact p.elim
      obtain ⟨xs, el⟩ := el
      obtain ⟨vs, rr, rd⟩ := ls_rd S1 el la
      exact ⟨a, rfl, ⟨vs, .inl rd⟩, loop_list la (st.mono p1 k1) S1 (PostS.fwd p1 k1 p2)⟩
    | _ => exact p.elim
  | exc _ _ => rw [e] at p; exact p.elim
  | bad => rw [e] at p; exact p.elim
end
end FS

set_option Elab.async false
set_option linter.all false
set_option maxRecDepth 100000
set_option maxHeartbeats 4000000
namespace FS
open PySem PySem.Spec PyProof.Rows L2 FX
/-! ### comprehensions of lists: one walk, a name, at most one test -/
/-- how a walk turns, in one context -/
structure TurnX (Y : Cx) (tg : Expr) (J : It) (fp : List Addr) (it : Addr) (tn : Nat → Heap → Prop) : Prop where
  mem : it ∈ fp
  obj : ∀ i h, tn i h → ∀ b ∈ fp, ∃ o, h.get? b = some o ∧ ∀ v, o.data ≠ .cell v
  keep : ∀ i h h', tn i h → (∀ b ∈ fp, ∀ o, h.get? b = some o → h'.get? b = some o) → tn i h'
  item : ∀ (i : Nat) (pins : List (Addr × Obj)) (s : Shared) (σ : St) (H : Hp) (E : Value → Shared → Prop), Inv Y pins σ H s → Hd Y.A.handled H → (∀ b ∈ fp, FpOk Y pins H b) → tn i s.heap → J.go i H →
    wpAny (model Y.prog Y.w) Y.A (pyNext (.ref it)) (fun r s1 => ∃ u, r = some u ∧
      wpAny (model Y.prog Y.w) Y.A (letOwnedTupleGo tg (.ref it) u) (fun _ s2 => ∃ x H', Inv Y pins σ H' s2 ∧ RelV x u ∧ J.yld i H x H' ∧ tn (i + 1) s2.heap ∧ ∀ b ∈ fp, H' b = none) E s1) E s
  done : ∀ (i : Nat) (pins : List (Addr × Obj)) (s : Shared) (σ : St) (H : Hp) (E : Value → Shared → Prop), Inv Y pins σ H s → Hd Y.A.handled H → (∀ b ∈ fp, FpOk Y pins H b) → tn i s.heap → J.stop i H →
    wpAny (model Y.prog Y.w) Y.A (pyNext (.ref it)) (fun r s1 => r = none ∧ Inv Y pins σ H s1) E s
  self : ∀ (i : Nat) (s : Shared) (Q : Value → Shared → Prop) (E : Value → Shared → Prop), tn i s.heap → Q (.ref it) s → wpAny (model Y.prog Y.w) Y.A (pyIter (.ref it)) Q E s
theorem TurnX.of {Y : Cx} {tg : Expr} {J : It} {fp : List Addr} {it : Addr} {tn : Nat → Heap → Prop} (T : Turn Y.prog Y.w Y.K tg J fp it tn) (hc : Y.calm = true) : TurnX Y tg J fp it tn :=
  ⟨T.mem, T.obj, T.keep, fun i pins s σ H E I _ => T.item Y rfl rfl rfl hc i pins s σ H E I, fun i pins s σ H E I _ => T.done Y rfl rfl rfl hc i pins s σ H E I, fun i s Q E => T.self Y.A i s Q E⟩
theorem hd_calm {P : Program} {w : World} {A : Around} {H : Hp} {h : Heap} (hd : Hd A.handled H) (ok : HOk P w H h) : Calm A h := by
  rcases hd with hd | ⟨e, C, dO, h1, h2⟩
  · exact .inl hd
  · obtain ⟨⟨oe, fs, g, _, _, d, c, _⟩, _⟩ := ok e _ h2
    exact .inr ⟨_, h1, e, oe, fs, rfl, g, d, c⟩
/-- a list, whatever is handled -/
theorem turnX_list (Y : Cx) (tg : Expr) (a it : Addr) : TurnX Y tg (Itl Y.K a) [it] it (fun i h => h.IsListIter it a i) where
  mem := by simp
  obj := (turn_list (P := Y.prog) (w := Y.w) (K := Y.K) (tg := tg) a it).obj
  keep := (turn_list (P := Y.prog) (w := Y.w) (K := Y.K) (tg := tg) a it).keep
  item := fun i pins s σ H E I _ hf st hg => by
    obtain ⟨xs, x, hq, hx⟩ := hg
    obtain ⟨its, rv, p, hz⟩ := I.list hq
    obtain ⟨u, hu, ru⟩ := rv.get hx
    obtain ⟨f0, f1, f2, f3, f4, f5⟩ := hf it (by simp)
    refine wpAny_pyNext_list_item st p.isList (x := u) (by simpa using hu) fun h' st' sb => ?_
    have I1 : Inv Y pins σ H { s with heap := h' } := I.turned (t' := s.toks) (fun b o hb e => (sb.2 b hb).trans e) f0 f1 f3 f4 f5
    obtain ⟨o, e, c, d⟩ := id st'
    exact ⟨u, rfl, go_of (s := { s with heap := h' }) e c d (by decide) ⟨x, H, I1, ru, ⟨rfl, fun ys hy => by rw [I.list_inj hy hq]; exact hx⟩, st', fun b hb => (hf b hb).1⟩⟩
  done := fun i pins s σ H E I hd hf st hg => by
    obtain ⟨xs, hq, hx⟩ := hg
    obtain ⟨its, rv, p, hz⟩ := I.list hq
    obtain ⟨f0, f1, f2, f3, f4, f5⟩ := hf it (by simp)
    have hl := rv.length
    refine next_list_end (hd_calm hd I.hok) st p.isList (by simp; omega) (fun v hv z => ?_) fun h' eb => ⟨rfl, I.turned (t' := s.toks) (fun b o hb e => eb b o hb e) f0 f1 f3 f4 f5⟩
    rcases hd with hd | ⟨e, C, dO, h1, h2⟩
    · rw [hd] at hv; cases hv
    · rw [h1] at hv; cases hv; cases z; rw [f0] at h2; cases h2
  self := fun _ _ _ _ st h => wpAny_pyIter_listiter st h
/-- the context of a comprehension's block -/
def cxC (X : Cx) (Ny : List Str) (scope : Scope) (cl : List (Str × Addr)) (s3 : Shared) (H3 : Hp) (ex : List Addr) : Cx :=
  { X with N := Ny, s₀ := s3, H₀ := H3, env := compEnvC scope cl s3.heap.objs.size X.env, outer := X.stack, ex := ex, fn := fun _ => false, pn := [], xe := fun _ _ => False }
/-- the cells that are handed in are those of the frame -/
def AllC (cells : List (Str × Addr)) : List (Str × Addr) → Prop
  | [] => True
  | p :: r => cells.lookup p.1 = some p.2 ∧ AllC cells r
theorem AllC.look {cells : List (Str × Addr)} : ∀ {cl : List (Str × Addr)} {x : Str} {c : Addr}, AllC cells cl → cl.lookup x = some c → cells.lookup x = some c
  | [], _, _, _, e => by cases e
  | p :: r, x, c, h, e => by
    rw [List.lookup_cons] at e
    cases hb : x == p.1 with
    | true => rw [hb] at e; cases e; rw [beq_iff_eq.mp hb]; exact h.1
    | false => rw [hb] at e; exact AllC.look h.2 e
def compF (src : Src) (g : FG) (ft : FT) (fe : FE) (acc : Nat) : Nat → Nat → Tau → VH → Out Unit
  | 0, _, _, _ => .bad
  | n + 1, i, τ, h => match src i h with
    | none => .bad
    | some none => .ok () h
    | some (some x) => match g x τ h with
      | .next τ1 h1 => match ft τ1 h1 with
        | .ok true h2 => match fe τ1 h2 with
          | .ok v h3 => match h3[acc]? with
            | some (.lst ys) => if ys.length < big then compF src g ft fe acc n (i + 1) τ1 (h3.set acc (.lst (ys ++ [v]))) else .bad
            | _ => .bad
          | _ => .bad
        | .ok false h2 => compF src g ft fe acc n (i + 1) τ1 h2
        | _ => .bad
      | _ => .bad
/-- the block's names at its start: m of its own, then those that it takes from around -/
def startC (m : Nat) (pr : List Nat) (τ : Tau) : Tau := List.replicate m none ++ pr.map fun j => (τ[j]?).getD none
/-- what a walk tells, by the abstract heap -/
structure SrcJ (tb : Tb) (src : Src) (J : It) (l : Nat) (a : Addr) : Prop where
  stop : ∀ i ρ vh H, ρ[l]? = some a → Sim tb ρ vh H → src i vh = some none → J.stop i H
  go : ∀ i ρ vh H x, ρ[l]? = some a → Sim tb ρ vh H → src i vh = some (some x) → J.go i H ∧ ∀ w H', J.yld i H w H' → H' = H ∧ Rep ρ H x w
theorem srcJ_list {tb : Tb} {K : PySem.W.Frag} {l : Nat} {a : Addr} : SrcJ tb (srcL l) (Itl K a) l a where
  stop := fun i ρ vh H la S e => by
    unfold srcL at e
    cases el : lsOf vh l with
    | none => rw [el] at e; cases e
    | some xs =>
      rw [el] at e
      have ei : xs[i]? = none := by simpa using e
      obtain ⟨vs, rr, rd⟩ := ls_rd S el la
      exact ⟨vs, .inl rd, by rw [rr.length]; exact List.getElem?_eq_none_iff.mp ei⟩
  go := fun i ρ vh H x la S e => by
    unfold srcL at e
    cases el : lsOf vh l with
    | none => rw [el] at e; cases e
    | some xs =>
      rw [el] at e
      have ei : xs[i]? = some x := by simpa using e
      obtain ⟨vs, rr, rd⟩ := ls_rd S el la
      obtain ⟨w, hw, rw'⟩ := rr.get ei
      refine ⟨⟨vs, w, .inl rd, hw⟩, fun y H' hy => ?_⟩
      obtain ⟨rfl, hy⟩ := hy
      have ey := hy vs (.inl rd)
      rw [hw] at ey; cases ey
      exact ⟨rfl, rw'⟩
theorem srcJ_range {tb : Tb} {lo : Int} {n : Nat} {l : Nat} {a : Addr} : SrcJ tb (srcR lo n) (Itr lo n) l a where
  stop := fun i ρ vh H la S e => by
    unfold srcR at e
    by_cases hi : i < n
    · simp [hi] at e
    · exact Nat.le_of_not_lt hi
  go := fun i ρ vh H x la S e => by
    unfold srcR at e
    by_cases hi : i < n
    · simp [hi] at e
      subst e
      exact ⟨hi, fun w H' hy => ⟨hy.1, hy.2⟩⟩
    · simp [hi] at e
/-- the names that a block takes from around: their places, cells on both sides -/
def CapOk (X : Cx) (sc : Scope) (cl : List (Str × Addr)) : List Nat → List Str → Prop
  | [], [] => True
  | j :: pr, x :: xs => X.N[j]? = some x ∧ (X.env.scope.names.lookup x = some .cell ∨ X.env.scope.names.lookup x = some .free) ∧ ((cl.lookup x).isSome = true ∧ sc.names.lookup x = some .free) ∧ CapOk X sc cl pr xs
  | _, _ => False
theorem CapOk.get {X : Cx} {sc : Scope} {cl : List (Str × Addr)} : ∀ {pr : List Nat} {xs : List Str} {k : Nat} {x : Str}, CapOk X sc cl pr xs → xs[k]? = some x →
    ∃ j, pr[k]? = some j ∧ X.N[j]? = some x ∧ (X.env.scope.names.lookup x = some .cell ∨ X.env.scope.names.lookup x = some .free) ∧ (cl.lookup x).isSome = true ∧ sc.names.lookup x = some .free
  | [], [], _, _, _, e => by simp at e
  | [], _ :: _, _, _, h, _ => h.elim
  | _ :: _, [], _, _, h, _ => h.elim
  | j :: pr, y :: xs, 0, x, h, e => by simp at e; subst e; exact ⟨j, rfl, h.1, h.2.1, h.2.2.1.1, h.2.2.1.2⟩
  | j :: pr, y :: xs, k + 1, x, h, e => by
    obtain ⟨j', h1, h2⟩ := CapOk.get h.2.2.2 (k := k) (x := x) (by simpa using e)
    exact ⟨j', by simpa using h1, h2⟩
theorem CapOk.len {X : Cx} {sc : Scope} {cl : List (Str × Addr)} : ∀ {pr : List Nat} {xs : List Str}, CapOk X sc cl pr xs → pr.length = xs.length
  | [], [], _ => rfl
  | [], _ :: _, h => h.elim
  | _ :: _, [], h => h.elim
  | _ :: _, _ :: _, h => by rw [List.length_cons, List.length_cons, CapOk.len h.2.2.2]
theorem look_relabel {env : Env} : ∀ {names : List (Str × NameKind)} {x : Str} {k : NameKind}, (names.map fun (n, k) => if (k == NameKind.free && env.scope.kind == .function && env.kindOf n == some .cell) then (n, NameKind.cell) else (n, k)).lookup x = some k →
    ∃ k0, names.lookup x = some k0 ∧ (k = k0 ∨ (k0 = .free ∧ k = .cell))
  | [], _, _, h => by simp at h
  | (n, k0) :: r, x, k, h => by
    rw [List.map_cons, List.lookup_cons] at h
    rw [List.lookup_cons]
    by_cases hc : (k0 == NameKind.free && env.scope.kind == .function && env.kindOf n == some .cell) = true
    · simp only [hc, if_true] at h
      cases hb : x == n with
      | true =>
        rw [hb] at h
        refine ⟨k0, by rw [], .inr ⟨?_, by simpa using h.symm⟩⟩
        simp only [Bool.and_eq_true, beq_iff_eq] at hc
        exact hc.1.1
      | false => rw [hb] at h; exact look_relabel h
    · simp only [hc, if_false, Bool.false_eq_true] at h
      cases hb : x == n with
      | true => rw [hb] at h; exact ⟨k0, by rw [], .inl (by simpa using h.symm)⟩
      | false => rw [hb] at h; exact look_relabel h
section
variable {tb : Tb} {X : Cx} {pins : List (Addr × Obj)} {σ : St} {H : Hp} {s : Shared}
/-- the block's entry -/
theorem inv_comp {scope : Scope} {cl : List (Str × Addr)} {own xs : List Str} {pr : List Nat} {fp : List Addr} {h4 : Heap} {t4 : Nat} {m0 : Str → Option Value} {ob : Obj} (I : Inv X pins σ H s) (hk : scope.kind = .function)
    (hcell : ∀ y ∈ scope.names, y.2 ≠ .cell) (hfree : ∀ y ∈ scope.names, y.2 = .free → y.1 ∈ xs) (hcl : AllC X.env.cells cl) (cap : CapOk X scope cl pr xs) (hfp : ∀ b ∈ fp, FpOk X pins H b)
    (hfe : ∀ b ∈ fp, ∃ o, s.heap.get? b = some o) (hns : h4.Ns s.heap.objs.size m0) (hsb : Heap.SameBut s.heap.objs.size (s.heap.push ob) h4) :
    Inv (cxC X (own ++ xs) scope cl s H fp) [] (List.replicate own.length none ++ pr.map fun j => (σ[j]?).getD none) H { s with heap := h4, toks := t4 } := by
  have kp : ∀ b o, s.heap.get? b = some o → h4.get? b = some o := fun b o e => (hsb.2 b (Nat.ne_of_lt (Heap.lt_size e))).trans (Heap.get?_push_of_some _ e)
  have has : ∀ x, ((relabel scope X.env).names.lookup x = some .cell ∨ (relabel scope X.env).names.lookup x = some .free) → ∃ c, cl.lookup x = some c := fun x hx => by
    have fr : scope.names.lookup x = some .free := by
      rcases hx with hx | hx
      · obtain ⟨k0, h1, h2⟩ := look_relabel hx
        rcases h2 with h2 | h2
        · subst h2; exact absurd rfl (hcell _ (PySem.mem_of_lookup h1))
        · rw [h1, h2.1]
      · obtain ⟨k0, h1, h2⟩ := look_relabel hx
        rcases h2 with h2 | h2
        · subst h2; exact h1
        · exact absurd h2.2 (by decide)
    obtain ⟨k, hx2⟩ := List.getElem?_of_mem (hfree _ (PySem.mem_of_lookup fr) rfl)
    obtain ⟨_, _, _, _, q, _⟩ := cap.get hx2
    exact Option.isSome_iff_exists.mp q
  refine ⟨⟨I.ok.mod, hk, I.ok.glob, I.ok.blt, Nat.le_refl _, fun x y c h1 h2 => I.ok.inj x y c (hcl.look h1) (hcl.look h2), has, fun _ _ z _ => absurd z Bool.false_ne_true, I.ok.hd, I.ok.frames, .inl rfl, fun b hb => ⟨?_, fun x c e => ?_⟩, I.bs, Nat.le_trans I.ok.bsz I.sz, fun b o e hb => ?_, fun b hb hz => ?_, I.stack, I.stkFree⟩,
    rfl, I.bare, Un.kept kp, ⟨m0, hns, fun i x v h1 h2 h3 => ?_⟩, fun x c e => ?_, I.hok.fresh (Nat.le_refl _), fun x c e => I.freeC x c (hcl.look e), fun p hp => absurd hp (by simp [cxC]), HOk.kept I.hok kp, ?_⟩
  · obtain ⟨o, ho⟩ := hfe b hb
    exact Nat.ne_of_lt (Heap.lt_size ho)
  · exact (hfp b hb).2.2.2.2.1 x c (hcl.look e)
  · obtain ⟨_, _, _, h4', _⟩ := hfp b hb
    have q := I.ok.bs b o e
    rcases h4' with z | z
    · exact I.ok.noex b o e z
    · exact absurd (Nat.lt_of_lt_of_le (Heap.lt_size q.1) z) (Nat.lt_irrefl _)
  · rcases List.mem_cons.mp (I.stkSub b hz) with z | z
    · exact (hfp b hb).2.1 z
    · exact (hfp b hb).2.2.1 z
  · have h1' : (own ++ xs)[i]? = some x := h1
    by_cases hi : i < own.length
    · rw [List.getElem?_append_left (by simpa using hi), List.getElem?_replicate, if_pos hi] at h2; cases h2
    · rw [List.getElem?_append_right (by simpa using hi)] at h2
      rw [List.getElem?_append_right (by omega)] at h1'
      obtain ⟨j, q1, q2, q3, q4, q5⟩ := cap.get h1'
      rw [List.length_replicate, List.getElem?_map, q1] at h2
      have h2' : (σ[j]?).getD none = some v := by simpa using h2
      cases e : σ[j]? with
      | none => rw [e] at h2'; cases h2'
      | some o =>
        rw [e] at h2'
        have h2'' : o = some v := h2'
        subst h2''
        obtain ⟨mX, hnX, hlX⟩ := I.loc
        obtain ⟨u, ru, lk⟩ := hlX j x v q2 e (.inr q3)
        refine ⟨u, ru, .inr ⟨?_, ?_⟩⟩
        · have hv : Vis (relabel scope X.env) x := h3
          rcases hv with hv | hv
          · exfalso
            obtain ⟨k0, z1, z2⟩ := look_relabel hv
            have k0l : k0 = .local := by
              rcases z2 with z2 | z2
              · exact z2.symm
              · exact absurd z2.2 (by decide)
            subst k0l
            rw [q5] at z1; cases z1
          · exact hv
        · obtain ⟨c, hc⟩ := Option.isSome_iff_exists.mp q4
          refine ⟨c, hc, ?_⟩
          rcases lk with ⟨kl, _⟩ | ⟨_, c', e', z'⟩
          · exfalso
            have kl' : X.env.scope.names.lookup x = some .local := kl
            rcases q3 with q3 | q3 <;> (rw [q3] at kl'; cases kl')
          · rw [hcl.look hc] at e'; cases e'
            obtain ⟨oc, g1, g2⟩ := z'
            exact ⟨oc, kp _ _ g1, g2⟩
  · obtain ⟨v, oc, g1, g2⟩ := I.cell x c (hcl.look e)
    exact ⟨v, oc, kp _ _ g1, g2⟩
  · show _ = (own ++ xs).length
    rw [List.length_append, List.length_append, List.length_replicate, List.length_map, cap.len]
/-- the tests of a comprehension -/
def IfsOk (tb : Tb) (Y : Cx) (ifs : List Expr) (ft : FT) : Prop := ∀ (pins : List (Addr × Obj)) (s : Shared) (σ : St) (H : Hp) (Q : Bool → Hp → Prop), Inv Y pins σ H s → tOfT tb Y ft σ H Q →
  wpAny (model Y.prog Y.w) Y.A (forIn ifs true fun c r => if r = true then do let ok ← isTrue c Y.env (eval c Y.env); pure (ForInStep.yield ok) else pure (ForInStep.yield r)) (TP Y pins σ Q) Y.xe s
def tYes : FT := fun _ => M.ret true
theorem ifs_nil {Y : Cx} : IfsOk tb Y [] tYes := fun pins s σ H Q I ⟨ρ, vh, τ, st, S, p⟩ => wpAny_tests_nil ⟨H, I, PostT.here p S⟩
/-- the walk -/
theorem comp_loop {Y : Cx} {elt tg iter : Expr} {ifs : List Expr} {scope : Scope} {cpos : Pos} {J : It} {fp : List Addr} {it D : Addr} {tn : Nat → Heap → Prop} {src : Src} {l acc : Nat} {a : Addr} {g : FG} {ft : FT} {fe : FE} {R : Result → Shared → Prop}
    {vE : VH} {H0 : Hp} {ρ0 : List Addr} {s0 : Shared} (hxe : Y.xe = fun _ _ => False)
    (T : TurnX Y tg J fp it tn) (SJ : SrcJ tb src J l a) (hg : GOk tb Y tg g) (ht : IfsOk tb Y ifs ft) (he : EOk tb Y elt fe) (hlo : ∀ v, letOwnedTupleGo tg (.ref it) v = pure ())
    (st0 : ∀ {H' : Hp}, (∀ b ∈ fp, H' b = none) → ∀ b ∈ fp, FpOk Y [] H' b)
    (fin : ∀ s' σ' H' ρ', Inv Y [] σ' H' s' → ρ0 <+: ρ' → Keep H0 H' → ρ'[acc]? = some D → Sim tb ρ' vE H' → R (.ok .next) s') :
    ∀ n i σ H ρ vh τ, Inv Y [] σ H s0 → tn i s0.heap → (∀ b ∈ fp, H b = none) → ρ0 <+: ρ → ρ[l]? = some a → ρ[acc]? = some D → Keep H0 H → StRel Y.A.handled ρ H τ σ → Sim tb ρ vh H → compF src g ft fe acc n i τ vh = .ok () vE →
    codeAny (model Y.prog Y.w) Y.A (.compLoop (.ListComp elt [⟨tg, iter, ifs, 0⟩] scope cpos) 0 (.ref it) (.ref D) Y.env) R s0 := by
  intro n i σ H ρ vh τ I tn0 fr0 p0 la lD k0 st S e
  have noE : ∀ {α : Type} {t : Sem α} {Q : α → Shared → Prop} {E : Value → Shared → Prop} {s : Shared}, wpAny (model Y.prog Y.w) Y.A t Q Y.xe s → wpAny (model Y.prog Y.w) Y.A t Q E s := fun h => wpAny_mono h (fun _ _ x => x) fun _ _ z => by rw [hxe] at z; exact z.elim
  refine codeAny_compLoop_tests (fun n s => ∃ i σ H ρ vh τ, Inv Y [] σ H s ∧ tn i s.heap ∧ (∀ b ∈ fp, H b = none) ∧ ρ0 <+: ρ ∧ ρ[l]? = some a ∧ ρ[acc]? = some D ∧ Keep H0 H ∧ StRel Y.A.handled ρ H τ σ ∧ Sim tb ρ vh H ∧ compF src g ft fe acc n i τ vh = .ok () vE) ?_ n ⟨i, σ, H, ρ, vh, τ, I, tn0, fr0, p0, la, lD, k0, st, S, e⟩ hlo
  rintro n s ⟨i, σ, H, ρ, vh, τ, I, tni, fr, p0, la, lD, k0, st, S, e⟩
  cases n with
  | zero => simp [compF] at e
  | succ n =>
    unfold compF at e
    cases e0 : src i vh with
    | none => rw [e0] at e; cases e
    | some o =>
      rw [e0] at e
      cases o with
      | none =>
        cases e
        refine wpAny_mono (T.done i [] s σ H (fun _ _ => False) I st.hd (st0 fr) tni (SJ.stop i ρ _ H la S e0)) (fun r s1 q => ?_) fun _ _ z => z.elim
        obtain ⟨rfl, I1⟩ := q
        exact fin s1 σ H ρ I1 p0 k0 lD S
      | some x =>
        dsimp only at e
        obtain ⟨go, yl⟩ := SJ.go i ρ vh H x la S e0
        refine wpAny_mono (T.item i [] s σ H (fun _ _ => False) I st.hd (st0 fr) tni go) (fun r s1 q => ?_) fun _ _ z => z.elim
        obtain ⟨u, rfl, q⟩ := q
        rw [hlo u] at q
        show wpAny _ _ (pure () >>= fun _ => assign tg Y.env u) _ _ s1
        refine wpAny_bind (wpAny_mono q (fun _ s2 q2 => ?_) fun _ _ z => z.elim)
        obtain ⟨w, H', I2, ru, hy, tn2, fr2⟩ := q2
        obtain ⟨rfl, rw'⟩ := yl w H' hy
        have I2p := I2.pinned (st0 fr2) (T.obj _ _ tn2)
        cases e1 : g x τ vh with
        | next τ1 h1 =>
          rw [e1] at e
          dsimp only at e
          refine noE (thn (hg _ s2 σ H' w u (fun σ3 H3 => ∃ ρ3, ρ <+: ρ3 ∧ Keep H' H3 ∧ Sim tb ρ3 h1 H3 ∧ StRel Y.A.handled ρ3 H3 τ1 σ3) I2p ru ⟨ρ, vh, τ, x, st, S, rw', by rw [e1]; exact fun ρ3 H3 σ3 p3 k3 S3 st3 => ⟨ρ3, p3, k3, S3, st3⟩⟩) fun _ s3 q3 => ?_)
          obtain ⟨σ3, H3, I3, ρ3, p3, k3, S3, st3⟩ := q3
          cases e2 : ft τ1 h1 with
          | ok b h2 =>
            rw [e2] at e
            refine noE (thn (ht _ s3 σ3 H3 (fun b' H4 => b' = b ∧ ∃ ρ4, ρ3 <+: ρ4 ∧ Keep H3 H4 ∧ Sim tb ρ4 h2 H4) I3 ⟨ρ3, h1, τ1, st3, S3, by rw [e2]; exact fun ρ4 H4 p4 k4 S4 => ⟨rfl, ρ4, p4, k4, S4⟩⟩) fun b' s4 q4 => ?_)
            obtain ⟨H4, I4, rfl, ρ4, p4, k4, S4⟩ := q4
            -- what stays of the walk's own objects
            have back : ∀ {σ7 : St} {H7 : Hp} {s7 : Shared}, Inv Y ([] ++ pinsAt fp s2.heap) σ7 H7 s7 → Inv Y [] σ7 H7 s7 ∧ tn (i + 1) s7.heap ∧ ∀ b ∈ fp, H7 b = none := fun {σ7 H7 s7} I7 => by
              refine ⟨I7.unpinned, T.keep _ _ _ tn2 fun b hb o eo => (I7.pin (b, o) (List.mem_append_right _ (List.mem_append_right _ (mem_pinsAt hb eo)))).1, fun b hb => ?_⟩
              obtain ⟨o, eo, d⟩ := T.obj _ _ tn2 b hb
              exact (I7.pin (b, o) (List.mem_append_right _ (List.mem_append_right _ (mem_pinsAt hb eo)))).2.1
            cases b' with
            | false =>
              rw [if_neg Bool.false_ne_true]
              obtain ⟨J1, J2, J3⟩ := back I4
              exact ⟨n, Nat.lt_succ_self _, i + 1, σ3, H4, ρ4, h2, τ1, J1, J2, J3, p0.trans (p3.trans p4), pre_get (p3.trans p4) la, pre_get (p3.trans p4) lD, k0.trans (k3.trans k4), st3.mono p4 k4, S4, e⟩
            | true =>
              rw [if_pos rfl]
              dsimp only at e
              cases e3 : fe τ1 h2 with
              | ok v h3 =>
                rw [e3] at e
                dsimp only at e
                refine noE (thn (he _ s4 σ3 H4 (fun w' H5 => ∃ ρ5, ρ4 <+: ρ5 ∧ Keep H4 H5 ∧ Sim tb ρ5 h3 H5 ∧ Rep ρ5 H5 v w') I4 ⟨ρ4, h2, τ1, st3.mono p4 k4, S4, by rw [e3]; exact fun ρ5 H5 w' p5 k5 S5 r5 => ⟨ρ5, p5, k5, S5, r5⟩⟩) fun u' s5 q5 => ?_)
                obtain ⟨w', H5, I5, rv', ρ5, p5, k5, S5, r5⟩ := q5
                have lD5 := pre_get (p3.trans (p4.trans p5)) lD
                cases e4 : h3[acc]? with
                | none => rw [e4] at e; cases e
                | some ob =>
                  rw [e4] at e
                  cases ob with
                  | lst ys =>
                    dsimp only at e
                    by_cases hz : ys.length < big
                    · rw [if_pos hz] at e
                      obtain ⟨vs, hD, rvs⟩ := sim_lst S5 lD5 e4
                      refine noE (thn (mt_append _ s5 σ3 H5 (.ref D) [w'] (.ref D) [u'] (fun _ H6 => H6 = upd H5 D (.lst (vs ++ [w']))) I5 rfl (.cons rv' .nil) ⟨D, vs, w', rfl, rfl, hD, by rw [rvs.length]; exact Nat.lt_of_lt_of_le hz big_le, rfl⟩) fun _ s6 q6 => ?_)
                      obtain ⟨_, H6, I6, _, rfl⟩ := q6
                      obtain ⟨J1, J2, J3⟩ := back I6
                      have kD : Keep H5 (upd H5 D (.lst (vs ++ [w']))) := Keep.put' S5 (List.mem_of_getElem? lD5)
                      exact ⟨n, Nat.lt_succ_self _, i + 1, σ3, _, ρ5, h3.set acc (.lst (ys ++ [v])), τ1, J1, J2, J3, p0.trans (p3.trans (p4.trans p5)), pre_get (p3.trans (p4.trans p5)) la, lD5, k0.trans (k3.trans (k4.trans (k5.trans kD))),
                        (st3.mono p4 k4).mono p5 (k5.trans kD), S5.set lD5 ⟨_, upd_same, (Reps.append (ys := [v]) (ws := [w']) rvs ⟨w', [], rfl, r5, rfl⟩).mono List.prefix_rfl kD⟩, e⟩
                    · rw [if_neg hz] at e; cases e
                  | _ => cases e
              | exc _ _ => rw [e3] at e; cases e
              | bad => rw [e3] at e; cases e
          | exc _ _ => rw [e2] at e; cases e
          | bad => rw [e2] at e; cases e
        | brk _ _ => rw [e1] at e; cases e
        | cont _ _ => rw [e1] at e; cases e
        | ret _ _ => rw [e1] at e; cases e
        | exc _ _ => rw [e1] at e; cases e
        | bad => rw [e1] at e; cases e
/-- behind the block -/
theorem inv_back {scope : Scope} {cl : List (Str × Addr)} {Ny : List Str} {fp : List Addr} {σ' : St} {H' : Hp} {s' : Shared} {h' : Heap} (I : Inv X pins σ H s) (hfp : ∀ b ∈ fp, FpOk X pins H b) (J : Inv (cxC X Ny scope cl s H fp) [] σ' H' s')
    (hs : Heap.SameBut s.heap.objs.size s'.heap h') : Inv X pins σ H' { s' with heap := h' } := by
  have u : Un (frs X.stack) fp H H' s.heap s'.heap := J.base
  have ne : ∀ b o, s.heap.get? b = some o → b ≠ s.heap.objs.size := fun b o e => Nat.ne_of_lt (Heap.lt_size e)
  have fC : H' s.heap.objs.size = none := J.free
  refine I.call' (s' := { s' with heap := h' }) (ch := fp) J.os ⟨fun b o e n h1 h2 => (hs.2 b (ne b o e)).trans (u.keep b o e n h1 h2), fun b o e n h1 h2 => ?_, u.free, fun b o e h1 => ?_, u.tups, u.frzs, u.tbls⟩ (HOk.tracked J.hok fun c v w hc q => (hs.2 c fun z => by rw [z, fC] at hc; cases hc).trans q) J.bare fun b hb => ?_
  · obtain ⟨sl, q⟩ := u.slot b o e n h1 h2
    exact ⟨sl, (hs.2 b (ne b o e)).trans q⟩
  · obtain ⟨o', q⟩ := u.there b o e h1
    exact ⟨o', (hs.2 b (ne b o e)).trans q⟩
  · obtain ⟨_, f1, _, f3, f4, f5⟩ := hfp b hb
    exact ⟨f3, f1, f4, f5⟩
def fCompL (m : Nat) (pr : List Nat) (fi : FE) (g : FG) (ft : FT) (fe : FE) : FE := fun τ => M.bind (fi τ) fun v => match v with
  | .ref l => fun h => match compF (srcL l) g ft fe h.length (lenL h l + 1) 0 (startC m pr τ) (h ++ [.lst []]) with
    | .ok _ h' => .ok (.ref h.length) h'
    | _ => .bad
  | _ => M.bad
theorem startC_rel {ρ : List Addr} {H : Hp} {τ : Tau} {σ : St} {hv : Option Value} {pr : List Nat} (m : Nat) (st : StRel hv ρ H τ σ) : StRel hv ρ H (startC m pr τ) (List.replicate m none ++ pr.map fun j => (σ[j]?).getD none) := by
  refine ⟨st.hd, by simp [startC], fun i x e => ?_⟩
  unfold startC at e
  by_cases hi : i < m
  · rw [List.getElem?_append_left (by simpa using hi), List.getElem?_replicate, if_pos hi] at e; cases e
  · rw [List.getElem?_append_right (by simpa using hi), List.getElem?_map] at e
    rw [List.getElem?_append_right (by simpa using hi), List.getElem?_map]
    rw [List.length_replicate] at e ⊢
    cases ep : pr[i - m]? with
    | none => rw [ep] at e; cases e
    | some j =>
      rw [ep] at e
      have e' : (τ[j]?).getD none = some x := by simpa using e
      cases et : τ[j]? with
      | none => rw [et] at e'; cases e'
      | some o =>
        rw [et] at e'
        have : o = some x := e'
        subst this
        obtain ⟨v, h1, h2⟩ := st.get j x et
        exact ⟨v, by simp [h1], h2⟩
/-- the block's rules hold in every such context -/
abbrev InBlock (X : Cx) (Ny : List Str) (scope : Scope) (cl : List (Str × Addr)) (f : Cx → Prop) : Prop := ∀ (s3 : Shared) (H3 : Hp) (ex : List Addr), f (cxC X Ny scope cl s3 H3 ex)
/-- from the walk's first object on: the list that is filled, the block's frame, the walk -/
theorem comp_core {elt iter : Expr} {x : Str} {px cpos : Pos} {ifs : List Expr} {scope : Scope} {cl : List (Str × Addr)} {own xs : List Str} {pr : List Nat} {g : FG} {ft : FT} {fe : FE} {src : Src} {n l : Nat} {J : It} {fp : List Addr} {it : Addr} {tn : Nat → Heap → Prop}
    {ρ : List Addr} {vh vE : VH} {τ : Tau} {Q : VK} {E : Value → Shared → Prop}
    (hcl : AllC X.env.cells cl) (cap : CapOk X scope cl pr xs)
    (hg : InBlock X (own ++ xs) scope cl fun Y => GOk tb Y (.Name x px) g) (ht : InBlock X (own ++ xs) scope cl fun Y => IfsOk tb Y ifs ft) (he : InBlock X (own ++ xs) scope cl fun Y => EOk tb Y elt fe)
    (hk : scope.kind = .function) (hcell : ∀ y ∈ scope.names, y.2 ≠ .cell) (hfree : ∀ y ∈ scope.names, y.2 = .free → y.1 ∈ xs)
    (I : Inv X pins σ H s) (st : StRel X.A.handled ρ H τ σ) (S : Sim tb ρ vh H) (hfp : ∀ b ∈ fp, FpOk X pins H b) (hfe : ∀ b ∈ fp, ∃ o, s.heap.get? b = some o) (tn0 : tn 0 s.heap)
    (T : InBlock X (own ++ xs) scope cl fun Y => TurnX Y (.Name x px) J fp it tn) (la : ∀ D, ∃ a, (ρ ++ [D])[l]? = some a ∧ SrcJ tb src J l a)
    (e : compF src g ft fe vh.length n 0 (startC own.length pr τ) (vh ++ [.lst []]) = .ok () vE) (hQ : ∀ ρ' H' w', ρ <+: ρ' → Keep H H' → Sim tb ρ' vE H' → Rep ρ' H' (.ref vh.length) w' → Q w' H') :
    wpAny (model X.prog X.w) X.A (newList []) (fun acc s₃ => wpAny (model X.prog X.w) X.A (newFunctionEnv scope X.env.globals cl [] X.env.qual none .none (some X.env)) (fun cenv s₄ =>
        codeAny (model X.prog X.w) X.A (.compStart (.ListComp elt [⟨.Name x px, iter, ifs, 0⟩] scope cpos) 0 (.ref it) acc { cenv with scope := relabel scope X.env }) (compPost (model X.prog X.w) X.A E none (EP X pins σ Q) acc cenv.locals) s₄) E s₃) E s := by
  unfold newList
  refine wpAny_newObj_type ?_ (by size_fits)
  have hf : H s.heap.objs.size = none := I.hok.fresh (Nat.le_refl _)
  have I3 := I.laid (a := s.heap.objs.size) (o := .lst []) (t' := s.toks) (h' := s.heap.push { cls := .type "list", data := .seq #[] }) (fun b o e => Heap.get?_push_of_some _ e) (Nat.le_refl _) ⟨by simp, [], 0, .nil, Heap.get?_push_size _ rfl⟩
  have pf : ρ <+: ρ ++ [s.heap.objs.size] := List.prefix_append _ _
  have kf : Keep H (upd H s.heap.objs.size (.lst [])) := Keep.new hf
  have S3 : Sim tb (ρ ++ [s.heap.objs.size]) (vh ++ [.lst []]) (upd H s.heap.objs.size (.lst [])) := S.push (o := .lst []) (u := .lst []) hf ⟨[], upd_same, rfl⟩
  have hne : ∀ b ∈ fp, b ≠ s.heap.objs.size := fun b hb z => by
    obtain ⟨o, ho⟩ := hfe b hb
    exact absurd (Heap.lt_size ho) (by rw [z]; exact Nat.lt_irrefl _)
  have fr3 : ∀ b ∈ fp, (upd H s.heap.objs.size (.lst [])) b = none := fun b hb => by rw [upd_ne (hne b hb)]; exact (hfp b hb).1
  have hfp3 : ∀ b ∈ fp, FpOk X pins (upd H s.heap.objs.size (.lst [])) b := fun b hb => ⟨fr3 b hb, (hfp b hb).2⟩
  have hfe3 : ∀ b ∈ fp, ∃ o, (s.heap.push { cls := .type "list", data := .seq #[] }).get? b = some o := fun b hb => by
    obtain ⟨o, ho⟩ := hfe b hb
    exact ⟨o, Heap.get?_push_of_some _ ho⟩
  generalize hS : ({ s with heap := s.heap.push { cls := .type "list", data := .seq #[] }, toks := s.toks } : Shared) = s3 at *
  have hh3 : s3.heap = s.heap.push { cls := .type "list", data := .seq #[] } := by rw [← hS]
  refine wpAny_newFunctionEnv hcell (fun _ h => absurd h (by simp)) (fun h4 hns hsb => ?_) hk
  rw [← hh3] at hfe3
  have J0 := inv_comp (own := own) (t4 := s3.toks + ([] : List (Str × Value)).length) I3 hk hcell hfree hcl cap hfp3 hfe3 hns hsb
  have T0 := T s3 (upd H s.heap.objs.size (.lst [])) fp
  have kp4 : ∀ b o, s3.heap.get? b = some o → h4.get? b = some o := fun b o e => (hsb.2 b (Nat.ne_of_lt (Heap.lt_size e))).trans (Heap.get?_push_of_some _ e)
  have tn4 : tn 0 h4 := T0.keep 0 s.heap h4 tn0 fun b hb o ho => kp4 b o (by rw [hh3]; exact Heap.get?_push_of_some _ ho)
  obtain ⟨a, la, SJ⟩ := la s.heap.objs.size
  have st0 : ∀ {H' : Hp}, (∀ b ∈ fp, H' b = none) → ∀ b ∈ fp, FpOk (cxC X (own ++ xs) scope cl s3 (upd H s.heap.objs.size (.lst [])) fp) [] H' b := fun {H'} hn b hb => by
    obtain ⟨f0, f1, f2, f3, f4, f5⟩ := hfp3 b hb
    obtain ⟨o, ho⟩ := hfe3 b hb
    refine ⟨hn b hb, Nat.ne_of_lt (Heap.lt_size ho), fun z => ?_, .inl hb, fun y c e => f4 y c (hcl.look e), fun p hp => absurd hp (by simp [cxC])⟩
    rcases List.mem_cons.mp (I3.stkSub b z) with z | z
    · exact f1 z
    · exact f2 z
  have loop : codeAny (model X.prog X.w) X.A (.compLoop (.ListComp elt [⟨.Name x px, iter, ifs, 0⟩] scope cpos) 0 (.ref it) (.ref s.heap.objs.size) (compEnvC scope cl s3.heap.objs.size X.env)) (compPost (model X.prog X.w) X.A E none (EP X pins σ Q) (.ref s.heap.objs.size) s3.heap.objs.size) { s3 with heap := h4, toks := s3.toks + ([] : List (Str × Value)).length } := by
    refine comp_loop (Y := cxC X (own ++ xs) scope cl s3 (upd H s.heap.objs.size (.lst [])) fp) (vE := vE) (H0 := upd H s.heap.objs.size (.lst [])) (ρ0 := ρ ++ [s.heap.objs.size]) rfl T0 SJ (hg _ _ _) (ht _ _ _) (he _ _ _) (fun _ => rfl) (fun h => st0 h) ?_ n 0 _ _ _ _ _ J0 tn4 fr3 List.prefix_rfl la ?_ Keep.refl (startC_rel own.length (st.mono pf kf)) S3 e
    · intro s' σ' H' ρ' J1 p1 k1 lD S'
      obtain ⟨m, hm, _⟩ := J1.loc
      refine ⟨m, hm, fun h' hs => ?_⟩
      refine ⟨.ref s.heap.objs.size, H', inv_back I3 hfp3 J1 hs, rfl, hQ ρ' H' _ (pf.trans p1) (kf.trans k1) S' ⟨_, lD, rfl⟩⟩
    · rw [← S.len]; simp
  exact codeAny_compStart_list loop (T0.self 0 _ _ _ tn4 loop)
theorem e_compL {elt iter : Expr} {x : Str} {px cpos : Pos} {ifs : List Expr} {scope : Scope} {cl : List (Str × Addr)} {own xs : List Str} {pr : List Nat} {fi : FE} {g : FG} {ft : FT} {fe : FE}
    (hclos : closureFor scope X.env = pure cl) (hcl : AllC X.env.cells cl) (cap : CapOk X scope cl pr xs) (hi : EOk tb X iter fi)
    (hg : InBlock X (own ++ xs) scope cl fun Y => GOk tb Y (.Name x px) g) (ht : InBlock X (own ++ xs) scope cl fun Y => IfsOk tb Y ifs ft) (he : InBlock X (own ++ xs) scope cl fun Y => EOk tb Y elt fe)
    (hk : scope.kind = .function := by rfl) (hcell : ∀ y ∈ scope.names, y.2 ≠ .cell := by decide) (hfree : ∀ y ∈ scope.names, y.2 = .free → y.1 ∈ xs := by decide)
    (hnames : ∀ x ∈ scope.names, x.2 = .local → scope.names.lookup x.1 = some .local := by decide) (hs : ∀ x, foldedSetIterable iter X.env x = pure x := by intro _; rfl) :
    EOk tb X (.ListComp elt [⟨.Name x px, iter, ifs, 0⟩] scope cpos) (fCompL own.length pr fi g ft fe) := by
  intro pins s σ H Q I ⟨ρ, vh, τ, st, S, p⟩
  rw [eval_ListComp]
  refine wpAny_comprehension_free (use := none) rfl hs hclos hk hnames (thn (hi pins s σ H (fun w H1 => ∃ ρ1 vh1 l a, ρ <+: ρ1 ∧ Keep H H1 ∧ Sim tb ρ1 vh1 H1 ∧ w = .ref a ∧ ρ1[l]? = some a ∧ (∃ ys, lsOf vh1 l = some ys) ∧
    ∃ vE, compF (srcL l) g ft fe vh1.length (lenL vh1 l + 1) 0 (startC own.length pr τ) (vh1 ++ [.lst []]) = .ok () vE ∧ ∀ ρ' H' w', ρ1 <+: ρ' → Keep H1 H' → Sim tb ρ' vE H' → Rep ρ' H' (.ref vh1.length) w' → Q w' H') I ⟨ρ, vh, τ, st, S, seqEE p fun vh1 ρ1 H1 v1 w1 p1 k1 S1 r1 q1 => ?_⟩) fun v s1 ⟨w, H1, I1, rv, q1⟩ => ?_)
  · cases v1 with
    | ref l =>
      obtain ⟨a, la, rfl⟩ := r1
      dsimp only at q1
      cases e : compF (srcL l) g ft fe vh1.length (lenL vh1 l + 1) 0 (startC own.length pr τ) (vh1 ++ [.lst []]) with
      | ok z vE =>
        rw [e] at q1
        refine ⟨ρ1, vh1, l, a, p1, k1, S1, rfl, la, ?_, vE, e, q1⟩
        cases q : lsOf vh1 l with
        | some ys => exact ⟨ys, rfl⟩
        | none =>
          exfalso
          have hl : l < vh1.length := by rw [← S1.len]; exact (List.getElem?_eq_some_iff.mp la).1
          have z : srcL l 0 (vh1 ++ [.lst []]) = none := by
            unfold srcL lsOf
            unfold lsOf at q
            rw [List.getElem?_append_left hl, q]
          unfold compF at e
          rw [z] at e; cases e
      | exc _ _ => rw [e] at q1; exact q1.elim
      | bad => rw [e] at q1; exact q1.elim
    | _ => exact q1.elim
  · obtain ⟨ρ1, vh1, l, a, p1, k1, S1, rfl, la, ⟨ys, el⟩, vE, e, hQ⟩ := q1
    cases rv
    obtain ⟨vs, its, _, _, hL, _⟩ := ls_get S1 I1.hok el la
    refine wpAny_pyIter_list hL ?_
    refine comp_core (fp := [s1.heap.objs.size]) (J := Itl X.K a) (tn := fun i h => h.IsListIter s1.heap.objs.size a i) hcl cap hg ht he hk hcell hfree (I1.kept (t' := s1.toks) fun b o e => Heap.get?_push_of_some _ e) (st.mono p1 k1) S1 (fun b hb => ?_) (fun b hb => ?_) ⟨_, Heap.get?_push_size _ rfl, rfl, rfl⟩ (fun s3 H3 ex => turnX_list (cxC X (own ++ xs) scope cl s3 H3 ex) _ a _) (fun D => ⟨a, ?_, srcJ_list⟩) e hQ
    · have e : b = s1.heap.objs.size := by simpa using hb
      subst e
      exact I1.fpOk (Nat.le_refl _) (I1.hok.fresh (Nat.le_refl _))
    · have e : b = s1.heap.objs.size := by simpa using hb
      subst e
      exact ⟨_, Heap.get?_push_size _ rfl⟩
    · exact pre_get (List.prefix_append _ _) la
end
end FS

set_option Elab.async false
set_option linter.all false
set_option maxRecDepth 100000
set_option maxHeartbeats 4000000
namespace FS
open PySem PySem.Spec PyProof.Rows L2 FX
/-! ### the signs of a text -/
def asc (x : Str) : Bool := x.cps.all (· < 128)
def srcS (x : Str) : Src := fun i _ => some ((x.cps[i]?).map fun c => .str ⟨#[c]⟩)
def Its (x : Str) : It where
  go := fun i _ => i < x.cps.size
  yld := fun i H v H' => H' = H ∧ ∃ c, x.cps[i]? = some c ∧ v = .str ⟨#[c]⟩
  stop := fun i _ => x.cps.size ≤ i
theorem turn_ascii {P : Program} {w : World} {K : PySem.W.Frag} {tg : Expr} (it : Addr) (x : Str) (t : Tok) : Turn P w K tg (Its x) [it] it (fun i h => h.IsStrIter it "str_ascii_iterator" x t i) where
  mem := by simp
  obj := fun i h st b hb => by
    have e : b = it := by simpa using hb
    subst e
    obtain ⟨o, ho, _, hd⟩ := st
    exact ⟨o, ho, fun v z => by rw [hd] at z; cases z⟩
  keep := fun i h h' st k => let ⟨o, ho, r⟩ := st; ⟨o, k it (by simp) o ho, r⟩
  item := by
    intro X hP hw hK hc i pins s σ H E I hf st hg
    subst hP hw hK
    obtain ⟨f0, f1, f2, f3, f4, f5⟩ := hf it (by simp)
    have hi : i < x.cps.size := hg
    refine wpAny_pyNext_ascii_item st (c := x.cps[i]) (by simp [hi]) fun h' st' sb => ?_
    have I1 : Inv X pins σ H { s with heap := h', toks := s.toks + 1 } := I.turned (fun b o hb e => (sb.2 b hb).trans e) f0 f1 f3 f4 f5
    obtain ⟨o, e, c, d⟩ := id st'
    exact ⟨_, rfl, go_of (s := { s with heap := h', toks := s.toks + 1 }) e c d (by decide) ⟨.str ⟨#[x.cps[i]]⟩, H, I1, ⟨_, rfl⟩, ⟨rfl, _, by simp [hi], rfl⟩, st', fun b hb => (hf b hb).1⟩⟩
  done := by
    intro X hP hw hK hc i pins s σ H E I hf st hg
    subst hP hw hK
    obtain ⟨f0, f1, f2, f3, f4, f5⟩ := hf it (by simp)
    have hi : x.cps.size ≤ i := hg
    exact wpAny_pyNext_ascii_end (I.ok.hd hc) st (by simp [hi]) fun h' eb => ⟨rfl, I.turned (t' := s.toks) (fun b o hb e => eb b o hb e) f0 f1 f3 f4 f5⟩
  self := fun _ _ _ _ _ st h => wpAny_pyIter_striter_ascii st h
theorem srcJ_str {tb : Tb} {x : Str} {l : Nat} {a : Addr} : SrcJ tb (srcS x) (Its x) l a where
  stop := fun i ρ vh H la S e => by
    unfold srcS at e
    by_cases hi : i < x.cps.size
    · simp [hi] at e
    · exact Nat.le_of_not_lt hi
  go := fun i ρ vh H y la S e => by
    unfold srcS at e
    by_cases hi : i < x.cps.size
    · simp [hi] at e
      subst e
      refine ⟨hi, fun w H' hy => ⟨hy.1, ?_⟩⟩
      obtain ⟨_, c, hc, rfl⟩ := hy
      have : c = x.cps[i] := by simp [hi] at hc; exact hc.symm
      subst this; rfl
    · simp [hi] at e
section
variable {tb : Tb} {X : Cx} {pins : List (Addr × Obj)} {σ : St} {H : Hp} {s : Shared}
def fCompS (m : Nat) (pr : List Nat) (fi : FE) (g : FG) (ft : FT) (fe : FE) : FE := fun τ => M.bind (fi τ) fun v => match v with
  | .str x => fun h => if asc x = true then match compF (srcS x) g ft fe h.length (x.cps.size + 1) 0 (startC m pr τ) (h ++ [.lst []]) with
      | .ok _ h' => .ok (.ref h.length) h'
      | _ => .bad
    else .bad
  | _ => M.bad
theorem e_compS {elt iter : Expr} {x : Str} {px cpos : Pos} {ifs : List Expr} {scope : Scope} {cl : List (Str × Addr)} {own xs : List Str} {pr : List Nat} {fi : FE} {g : FG} {ft : FT} {fe : FE} (hc : X.calm = true)
    (hclos : closureFor scope X.env = pure cl) (hcl : AllC X.env.cells cl) (cap : CapOk X scope cl pr xs) (hi : EOk tb X iter fi)
    (hg : InBlock X (own ++ xs) scope cl fun Y => GOk tb Y (.Name x px) g) (ht : InBlock X (own ++ xs) scope cl fun Y => IfsOk tb Y ifs ft) (he : InBlock X (own ++ xs) scope cl fun Y => EOk tb Y elt fe)
    (hk : scope.kind = .function := by rfl) (hcell : ∀ y ∈ scope.names, y.2 ≠ .cell := by decide) (hfree : ∀ y ∈ scope.names, y.2 = .free → y.1 ∈ xs := by decide)
    (hnames : ∀ x ∈ scope.names, x.2 = .local → scope.names.lookup x.1 = some .local := by decide) (hs : ∀ x, foldedSetIterable iter X.env x = pure x := by intro _; rfl) :
    EOk tb X (.ListComp elt [⟨.Name x px, iter, ifs, 0⟩] scope cpos) (fCompS own.length pr fi g ft fe) := by
  intro pins s σ H Q I ⟨ρ, vh, τ, st, S, p⟩
  rw [eval_ListComp]
  refine wpAny_comprehension_free (use := none) rfl hs hclos hk hnames (thn (hi pins s σ H (fun w H1 => ∃ ρ1 vh1 y, ρ <+: ρ1 ∧ Keep H H1 ∧ Sim tb ρ1 vh1 H1 ∧ w = .str y ∧ asc y = true ∧
    ∃ vE, compF (srcS y) g ft fe vh1.length (y.cps.size + 1) 0 (startC own.length pr τ) (vh1 ++ [.lst []]) = .ok () vE ∧ ∀ ρ' H' w', ρ1 <+: ρ' → Keep H1 H' → Sim tb ρ' vE H' → Rep ρ' H' (.ref vh1.length) w' → Q w' H') I ⟨ρ, vh, τ, st, S, seqEE p fun vh1 ρ1 H1 v1 w1 p1 k1 S1 r1 q1 => ?_⟩) fun v s1 ⟨w, H1, I1, rv, q1⟩ => ?_)
  · cases v1 with
    | str y =>
      dsimp only at q1
      by_cases ha : asc y = true
      · rw [if_pos ha] at q1
        cases e : compF (srcS y) g ft fe vh1.length (y.cps.size + 1) 0 (startC own.length pr τ) (vh1 ++ [.lst []]) with
        | ok z vE =>
          rw [e] at q1
          exact ⟨ρ1, vh1, y, p1, k1, S1, r1, ha, vE, e, q1⟩
        | exc _ _ => rw [e] at q1; exact q1.elim
        | bad => rw [e] at q1; exact q1.elim
      · rw [if_neg ha] at q1; exact q1.elim
    | _ => exact q1.elim
  · obtain ⟨ρ1, vh1, y, p1, k1, S1, rfl, ha, vE, e, hQ⟩ := q1
    obtain ⟨t, rfl⟩ := rv
    refine wpAny_pyIter_ascii ha ?_
    refine comp_core (fp := [s1.heap.objs.size]) (J := Its y) (l := ρ1.length) (tn := fun i h => h.IsStrIter s1.heap.objs.size "str_ascii_iterator" y t i) hcl cap hg ht he hk hcell hfree (I1.kept (t' := s1.toks) fun b o e => Heap.get?_push_of_some _ e) (st.mono p1 k1) S1 (fun b hb => ?_) (fun b hb => ?_) ⟨_, Heap.get?_push_size _ rfl, rfl, rfl⟩ (fun s3 H3 ex => TurnX.of (Y := cxC X (own ++ xs) scope cl s3 H3 ex) (turn_ascii _ y t) hc) (fun D => ⟨D, by simp, srcJ_str⟩) e hQ
    · have e : b = s1.heap.objs.size := by simpa using hb
      subst e
      exact I1.fpOk (Nat.le_refl _) (I1.hok.fresh (Nat.le_refl _))
    · have e : b = s1.heap.objs.size := by simpa using hb
      subst e
      exact ⟨_, Heap.get?_push_size _ rfl⟩
/-! ### range(n) -/
def fCompR (m : Nat) (pr : List Nat) (fn : FA) (g : FG) (ft : FT) (fe : FE) : FE := fun τ => M.bind (fn τ) fun v => match v with
  | [.int j] => fun h => if -(2 ^ 62) ≤ j ∧ j < 2 ^ 62 then match compF (srcR 0 j.toNat) g ft fe h.length (j.toNat + 1) 0 (startC m pr τ) (h ++ [.lst []]) with
      | .ok _ h' => .ok (.ref h.length) h'
      | _ => .bad
    else .bad
  | _ => M.bad
theorem e_compR {elt a : Expr} {x : Str} {p1' p2' px cpos : Pos} {ifs : List Expr} {scope : Scope} {cl : List (Str × Addr)} {own xs : List Str} {pr : List Nat} {fn : FA} {g : FG} {ft : FT} {fe : FE} (hc : X.calm = true) (hgl : Gl X "range") (hm : X.mg "range" = none)
    (hclos : closureFor scope X.env = pure cl) (hcl : AllC X.env.cells cl) (cap : CapOk X scope cl pr xs) (hi : AOk tb X [a] fn)
    (hg : InBlock X (own ++ xs) scope cl fun Y => GOk tb Y (.Name x px) g) (ht : InBlock X (own ++ xs) scope cl fun Y => IfsOk tb Y ifs ft) (he : InBlock X (own ++ xs) scope cl fun Y => EOk tb Y elt fe)
    (hk : scope.kind = .function := by rfl) (hcell : ∀ y ∈ scope.names, y.2 ≠ .cell := by decide) (hfree : ∀ y ∈ scope.names, y.2 = .free → y.1 ∈ xs := by decide)
    (hnames : ∀ x ∈ scope.names, x.2 = .local → scope.names.lookup x.1 = some .local := by decide) (hs : ∀ x, foldedSetIterable (.Call (.Name "range" p1') [a] [] p2') X.env x = pure x := by intro _; rfl) (hst : starEach [a] X.env = [(false, eval a X.env)] := by rfl) :
    EOk tb X (.ListComp elt [⟨.Name x px, .Call (.Name "range" p1') [a] [] p2', ifs, 0⟩] scope cpos) (fCompR own.length pr fn g ft fe) := by
  intro pins s σ H Q I ⟨ρ, vh, τ, st, S, p⟩
  rw [eval_ListComp]
  refine wpAny_comprehension_free (use := none) rfl hs hclos hk hnames (wpAny_mono (pi_range1 (tg := .Name x px) hgl hm hi hst pins s σ H (fun J H1 => ∃ ρ1 vh1 j, ρ <+: ρ1 ∧ Keep H H1 ∧ Sim tb ρ1 vh1 H1 ∧ J = Itr 0 j ∧
    ∃ vE, compF (srcR 0 j) g ft fe vh1.length (j + 1) 0 (startC own.length pr τ) (vh1 ++ [.lst []]) = .ok () vE ∧ ∀ ρ' H' w', ρ1 <+: ρ' → Keep H1 H' → Sim tb ρ' vE H' → Rep ρ' H' (.ref vh1.length) w' → Q w' H') I ⟨ρ, vh, τ, st, S, seqAE p fun vh1 ρ1 H1 v1 w1 p1 k1 S1 r1 q1 => ?_⟩) (fun v s1 hv => wpAny_mono hv (fun itv s2 q2 => ?_) fun _ _ z => z) fun _ _ z => z)
  · match v1, r1, q1 with
    | [], _, q1 => exact q1.elim
    | y :: _ :: _, _, q1 => cases y <;> exact q1.elim
    | [y], r1, q1 =>
      obtain ⟨w, ws, rfl, r1, r2⟩ := r1
      cases (show ws = [] from r2)
      cases y with
      | int j =>
        dsimp only at q1
        by_cases ha : -(2 ^ 62) ≤ j ∧ j < 2 ^ 62
        · rw [if_pos ha] at q1
          cases e : compF (srcR 0 j.toNat) g ft fe vh1.length (j.toNat + 1) 0 (startC own.length pr τ) (vh1 ++ [.lst []]) with
          | ok z vE =>
            rw [e] at q1
            exact ⟨j, by rw [show w = _ from r1], ha.1, ha.2, ρ1, vh1, j.toNat, p1, k1, S1, rfl, vE, e, q1⟩
          | exc _ _ => rw [e] at q1; exact q1.elim
          | bad => rw [e] at q1; exact q1.elim
        · rw [if_neg ha] at q1; exact q1.elim
      | _ => exact q1.elim
  · obtain ⟨it, fp, tn, J, H1, rfl, I1, T, tn0, hfp, ρ1, vh1, j, p1, k1, S1, rfl, vE, e, hQ⟩ := q2
    exact comp_core (l := ρ1.length) hcl cap hg ht he hk hcell hfree I1 (st.mono p1 k1) S1 hfp (fun b hb => let ⟨o, ho, _⟩ := T.obj 0 _ tn0 b hb; ⟨o, ho⟩) tn0 (fun s3 H3 ex => TurnX.of (Y := cxC X (own ++ xs) scope cl s3 H3 ex) T hc) (fun D => ⟨D, by simp, srcJ_range⟩) e hQ
end
end FS

set_option Elab.async false
set_option linter.all false
set_option maxRecDepth 100000
set_option maxHeartbeats 4000000
namespace FS
open PySem PySem.Spec PySem.Calls PyProof.Rows PySem.W
section
variable {prog : Program} {w : World} {A : Around} {E : Value → Shared → Prop} {s : Shared} {K : Frag} {x C : Addr} {ox : Obj} {odo : Option Obj}
theorem bexc_kind : builtinKind "BaseException.__getattribute__" = some .slot := by decide +kernel
theorem bexc_split : splitId "BaseException.__getattribute__" = some ("BaseException", "__getattribute__") := by decide +kernel
/-- the check ahead of an exception's own look -/
theorem exc_check {nameV : Value} {Q : Unit → Shared → Prop} {M : Model} (X : K.In s.heap) (I : InstAt s.heap x ox C odo) (hm : mroIn K C (.type "BaseException") = some true) (hq : Q () s) :
    wpAny M A (checkBuiltinCall "BaseException.__getattribute__" ⟨[.ref x, nameV], []⟩) Q E s := by
  have L0 := I.type (M := M)
  have L1 := looks_mroIn (M := M) X hm
  have LI : Looks M s.heap (isInstance (.ref x) (.type "BaseException")) true := L0.andThen L1
  have ha := F.args_bexc_ga (.ref x) nameV
  simp only [checkBuiltinCall, bexc_kind, bexc_split]
  refine wpAny_bind (LI.at ?_)
  repeat (first | wp_step)
  exact hq
/-- an exception's attribute, by its own way -/
theorem exc_open {name : Str} {Q : Value → Shared → Prop} {fill : Bool} {nv : Value} (X : K.In s.heap) (I : InstAt s.heap x ox C odo) (hga : findIn K (.ref C) "__getattribute__" = some (some (.builtin "BaseException.__getattribute__"))) (hhk : findIn K (.ref C) "__getattr__" = some none)
    (hm : mroIn K C (.type "BaseException") = some true)
    (h : wpAny (model prog w) A.in1 (Builtin.«object.__getattribute__» ⟨[.ref x, nv], []⟩) (fun fin s' => ∃ v, fin = .done (.ret v) ∧ handedIn v = true ∧ Q v s') (fun _ _ => False) s) :
    wpAny (model prog w) A (getAttrBy (.ref x) nv fill) Q E s := by
  obtain ⟨hh, g, d, t, os⟩ := s
  have L0 := I.type (M := model prog w)
  have L1 := looks_findIn (M := model prog w) X hga
  have L2 := looks_findIn (M := model prog w) X hhk
  unfold getAttrBy
  refine wpAny_holding (wpAny_bind (L0.at (wpAny_bind (L1.at ?_))))
  show wpAny _ _ (getAttrByItsOwn _ _ _ _ _ _) _ _ _
  unfold getAttrByItsOwn hookBefore
  refine wpAny_bind (L2.at (wpAny_bind (wpAny_attempt (wpAny_holding ?_))))
  show wpAny _ _ (boundAndCalled _ _ _) _ _ _
  unfold boundAndCalled
  rw [PySem.F.attrBase_ValueError.ga.bind (.ref x)]
  refine wpAny_bind (wpAny_pure ?_)
  refine wpAny_call (codeAny_call_builtin PySem.F.attrBase_ValueError.ga.plain F.entry_bexc_ga (exc_check X I hm ?_))
  refine wpAny_mono h (fun fin s' q => ?_) fun _ _ z => z.elim
  obtain ⟨v, rfl, hv, q⟩ := q
  exact handed_on hv q
/-- its class, as an attribute -/
theorem exc_class {Q : Option Value → Shared → Prop} (X : K.In s.heap) (I : InstAt s.heap x ox C odo) (hga : findIn K (.ref C) "__getattribute__" = some (some (.builtin "BaseException.__getattribute__"))) (hhk : findIn K (.ref C) "__getattr__" = some none)
    (hm : mroIn K C (.type "BaseException") = some true) (hcl : (clsIn K C).isSome = true) (ha : findIn K (.ref C) "__class__" = some (some (.builtin "object.__class__"))) (hn : specialIn K (.builtin "object.__class__") "__get__" = some (some (.builtin "getset_descriptor.__get__"))) (htk : takesIn K (.builtin "object.__class__") = some true)
    (hmo : mroIn K C (.type "object") = some true) (hq : Q (some (.ref C)) { s with toks := s.toks + 1 }) : wpAny (model prog w) A (getAttr? (.ref x) "__class__") Q E s := by
  obtain ⟨cd, hcd⟩ := Option.isSome_iff_exists.mp hcl
  have hf : findObj K C odo "__class__" = some (.bind (.builtin "getset_descriptor.__get__") (.builtin "object.__class__")) := by
    unfold findObj
    rw [hcd]
    simp only [Option.bind_some, ha, hn, htk]
  obtain ⟨hh, g, d, t, os⟩ := s
  unfold getAttr? getAttrBy?
  refine wpAny_bind (wpAny_mkText (wpAny_bind (wpAny_attempt (exc_open (name := "__class__") X I hga hhk hm ?_))))
  have L0 := I.type (M := model prog w)
  have L1 := looks_find (M := model prog w) X I hf
  unfold Builtin.«object.__getattribute__»
  refine wpAny_bind (wpAny_pure ?_)
  refine wpAny_bind (wpAny_pure ?_)
  refine wpAny_bind (L0.at (wpAny_bind (L1.at ?_)))
  show wpAny _ _ (Builtin.ObjectAttr.bindTo _ _ _ _) _ _ _
  unfold Builtin.ObjectAttr.bindTo
  dsimp only
  refine wpAny_bind (wpAny_holding (wpAny_call (class_get (s := ⟨hh, g, d, t + 1, os⟩) X I hmo ?_)))
  exact wpAny_pure ⟨_, rfl, rfl, wpAny_pure hq⟩
end
end FS

set_option Elab.async false
set_option linter.all false
set_option maxRecDepth 100000
set_option maxHeartbeats 4000000
namespace FS
open PySem PySem.Spec PyProof.Rows L2 FX
/-! ### isinstance -/
/-- what is asked of an own exception class -/
structure XCls (K : PySem.W.Frag) (C : Addr) : Prop where
  ga : PySem.W.findIn K (.ref C) "__getattribute__" = some (some (.builtin "BaseException.__getattribute__"))
  hk : PySem.W.findIn K (.ref C) "__getattr__" = some none
  be : PySem.W.mroIn K C (.type "BaseException") = some true
  cl : (PySem.W.clsIn K C).isSome = true
  ca : PySem.W.findIn K (.ref C) "__class__" = some (some (.builtin "object.__class__"))
  ob : PySem.W.mroIn K C (.type "object") = some true
  gt : PySem.W.specialIn K (.builtin "object.__class__") "__get__" = some (some (.builtin "getset_descriptor.__get__"))
  tk : PySem.W.takesIn K (.builtin "object.__class__") = some true
def IsExcAt (C x : Addr) (h : Heap) : Prop := ∃ ox odo, PySem.W.InstAt h x ox C odo
theorem kitx_exc {K : PySem.W.Frag} {C x : Addr} (c : XCls K C) : PySem.W.KitX K (.ref x) (.ref C) (IsExcAt C x) where
  ty := fun _ _ _ ⟨_, _, I⟩ => I.type
  it := fun M h X _ => by
    obtain ⟨cd, hcd⟩ := Option.isSome_iff_exists.mp c.cl
    unfold PySem.W.clsIn at hcd
    split at hcd
    · rename_i c' d' cd' sl' ho
      intro A' Q' E' s' k q
      unfold isType loadHead
      exact wpAny_bind (wpAny_loadPart (k _ _ (X _ _ ho)) (wpAny_pure q))
    · cases hcd
  ne := fun h tp dd its n sl X htp => by
    obtain ⟨cd, hcd⟩ := Option.isSome_iff_exists.mp c.cl
    refine Bool.eq_false_iff.mpr fun q => ?_
    have e : C = tp := Value.ref.inj (beq_iff_eq.mp q)
    subst e
    unfold PySem.W.clsIn at hcd
    split at hcd
    · rename_i c' d' cd' sl' ho
      have z := (X _ _ ho).symm.trans htp
      cases z
    · cases hcd
  ca := fun X ⟨_, _, I⟩ k => exc_class X I c.ga c.hk c.be c.cl c.ca c.gt c.tk c.ob k
/-- the type of a value -/
def tyP (h : VH) : PV → Option Value
  | .non => some (.type "NoneType")
  | .bl _ => some (.type "bool")
  | .int _ => some (.type "int")
  | .str _ => some (.type "str")
  | .tup _ => some (.type "tuple")
  | .ref i => match h[i]? with
    | some (.lst _) => some (.type "list")
    | some (.scr _) => some (.type "list")
    | some (.dct _) => some (.type "dict")
    | _ => none
  | .exc C _ _ => some (.ref C)
  | _ => none
def clP : PV → Option Value
  | .ty n => some (.type n)
  | .adr a => some (.ref a)
  | _ => none
abbrev ITab := List (Value × Value × Bool)
def gIsi (tab : ITab) : FF := fun xs h => match xs with
  | [x, c] => match tyP h x, clP c with
    | some t, some cv => match tab.find? (fun r => r.1 == t && r.2.1 == cv) with
      | some r => .ok (.bl r.2.2) h
      | none => .bad
    | _, _ => .bad
  | _ => .bad
def TabK (K : PySem.W.Frag) (tab : ITab) : Prop := ∀ r ∈ tab, PySem.W.kitOne K r.1 r.2.1 = some r.2.2 ∧ ∀ C, r.1 = .ref C → XCls K C
section
variable {tb : Tb} {X : Cx} {pos p : Pos} {a b c e : Expr} {es : List Expr} {fa fb fc : FE} {fs : FA} {x : Str}
theorem exc_inst {ρ : List Addr} {H : Hp} {C : Addr} {ns : List Str} {xs : List PV} {v : V} {P : Program} {w : World} {h : Heap} (r : Rep ρ H (.exc C ns xs) v) (ok : HOk P w H h) : ∃ x, v = .ref x ∧ IsExcAt C x h := by
  obtain ⟨x, dO, rfl, hx, hd⟩ := r
  obtain ⟨⟨oe, fs, g, c, d, da, _, _⟩, _⟩ := ok x _ hx
  refine ⟨x, rfl, ?_⟩
  rcases hd with ⟨rfl, _, _⟩ | ⟨dx, vs, rfl, hd, _, _⟩
  · refine ⟨oe, none, g, c, ?_, ?_⟩
    · unfold PySem.W.notCls; rw [da]
    · rw [d]; trivial
  · obtain ⟨_, ⟨od, _, _, e, _⟩, _⟩ := ok dx _ hd
    refine ⟨oe, some od, g, c, ?_, ?_⟩
    · unfold PySem.W.notCls; rw [da]
    · rw [d]; exact e
theorem call_isiF {tab : ITab} (ht : TabK X.K tab) : CallR X (.builtin "isinstance") (rcOf tb X (gIsi tab)) := fun pins s σ H xs us Q I rs ⟨σ', ρ, vh, ys, hd, S, r, p⟩ => by
  match ys, r, p with
  | [], _, p => exact p.elim
  | [_], _, p => exact p.elim
  | _ :: _ :: _ :: _, _, p => exact p.elim
  | [y, z], r, p =>
    obtain ⟨v1, ws1, rfl, r1, v2, ws2, rfl, r2, hn⟩ := r
    cases (show ws2 = [] from hn)
    obtain ⟨u1, u2, rfl, ru1, ru2⟩ := rs.two
    simp only [gIsi] at p
    cases et : tyP vh y with
    | none => rw [et] at p; exact p.elim
    | some t =>
      cases ec : clP z with
      | none => rw [et, ec] at p; exact p.elim
      | some cv =>
        rw [et, ec] at p
        dsimp only at p
        cases ef : tab.find? (fun r => r.1 == t && r.2.1 == cv) with
        | none => rw [ef] at p; exact p.elim
        | some rr =>
          rw [ef] at p
          have hm := List.mem_of_find?_eq_some ef
          have hp := List.find?_some ef
          rw [Bool.and_eq_true] at hp
          have e1 : rr.1 = t := beq_iff_eq.mp hp.1
          have e2 : rr.2.1 = cv := beq_iff_eq.mp hp.2
          obtain ⟨k1, k2⟩ := ht rr hm
          rw [e1, e2] at k1
          have ecv : u2 = cv := by
            cases z <;> first | (cases ec; cases r2; exact ru2) | cases ec
          subst ecv
          have fin : ∀ tk, EP X pins σ Q (.bool rr.2.2) { s with toks := tk } := fun tk => ⟨.bl rr.2.2, H, I.tok _, rfl, Post.here p S rfl⟩
          cases y with
          | non => cases et; cases r1; exact isinst_ok I ru1 .non k1 fin
          | bl k => cases et; cases r1; exact isinst_ok I ru1 (.bl k) k1 fin
          | int k => cases et; cases r1; exact isinst_ok I ru1 (.int k) k1 fin
          | str k => cases et; cases r1; exact isinst_ok I ru1 (.str k) k1 fin
          | tup ks => cases et; obtain ⟨a1, vs, rfl, h1, q1⟩ := r1; exact isinst_ok I ru1 (.tup h1) k1 fin
          | ref i =>
            obtain ⟨a1, h1, rfl⟩ := r1
            obtain ⟨o, ho, oo⟩ := S.at h1
            simp only [tyP, ho] at et
            cases o with
            | lst l => cases et; obtain ⟨vs, hv, _⟩ := oo; exact isinst_ok I ru1 (.lst hv) k1 fin
            | scr l => cases et; obtain ⟨ob, hv⟩ := oo; exact isinst_ok I ru1 (.frz hv) k1 fin
            | dct l =>
              cases et
              rcases oo with ⟨l', hv, _⟩ | ⟨l', hv, _⟩
              · exact isinst_ok I ru1 (.dK hv) k1 fin
              · exact isinst_ok I ru1 (.dT hv) k1 fin
            | ins _ _ => cases et
          | exc C ns zs =>
            cases et
            obtain ⟨x, rfl, ix⟩ := exc_inst r1 I.hok
            cases (show u1 = Value.ref x from ru1)
            exact PySem.W.kia_one (kitx_exc (k2 C e1)) I.kIn ix k1 (fun z => nomatch z) fin
          | adr _ => cases et
          | ty _ => cases et
theorem e_isi {tab : ITab} (ht : TabK X.K tab) (hg : Gl X "isinstance") (hm : X.mg "isinstance" = none) (ha : AOk tb X (e :: es) fs)
    (he : starEach (e :: es) X.env = (false, eval e X.env) :: starEach es X.env := by rfl) (hpl : (backTo pos (starEach es X.env)).any (·.1) = false := by rfl) : EOk tb X (.Call (.Name "isinstance" p) (e :: es) [] pos) (fCB (gIsi tab) fs) :=
  e_callB (call_isiF ht) (cb_of _) hg hm (by first | rfl | decide +kernel) ha (by decide) (by decide) he hpl
/-! ### chains -/
theorem e_chain {op op' : CmpOp} {r r' : R2} {g g' : G2} (ho : OpR X (compareOp op) r) (h : Op2 tb X r g) (ho' : OpR X (compareOp op') r') (h' : Op2 tb X r' g') (ha : EOk tb X a fa) (hb : EOk tb X b fb) (hc : EOk tb X c fc)
    (hm : lastMarks [op, op'] [b, c] = false := by with_unfolding_all rfl) : EOk tb X (.Compare a [op, op'] [b, c] pos) (fChain g g' fa fb fc) :=
  PE.mono (pe_chain ho ho' ha hb hc hm) fun σ H Q ⟨ρ, vh, τ, st, S, p⟩ =>
    ⟨ρ, vh, τ, st, S, seqEE p fun vh1 ρ1 H1 v1 w1 p1 k1 S1 r1 q1 => ⟨ρ1, vh1, τ, st.mono p1 k1, S1, seqEE q1 fun vh2 ρ2 H2 v2 w2 p2 k2 S2 r2 q2 =>
      h σ ρ2 vh2 H2 v1 v2 w1 w2 _ S2 (r1.mono p2 k2) r2 (seqEE q2 fun vh3 ρ3 H3 v3 w3 p3 k3 S3 r3 q3 => by
        cases v3 with
        | bl k =>
          refine ⟨k, r3, ?_⟩
          cases k with
          | true => exact iteT ⟨ρ3, vh3, τ, ((st.mono p1 k1).mono p2 k2).mono p3 k3, S3, seqEE q3 fun vh4 ρ4 H4 v4 w4 p4 k4 S4 r4 q4 => h' σ ρ4 vh4 H4 v2 v4 w2 w4 Q S4 ((r2.mono p3 k3).mono p4 k4) r4 q4⟩
          | false => exact iteF (Post.here q3 S3 rfl)
        | _ => exact q3.elim)⟩⟩
/-! ### in -/
def inP (x : PV) (xs : List PV) : Bool := xs.any fun y => feq y x
abbrev GTup := List (Addr × List PV)
def gIn (gt : GTup) : G2 := fun x y => match y with
  | .str j => match x with
    | .str i => M.ret (.bl (!(Builtin.Str.occurrences j i 0 j.length 1).isEmpty))
    | _ => M.bad
  | .tup ys => if fl x && ys.all fl then M.ret (.bl (inP x ys)) else M.bad
  | .ref l => fun h => match lsOf h l with
    | some ys => if fl x && ys.all fl then .ok (.bl (inP x ys)) h else .bad
    | none => .bad
  | .adr a => match gt.lookup a with
    | some ys => if fl x && ys.all fl then M.ret (.bl (inP x ys)) else M.bad
    | none => M.bad
  | _ => M.bad
/-- a tuple of the module's top -/
def GtOk (K : PySem.W.Frag) (gt : GTup) : Prop := ∀ a xs, gt.lookup a = some xs → ∃ vs, (∀ H, SqT K H a vs) ∧ ∀ ρ H, Reps ρ H xs vs
theorem inV_P {ρ : List Addr} {H : Hp} {x : PV} {v : V} (r : Rep ρ H x v) (f : fl x = true) : ∀ {xs : List PV} {vs : List V}, Reps ρ H xs vs → xs.all fl = true → vs.all flatV = true ∧ inV v vs = inP x xs
  | [], _, h, _ => by rw [show _ = [] from h]; exact ⟨rfl, rfl⟩
  | y :: ys, _, h, g => by
    obtain ⟨w, ws, rfl, r1, r2⟩ := h
    rw [List.all_cons, Bool.and_eq_true] at g
    obtain ⟨h1, h2⟩ := inV_P r f r2 g.2
    refine ⟨by rw [List.all_cons, fl_V r1 g.1, h1]; rfl, ?_⟩
    unfold inV inP at *
    rw [List.any_cons, List.any_cons, feq_V r1 r g.1 f, h2]
theorem in_fin {σ : St} {ρ : List Addr} {vh : VH} {H : Hp} {x : PV} {ys : List PV} {v : V} {vs : List V} {a : Addr} {Q : VK} (S : Sim tb ρ vh H) (r : Rep ρ H x v) (rs : Reps ρ H ys vs) (hq : SqL X.K H a vs ∨ SqT X.K H a vs)
    (p : Post tb X σ ρ H ((if (fl x && ys.all fl) = true then M.ret (.bl (inP x ys)) else M.bad) vh) Q) : rIn X.K false v (.ref a) H Q := by
  by_cases hf : (fl x && ys.all fl) = true
  · rw [if_pos hf] at p
    rw [Bool.and_eq_true] at hf
    obtain ⟨h1, h2⟩ := inV_P r hf.1 rs hf.2
    refine ⟨a, vs, rfl, hq, fl_V r hf.1, h1, ?_⟩
    rw [h2]
    exact Post.here p S rfl
  · rw [if_neg hf] at p; exact p.elim
theorem op_inF {gt : GTup} (hgt : GtOk X.K gt) : OpR X (compareOp .In) (rOf tb X (gIn gt)) := fun pins s σ H x y v u Q I rx ry ⟨σ', ρ, vh, v1, v2, S, r1, r2, p⟩ => by
  cases v2 with
  | str j => cases v1 with
    | str i => exact op_in_str pins s σ H x y v u Q I rx ry ⟨i, j, r1, r2, Post.here p S rfl⟩
    | _ => exact p.elim
  | tup ys =>
    obtain ⟨a1, vs, rfl, h1, q1⟩ := r2
    exact op_in_seq pins s σ H x _ v u Q I rx ry (in_fin S r1 q1 (.inr (SqT.of h1)) p)
  | ref l =>
    obtain ⟨a1, h1, rfl⟩ := r2
    simp only [gIn] at p
    cases ql : lsOf vh l with
    | none => rw [ql] at p; exact p.elim
    | some ys =>
      rw [ql] at p
      obtain ⟨vs, rr, rd⟩ := ls_rd S ql h1
      refine op_in_seq pins s σ H x _ v u Q I rx ry (in_fin (σ := σ') (vh := vh) S r1 rr (.inl (.inl rd)) ?_)
      dsimp only at p
      by_cases hf : (fl v1 && ys.all fl) = true
      · rw [if_pos hf] at p ⊢; exact p
      · rw [if_neg hf] at p; exact p.elim
  | adr a =>
    cases (show y = .ref a from r2)
    simp only [gIn] at p
    cases ql : gt.lookup a with
    | none => rw [ql] at p; exact p.elim
    | some ys =>
      rw [ql] at p
      obtain ⟨vs, h1, h2⟩ := hgt a ys ql
      exact op_in_seq pins s σ H x _ v u Q I rx ry (in_fin S r1 (h2 ρ H) (.inr (h1 H)) p)
  | _ => exact p.elim
theorem e_in {gt : GTup} (hgt : GtOk X.K gt) (ha : EOk tb X a fa) (hb : EOk tb X b fb) (hm : behindInMarks .In b = false := by rfl) : EOk tb X (.Compare a [.In] [b] pos) (fOp (gIn gt) fa fb) := e_cmp (op_inF hgt) (o_of _) ha hb hm
end
end FS

set_option Elab.async false
set_option linter.all false
set_option maxRecDepth 100000
set_option maxHeartbeats 4000000
namespace FS
open PySem PySem.Spec PyProof.Rows L2 FX
section
variable {tb : Tb} {X : Cx} {pos p p2 apos cpos : Pos} {a b c e o : Expr} {es : List Expr} {fa fb fc fe fo : FE} {fs : FA} {x : Str}
/-! ### slices -/
def strCut (x : Str) (lo hi : Option Int) : Str := if ((Builtin.Str.strSliceIndices lo hi 1 x.length).length == x.length) = true then x else ⟨((Builtin.Str.strSliceIndices lo hi 1 x.length).filterMap (x.cps[·]?)).toArray⟩
def cutP (xs : List PV) (lo hi : Option Int) : List PV := (xs.drop (HT.sIx xs.length 0 lo)).take (HT.sIx xs.length xs.length hi - HT.sIx xs.length 0 lo)
def gCut (x : PV) (lo hi : Option Int) : M PV := match x with
  | .str z => if (strCut z lo hi).length ≤ big then M.ret (.str (strCut z lo hi)) else M.bad
  | .tup xs => if HT.sIx xs.length 0 lo = 0 ∧ HT.sIx xs.length xs.length hi = xs.length then M.bad else M.ret (.tup (cutP xs lo hi))
  | .ref l => fun h => match lsOf h l with
    | some xs => alloc (.lst (cutP xs lo hi)) h
    | none => .bad
  | _ => M.bad
def rCut (tb : Tb) (X : Cx) : V → Option Int → Option Int → Hp → VK → Prop := fun w lo hi H Q => ∃ σ ρ vh v, Sim tb ρ vh H ∧ Rep ρ H v w ∧ Post tb X σ ρ H (gCut v lo hi vh) Q
theorem Reps.drop {ρ : List Addr} {H : Hp} : ∀ {xs : List PV} {vs : List V} (n : Nat), Reps ρ H xs vs → Reps ρ H (xs.drop n) (vs.drop n)
  | [], _, _, h => by rw [show _ = [] from h]; simp [Reps]
  | _ :: _, _, 0, h => h
  | _ :: _, _, n + 1, h => by obtain ⟨v, ws, rfl, _, t⟩ := h; exact Reps.drop n t
theorem Reps.take {ρ : List Addr} {H : Hp} : ∀ {xs : List PV} {vs : List V} (n : Nat), Reps ρ H xs vs → Reps ρ H (xs.take n) (vs.take n)
  | [], _, _, h => by rw [show _ = [] from h]; simp [Reps]
  | _ :: _, _, 0, h => by simp [Reps]
  | _ :: _, _, n + 1, h => by obtain ⟨v, ws, rfl, r, t⟩ := h; exact ⟨v, _, rfl, r, Reps.take n t⟩
theorem Reps.cut {ρ : List Addr} {H : Hp} {xs : List PV} {vs : List V} (lo hi : Option Int) (h : Reps ρ H xs vs) : Reps ρ H (cutP xs lo hi) (cutV vs lo hi) := by
  unfold cutP cutV
  rw [h.length]
  exact (h.drop _).take _
theorem part_tok {v : Value} {i : Option Int} (h : IsPart v i) : ∃ l : Option (Int × Tok), v = partValue l ∧ l.map (·.1) = i := by
  cases h with
  | none => exact ⟨none, rfl, rfl⟩
  | int i t => exact ⟨some (i, t), rfl, rfl⟩
theorem sl_F : SlR X (rCut tb X) := fun pins s σ H x v vl vu lo hi sl Q I rx hs pl pu ⟨σ', ρ, vh, w, S, r, p⟩ => by
  cases w with
  | str z =>
    cases (show x = .str z from r)
    obtain ⟨t, rfl⟩ := (show ∃ t, v = Value.str z t from rx)
    simp only [gCut] at p
    by_cases hz : (strCut z lo hi).length ≤ big
    · rw [if_pos hz] at p
      refine ⟨"str", _, F.slot_str_getitem.lookup, typeIs_str _ _ _, ?_⟩
      obtain ⟨l, rfl, rfl⟩ := part_tok pl
      obtain ⟨u, rfl, rfl⟩ := part_tok pu
      refine wpAny_getItem_str_slice (l := l) (u := u) (st := none) hs rfl ?_
      have q := Post.here p S (w := .str _) rfl
      unfold sliceMade slicePicked
      unfold strCut at q hz
      simp only [Option.map_none, Option.getD_none, show ((1 : Int) == 1) = true from rfl, Bool.true_and]
      by_cases hw : ((Builtin.Str.strSliceIndices (l.map (·.1)) (u.map (·.1)) 1 z.length).length == z.length) = true
      · rw [if_pos hw] at q ⊢
        exact ⟨.str z, H, I, ⟨t, rfl⟩, q⟩
      · rw [if_neg hw] at q hz ⊢
        exact ⟨Nat.le_trans hz big_le, .str _, H, I.tok _, ⟨_, rfl⟩, q⟩
    · rw [if_neg hz] at p; exact p.elim
  | tup xs =>
    obtain ⟨a1, vs, rfl, h1, q1⟩ := r
    simp only [gCut] at p
    by_cases hz : HT.sIx xs.length 0 lo = 0 ∧ HT.sIx xs.length xs.length hi = xs.length
    · rw [if_pos hz] at p; exact p.elim
    · rw [if_neg hz] at p
      exact sl_tup pins s σ H _ v vl vu lo hi sl Q I rx hs pl pu ⟨a1, vs, rfl, SqT.of h1, by rw [q1.length]; exact hz, fun p' hp => Post.tup p S (q1.cut lo hi) hp⟩
  | ref l =>
    obtain ⟨a1, h1, rfl⟩ := r
    simp only [gCut] at p
    cases ql : lsOf vh l with
    | none => rw [ql] at p; exact p.elim
    | some xs =>
      rw [ql] at p
      obtain ⟨vs, rr, rd⟩ := ls_rd S ql h1
      exact sl_list pins s σ H _ v vl vu lo hi sl Q I rx hs pl pu ⟨a1, vs, rfl, .inl rd, fun p' hp => Post.lst p S (rr.cut lo hi) hp⟩
  | _ => exact p.elim
abbrev FO := Tau → M (Option Int)
def PostO (tb : Tb) (X : Cx) (σ : St) (ρ : List Addr) (H : Hp) (o : Out (Option Int)) (Q : Option Int → Hp → Prop) : Prop :=
  match o with
  | .ok b vh => ∀ ρ' H', ρ <+: ρ' → Keep H H' → Sim tb ρ' vh H' → Q b H'
  | .exc x vh => ∀ ev s, XPost tb X σ ρ H x vh ev s → X.xe ev s
  | .bad => False
def OOk (tb : Tb) (X : Cx) (e : Option Expr) (f : FO) : Prop := PO X e fun σ H Q => ∃ ρ vh τ, StRel X.A.handled ρ H τ σ ∧ Sim tb ρ vh H ∧ PostO tb X σ ρ H (f τ vh) Q
def oNone : FO := fun _ => M.ret none
def oSome (fe : FE) : FO := fun τ => M.bind (fe τ) fun v => match v with
  | .int i => M.ret (some i)
  | _ => M.bad
theorem o_none : OOk tb X none oNone := fun pins s σ H Q I ⟨ρ, vh, τ, st, S, p⟩ => po_none pins s σ H Q I (p ρ H List.prefix_rfl Keep.refl S)
theorem o_some (he : EOk tb X e fe) : OOk tb X (some e) (oSome fe) := fun pins s σ H Q I ⟨ρ, vh, τ, st, S, p⟩ => by
  refine po_some he pins s σ H Q I ⟨ρ, vh, τ, st, S, ?_⟩
  unfold oSome M.bind at p
  cases ee : fe τ vh with
  | ok v vh1 =>
    rw [ee] at p
    intro ρ1 H1 w p1 k1 S1 r1
    cases v with
    | int i => exact ⟨i, r1, p ρ1 H1 p1 k1 S1⟩
    | _ => exact p.elim
  | exc _ _ => rw [ee] at p; exact p
  | bad => rw [ee] at p; exact p
def fSl (fe : FE) (flo fhi : FO) : FE := fun τ => M.bind (fe τ) fun x => M.bind (flo τ) fun lo => M.bind (fhi τ) fun hi => gCut x lo hi
theorem seqOE {σ : St} {ρ : List Addr} {H : Hp} {vh : VH} {m : M (Option Int)} {k : Option Int → M PV} {Q : VK} {R : Option Int → Hp → Prop} (p : Post tb X σ ρ H (M.bind m k vh) Q)
    (hR : ∀ vh' ρ' H' v, ρ <+: ρ' → Keep H H' → Sim tb ρ' vh' H' → Post tb X σ ρ' H' (k v vh') Q → R v H') : PostO tb X σ ρ H (m vh) R := by
  unfold M.bind at p
  cases e : m vh with
  | ok v vh1 =>
    rw [e] at p
    exact fun ρ' H' p1 k1 S1 => hR vh1 ρ' H' v p1 k1 S1 (Post.fwd p1 k1 p)
  | exc x vh1 => rw [e] at p; exact p
  | bad => rw [e] at p; exact p
theorem e_slice {lo hi : Option Expr} {flo fhi : FO} (he : EOk tb X e fe) (hl : OOk tb X lo flo) (hh : OOk tb X hi fhi) : EOk tb X (.Subscript e (.Slice lo hi none p2) pos) (fSl fe flo fhi) :=
  PE.mono (pe_slice sl_F he hl hh) fun σ H Q ⟨ρ, vh, τ, st, S, p⟩ => ⟨ρ, vh, τ, st, S, seqEE p fun vh1 ρ1 H1 v1 w1 p1 k1 S1 r1 q1 => ⟨ρ1, vh1, τ, st.mono p1 k1, S1, seqOE q1 fun vh2 ρ2 H2 l p2 k2 S2 q2 => ⟨ρ2, vh2, τ, (st.mono p1 k1).mono p2 k2, S2, seqOE q2 fun vh3 ρ3 H3 h p3 k3 S3 q3 =>
    ⟨σ, ρ3, vh3, v1, S3, (r1.mono p2 k2).mono p3 k3, q3⟩⟩⟩⟩
/-! ### methods of texts and lists -/
abbrev GM := PV → List PV → M PV
def isStr : PV → Bool | .str _ => true | _ => false
def fBMs (g : GM) (fo : FE) (fs : FA) : FE := fun τ => M.bind (fo τ) fun x => match isStr x with
  | true => M.bind (fs τ) fun xs => g x xs
  | false => M.bad
def rmOf (tb : Tb) (X : Cx) (g : GM) : V → List V → Hp → VK → Prop := fun w ws H Q => ∃ σ ρ vh v vs, Sim tb ρ vh H ∧ Rep ρ H v w ∧ Reps ρ H vs ws ∧ Post tb X σ ρ H (g v vs vh) Q
theorem e_bms {name : Str} {id : String} {g : GM} (slot : Slot "str" name id) (hty : typeOf (.builtin id) = pure (.type "method_descriptor")) (hm : MtR X id (rmOf tb X g)) (ho : EOk tb X o fo) (ha : AOk tb X (e :: es) fs)
    (hbase : attributeBase o name X.env (eval o X.env) = eval o X.env := by rfl)
    (hfew : ((backTo cpos (starEach (e :: es) X.env)).all (fun x => !x.1) && (backToKw cpos (keywordEach [] X.env)).all (fun x => x.1.isSome)
      && decide ((e :: es).length + ([] : List Keyword).length + (if ([] : List Keyword).isEmpty then 0 else 1) < 30)) = true := by rfl)
    (hline : (apos.endLine == cpos.line) = true := by rfl) (hs : starEach (e :: es) X.env = (false, eval e X.env) :: starEach es X.env := by rfl) (hplain : (backTo cpos (starEach es X.env)).any (·.1) = false := by rfl) :
    EOk tb X (.Call (.Attribute o name apos) (e :: es) [] cpos) (fBMs g fo fs) :=
  PE.mono (pe_bm F.plainAttrs_str slot hty hm ho ha hbase hfew hline hs hplain) fun σ H Q ⟨ρ, vh, τ, st, S, p⟩ => ⟨ρ, vh, τ, st, S, seqEE p fun vh1 ρ1 H1 v1 w1 p1 k1 S1 r1 q1 => by
    cases v1 with
    | str z =>
      cases (show w1 = .str z from r1)
      exact ⟨rfl, ρ1, vh1, τ, st.mono p1 k1, S1, seqAE q1 fun vh2 ρ2 H2 vs ws p2 k2 S2 r2 q2 => ⟨σ, ρ2, vh2, .str z, vs, S2, rfl, r2, q2⟩⟩
    | _ => exact q1.elim⟩
def gSw : GM := fun x xs => match x, xs with
  | .str i, [.str j] => M.ret (.bl (decide (0 + j.length ≤ i.length) && Builtin.Str.subAt i j 0))
  | _, _ => M.bad
theorem mt_sw : MtR X "str.startswith" (rmOf tb X gSw) := fun pins s σ H x xs v us Q I rx rs ⟨σ', ρ, vh, y, ys, S, r, rr, p⟩ => by
  match y, ys, r, rr, p with
  | .str i, [.str j], r, rr, p =>
    cases (show x = .str i from r)
    obtain ⟨w, ws, rfl, r1, hn⟩ := rr
    cases (show ws = [] from hn)
    cases (show w = .str j from r1)
    obtain ⟨u, rfl, ru⟩ := rs.one
    obtain ⟨t, rfl⟩ := (show ∃ t, v = Value.str i t from rx)
    obtain ⟨t', rfl⟩ := (show ∃ t, u = Value.str j t from ru)
    exact call_gives F.slot_str_startswith (typeIs_str _ _ _) F.entry_str_startswith (F.args_str_startswith_2 _ _) (gives_str_startswith i j t t') ⟨.bl _, H, I, rfl, Post.here p S rfl⟩
def gPart : GM := fun x xs => match x, xs with
  | .str i, [.str j] => if j.length ≠ 0 ∧ i.length ≤ big then match Builtin.Str.occurrences i j 0 i.length 1 with
      | k :: _ => M.ret (.tup [.str (Builtin.Str.strSub i 0 k), .str j, .str (Builtin.Str.strSub i (k + j.length) i.length)])
      | [] => M.ret (.tup [.str i, .str Str.empty, .str Str.empty])
    else M.bad
  | _, _ => M.bad
theorem mt_part : MtR X "str.partition" (rmOf tb X gPart) := fun pins s σ H x xs v us Q I rx rs ⟨σ', ρ, vh, y, ys, S, r, rr, p⟩ => by
  match y, ys, r, rr, p with
  | .str i, [.str j], r, rr, p =>
    cases (show x = .str i from r)
    obtain ⟨w, ws, rfl, r1, hn⟩ := rr
    cases (show ws = [] from hn)
    cases (show w = .str j from r1)
    obtain ⟨u, rfl, ru⟩ := rs.one
    obtain ⟨t, rfl⟩ := (show ∃ t, v = Value.str i t from rx)
    obtain ⟨t', rfl⟩ := (show ∃ t, u = Value.str j t from ru)
    simp only [gPart] at p
    by_cases hz : j.length ≠ 0 ∧ i.length ≤ big
    · rw [if_pos hz] at p
      refine call_meets F.slot_str_partition (typeIs_str _ _ _) F.entry_str_partition (F.args_str_partition_2 _ _) (meets_str_partition i j t t' (by simpa using hz.1) (Nat.le_trans hz.2 big_le)) ?_
      have laid : ∀ (us : List Value) (vs : List V) (zs : List PV) (tk : Nat), vs.length ≤ sizeLine → Vals vs us → Reps ρ H zs vs → Post tb X σ' ρ H (M.ret (.tup zs) vh) Q →
          EP X pins σ Q (.ref s.heap.objs.size) { s with toks := tk, heap := s.heap.push { cls := .type "tuple", data := .seq us.toArray } } := fun us vs zs tk hl hv hr hp =>
        ⟨.ref s.heap.objs.size, _, I.laid (o := .tup vs) (fun b ob q => Heap.get?_push_of_some _ q) (Nat.le_refl _) ⟨hl, us, hv, IsTup.new _ _⟩, rfl, Post.tup hp S hr I.fresh⟩
      cases eo : Builtin.Str.occurrences i j 0 i.length 1 with
      | nil =>
        rw [eo] at p
        exact laid _ [.str i, .str Str.empty, .str Str.empty] [.str i, .str Str.empty, .str Str.empty] _ (by show 3 ≤ sizeLine; decide) (.cons ⟨_, rfl⟩ (.cons ⟨_, rfl⟩ (.cons ⟨_, rfl⟩ .nil))) ⟨_, _, rfl, rfl, _, _, rfl, rfl, _, _, rfl, rfl, rfl⟩ p
      | cons k r =>
        rw [eo] at p
        exact laid _ [.str (Builtin.Str.strSub i 0 k), .str j, .str (Builtin.Str.strSub i (k + j.length) i.length)] [.str (Builtin.Str.strSub i 0 k), .str j, .str (Builtin.Str.strSub i (k + j.length) i.length)] _ (by show 3 ≤ sizeLine; decide) (.cons ⟨_, rfl⟩ (.cons ⟨_, rfl⟩ (.cons ⟨_, rfl⟩ .nil))) ⟨_, _, rfl, rfl, _, _, rfl, rfl, _, _, rfl, rfl, rfl⟩ p
    · rw [if_neg hz] at p; exact p.elim
def fBMl (g : Nat → List PV → M PV) (fo : FE) (fs : FA) : FE := fun τ => M.bind (fo τ) fun x => match x with
  | .ref l => fun h => match lsOf h l with
    | some _ => M.bind (fs τ) (fun xs => g l xs) h
    | none => .bad
  | _ => M.bad
def rmL (tb : Tb) (X : Cx) (g : Nat → List PV → M PV) : V → List V → Hp → VK → Prop := fun w ws H Q => ∃ σ ρ vh l a vs, Sim tb ρ vh H ∧ ρ[l]? = some a ∧ w = .ref a ∧ Reps ρ H vs ws ∧ Post tb X σ ρ H (g l vs vh) Q
theorem e_bml {name : Str} {id : String} {g : Nat → List PV → M PV} (slot : Slot "list" name id) (hty : typeOf (.builtin id) = pure (.type "method_descriptor")) (hm : MtR X id (rmL tb X g)) (ho : EOk tb X o fo) (ha : AOk tb X (e :: es) fs)
    (hbase : attributeBase o name X.env (eval o X.env) = eval o X.env := by rfl)
    (hfew : ((backTo cpos (starEach (e :: es) X.env)).all (fun x => !x.1) && (backToKw cpos (keywordEach [] X.env)).all (fun x => x.1.isSome)
      && decide ((e :: es).length + ([] : List Keyword).length + (if ([] : List Keyword).isEmpty then 0 else 1) < 30)) = true := by rfl)
    (hline : (apos.endLine == cpos.line) = true := by rfl) (hs : starEach (e :: es) X.env = (false, eval e X.env) :: starEach es X.env := by rfl) (hplain : (backTo cpos (starEach es X.env)).any (·.1) = false := by rfl) :
    EOk tb X (.Call (.Attribute o name apos) (e :: es) [] cpos) (fBMl g fo fs) :=
  PE.mono (pe_bm F.plainAttrs_list slot hty hm ho ha hbase hfew hline hs hplain) fun σ H Q ⟨ρ, vh, τ, st, S, p⟩ => ⟨ρ, vh, τ, st, S, seqEE p fun vh1 ρ1 H1 v1 w1 p1 k1 S1 r1 q1 => by
    cases v1 with
    | ref l =>
      obtain ⟨a1, h1, rfl⟩ := r1
      dsimp only at q1
      cases ql : lsOf vh1 l with
      | none => rw [ql] at q1; exact q1.elim
      | some ys =>
        rw [ql] at q1
        obtain ⟨vs, rr, rd⟩ := ls_rd S1 ql h1
        exact ⟨.inl ⟨rfl, vs, .inl rd⟩, ρ1, vh1, τ, st.mono p1 k1, S1, seqAE q1 fun vh2 ρ2 H2 vs ws p2 k2 S2 r2 q2 => ⟨σ, ρ2, vh2, l, a1, vs, S2, pre_get p2 h1, rfl, r2, q2⟩⟩
    | _ => exact q1.elim⟩
def gApp : Nat → List PV → M PV := fun l xs h => match xs with
  | [v] => match h[l]? with
    | some (.lst ys) => if ys.length < big then .ok .non (h.set l (.lst (ys ++ [v]))) else .bad
    | _ => .bad
  | _ => .bad
theorem mt_appF : MtR X "list.append" (rmL tb X gApp) := fun pins s σ H x xs v us Q I rx rs ⟨σ', ρ, vh, l, a, vs, S, la, e, rr, p⟩ => by
  match vs, rr, p with
  | [], _, p => exact p.elim
  | _ :: _ :: _, _, p => exact p.elim
  | [y], rr, p =>
    obtain ⟨w, ws, rfl, r1, hn⟩ := rr
    cases (show ws = [] from hn)
    simp only [gApp] at p
    cases eo : vh[l]? with
    | none => rw [eo] at p; exact p.elim
    | some ob =>
      rw [eo] at p
      cases ob with
      | lst ys =>
        dsimp only at p
        by_cases hz : ys.length < big
        · rw [if_pos hz] at p
          obtain ⟨us', hD, rvs⟩ := sim_lst S la eo
          have kD : Keep H (upd H a (.lst (us' ++ [w]))) := Keep.put' S (List.mem_of_getElem? la)
          refine mt_append pins s σ H x [w] v us Q I rx rs ⟨a, us', w, e, rfl, hD, by rw [rvs.length]; exact Nat.lt_of_lt_of_le hz big_le, ?_⟩
          exact p ρ _ .non List.prefix_rfl kD (S.set la ⟨_, upd_same, (Reps.append (ys := [y]) (ws := [w]) rvs ⟨w, [], rfl, r1, rfl⟩).mono List.prefix_rfl kD⟩) rfl
        · rw [if_neg hz] at p; exact p.elim
      | _ => exact p.elim
theorem e_append (ho : EOk tb X o fo) (ha : AOk tb X [e] fs)
    (hbase : attributeBase o "append" X.env (eval o X.env) = eval o X.env := by rfl)
    (hfew : ((backTo cpos (starEach [e] X.env)).all (fun x => !x.1) && (backToKw cpos (keywordEach [] X.env)).all (fun x => x.1.isSome)
      && decide ([e].length + ([] : List Keyword).length + (if ([] : List Keyword).isEmpty then 0 else 1) < 30)) = true := by rfl)
    (hline : (apos.endLine == cpos.line) = true := by rfl) (hs : starEach [e] X.env = (false, eval e X.env) :: starEach [] X.env := by rfl) (hplain : (backTo cpos (starEach [] X.env)).any (·.1) = false := by rfl) :
    EOk tb X (.Call (.Attribute o "append" apos) [e] [] cpos) (fBMl gApp fo fs) := e_bml PySem.F.slot_list_append PySem.F.type_list_append mt_appF ho ha hbase hfew hline hs hplain
end
end FS

set_option Elab.async false
set_option linter.all false
set_option maxRecDepth 100000
set_option maxHeartbeats 4000000
namespace FS
open PySem PySem.Spec PyProof.Rows L2 FX
section
variable {tb : Tb} {X : Cx} {pos p p2 apos cpos : Pos} {a b c e o : Expr} {es : List Expr} {fa fb fc fe fo fi : FE} {fs : FA} {x : Str}
/-! ### f-texts -/
def fStr (fe : FE) : FE := fun τ => M.bind (fe τ) fun v => match v with
  | .str z => if z.length ≤ big then M.ret (.str z) else M.bad
  | _ => M.bad
theorem e_fv (he : EOk tb X e fe) : EOk tb X (.FormattedValue e (-1) none pos) (fStr fe) := fun pins s σ H Q I ⟨ρ, vh, τ, st, S, p⟩ => by
  refine FormattedValue_plain (thn (he pins s σ H (fun w H1 => ∃ z, w = .str z ∧ z.length ≤ big ∧ Q w H1) I ⟨ρ, vh, τ, st, S, seqEE p fun vh1 ρ1 H1 v1 w1 p1 k1 S1 r1 q1 => ?_⟩) fun v s1 ⟨w, H1, I1, rv, z, hw, hz, q⟩ => ?_)
  · cases v1 with
    | str z =>
      dsimp only at q1
      by_cases hz : z.length ≤ big
      · rw [if_pos hz] at q1; exact ⟨z, r1, hz, Post.here q1 S1 r1⟩
      · rw [if_neg hz] at q1; exact q1.elim
    | _ => exact q1.elim
  · subst hw
    obtain ⟨t, rfl⟩ := (show ∃ t, v = Value.str z t from rv)
    exact formatField_str (fun t' tk => ⟨.str z, H1, I1.tok _, ⟨_, rfl⟩, q⟩) (Nat.le_trans hz big_le)
abbrev FJ := Tau → Str → M PV
def JOk (tb : Tb) (X : Cx) (es : List Expr) (fj : FJ) : Prop := ∀ (out : Str) (pins : List (Addr × Obj)) (s : Shared) (σ : St) (H : Hp) (Q : VK), Inv X pins σ H s → tOf tb X (fun τ => fj τ out) σ H Q →
  wpAny (model X.prog X.w) X.A (joinParts out (evalEach es X.env)) (EP X pins σ Q) X.xe s
def jNil : FJ := fun _ out => if out.length ≤ big then M.ret (.str out) else M.bad
def jCons (fe : FE) (fj : FJ) : FJ := fun τ out => M.bind (fe τ) fun v => match v with
  | .str y => if (out ++ y).length ≤ big then fj τ (out ++ y) else M.bad
  | _ => M.bad
theorem j_nil : JOk tb X [] jNil := fun out pins s σ H Q I ⟨ρ, vh, τ, st, S, p⟩ => by
  unfold jNil at p
  by_cases hz : out.length ≤ big
  · rw [if_pos hz] at p
    exact joinParts_nilE (joinParts_nil ⟨.str out, H, I.tok _, ⟨_, rfl⟩, Post.here p S rfl⟩ (Nat.le_trans hz big_le))
  · rw [if_neg hz] at p; exact p.elim
theorem j_cons {fj : FJ} (he : EOk tb X e fe) (hj : JOk tb X es fj) : JOk tb X (e :: es) (jCons fe fj) := fun out pins s σ H Q I ⟨ρ, vh, τ, st, S, p⟩ => by
  refine joinParts_consE (joinParts_cons (thn (he pins s σ H (fun w H1 => ∃ y, w = .str y ∧ (out ++ y).length ≤ big ∧ tOf tb X (fun τ => fj τ (out ++ y)) σ H1 Q) I ⟨ρ, vh, τ, st, S, seqEE p fun vh1 ρ1 H1 v1 w1 p1 k1 S1 r1 q1 => ?_⟩) fun v s1 ⟨w, H1, I1, rv, y, hw, hz, q⟩ => ?_))
  · cases v1 with
    | str y =>
      dsimp only at q1
      by_cases hz : (out ++ y).length ≤ big
      · rw [if_pos hz] at q1; exact ⟨y, r1, hz, ρ1, vh1, τ, st.mono p1 k1, S1, q1⟩
      · rw [if_neg hz] at q1; exact q1.elim
    | _ => exact q1.elim
  · subst hw
    obtain ⟨t, rfl⟩ := (show ∃ t, v = Value.str y t from rv)
    exact ⟨Nat.le_trans hz big_le, hj _ pins s1 σ H1 Q I1 q⟩
def fJoin (fj : FJ) : FE := fun τ => fj τ Str.empty
theorem e_join {v₁ v₂ : Expr} {rest : List Expr} {fj : FJ} (hj : JOk tb X (v₁ :: v₂ :: rest) fj) : EOk tb X (.JoinedStr (v₁ :: v₂ :: rest) pos) (fJoin fj) := fun pins s σ H Q I h => JoinedStr_many (hj _ pins s σ H Q I h)
/-! ### a list's item is stored -/
def gSetL (fo fi : FE) : FG := fun v τ h => match fo τ h with
  | .ok (.ref l) h1 => match fi τ h1 with
    | .ok (.int k) h2 => match h2[l]? with
      | some (.lst xs) => match ixN xs.length k with
        | some j => .next τ (h2.set l (.lst (xs.set j v)))
        | none => .bad
      | _ => .bad
    | _ => .bad
  | _ => .bad
theorem Reps.set {ρ : List Addr} {H : Hp} {x : PV} {v : V} (r : Rep ρ H x v) : ∀ {xs : List PV} {vs : List V} (n : Nat), Reps ρ H xs vs → Reps ρ H (xs.set n x) (vs.set n v)
  | [], _, _, h => by rw [show _ = [] from h]; simp [Reps]
  | _ :: _, _, 0, h => by obtain ⟨w, ws, rfl, _, t⟩ := h; exact ⟨v, ws, rfl, r, t⟩
  | _ :: _, _, n + 1, h => by obtain ⟨w, ws, rfl, q, t⟩ := h; exact ⟨w, _, rfl, q, Reps.set r n t⟩
theorem g_setL (ho : EOk tb X o fo) (hi : EOk tb X a fi) (ha : ∀ v, assign (.Subscript o a pos) X.env v = (do
      let ov ← holding [v] (eval o X.env)
      let iv ← holding [v, ov] (eval a X.env)
      standAt pos
      holding [v, ov, iv] (setItem ov iv v)
      release [v, ov, iv] []) := by intro _; rfl) : GOk tb X (.Subscript o a pos) (gSetL fo fi) :=
  PG.mono (pg_sub ho hi set_list ha) fun w σ H Q ⟨ρ, vh, τ, v, st, S, r, p⟩ => by
    refine ⟨ρ, vh, τ, st, S, ?_⟩
    unfold gSetL at p
    cases e1 : fo τ vh with
    | ok ov h1 =>
      rw [e1] at p
      cases ov with
      | ref l =>
        dsimp only at p
        intro ρ1 H1 ow p1 k1 S1 r1
        obtain ⟨a1, la, rfl⟩ := r1
        refine ⟨ρ1, h1, τ, st.mono p1 k1, S1, ?_⟩
        cases e2 : fi τ h1 with
        | ok iv h2 =>
          rw [e2] at p
          cases iv with
          | int k =>
            dsimp only at p
            intro ρ2 H2 iw p2 k2 S2 r2
            have la2 := pre_get p2 la
            cases e3 : h2[l]? with
            | none => rw [e3] at p; exact p.elim
            | some ob =>
              rw [e3] at p
              cases ob with
              | lst xs =>
                dsimp only at p
                obtain ⟨vs, hD, rvs⟩ := sim_lst S2 la2 e3
                cases e4 : ixN xs.length k with
                | none => rw [e4] at p; exact p.elim
                | some j =>
                  rw [e4] at p
                  have kD : Keep H2 (upd H2 a1 (.lst (vs.set j w))) := Keep.put' S2 (List.mem_of_getElem? la2)
                  refine ⟨a1, vs, k, j, rfl, r2, hD, by rw [rvs.length]; exact e4, ?_⟩
                  exact p ρ2 _ σ (p1.trans p2) (k1.trans (k2.trans kD)) (S2.set la2 ⟨_, upd_same, (Reps.set ((r.mono p1 k1).mono p2 k2) j rvs).mono List.prefix_rfl kD⟩) (((st.mono p1 k1).mono p2 k2).mono List.prefix_rfl kD)
              | _ => exact p.elim
          | _ => exact p.elim
        | exc _ _ => rw [e2] at p; exact p.elim
        | bad => rw [e2] at p; exact p.elim
      | _ => exact p.elim
    | exc _ _ => rw [e1] at p; exact p.elim
    | bad => rw [e1] at p; exact p.elim
/-! ### list.index -/
def gIdx : Nat → List PV → M PV := fun l xs h => match xs with
  | [v] => match lsOf h l with
    | some ys => if (fl v && ys.all fl && ys.any (fun y => feq y v)) && decide (ys.length ≤ big) then .ok (.int (ys.findIdx fun y => feq y v)) h else .bad
    | none => .bad
  | _ => .bad
theorem find_eqU {ρ : List Addr} {H : Hp} {x : PV} {v : V} (r : Rep ρ H x v) (f : fl x = true) : ∀ {xs : List PV} {vs : List V} {us : List Value}, Reps ρ H xs vs → Vals vs us → xs.all fl = true → us.findIdx (eqU v) = xs.findIdx (fun y => feq y x)
  | [], _, _, h, q, _ => by rw [show _ = [] from h] at q; rw [q.zero]; rfl
  | y :: ys, _, us, h, q, g => by
    obtain ⟨w, ws, rfl, r1, r2⟩ := h
    rw [List.all_cons, Bool.and_eq_true] at g
    cases q with
    | cons rq tq =>
      rw [List.findIdx_cons, List.findIdx_cons, find_eqU r f r2 tq g.2, eqU_of rq (fl_V r1 g.1), feq_V r1 r g.1 f]
theorem mt_idxF : MtR X "list.index" (rmL tb X gIdx) := fun pins s σ H x xs v us Q I rx rs ⟨σ', ρ, vh, l, a, vs, S, la, e, rr, p⟩ => by
  match vs, rr, p with
  | [], _, p => exact p.elim
  | _ :: _ :: _, _, p => exact p.elim
  | [y], rr, p =>
    obtain ⟨w, ws, rfl, r1, hn⟩ := rr
    cases (show ws = [] from hn)
    subst e
    cases (show v = Value.ref a from rx)
    obtain ⟨u, rfl, ru⟩ := rs.one
    simp only [gIdx] at p
    cases eo : lsOf vh l with
    | none => rw [eo] at p; exact p.elim
    | some ys =>
      rw [eo] at p
      dsimp only at p
      by_cases hz : ((fl y && ys.all fl && ys.any (fun z => feq z y)) && decide (ys.length ≤ big)) = true
      · rw [if_pos hz] at p
        simp only [Bool.and_eq_true, decide_eq_true_eq] at hz
        obtain ⟨⟨⟨h1, h2⟩, h3⟩, h4⟩ := hz
        obtain ⟨vs, rv, rd⟩ := ls_rd S eo la
        obtain ⟨its, rvs, ⟨ob, nn, ho, hc, hdd, hdt⟩, hl⟩ := I.list (.inl rd)
        have hi : its.findIdx (eqU w) = ys.findIdx (fun z => feq z y) := find_eqU r1 h1 rv rvs h2
        have hlen : its.length = ys.length := by rw [← rvs.length, rv.length]
        have hlt : ys.findIdx (fun z => feq z y) < ys.length := by
          rw [List.findIdx_lt_length]
          obtain ⟨z, hz, hq⟩ := List.any_eq_true.mp h3
          exact ⟨z, hz, hq⟩
        have hsz : its.findIdx (eqU w) < its.toArray.size := by rw [List.size_toArray, hi, hlen]; exact hlt
        obtain ⟨oc, od, oda, osl⟩ := ob
        dsimp only at hc hdd hdt
        subst hc hdt
        refine call_meets F.slot_list_index ⟨_, ho, rfl⟩ F.entry_list_index (F.args_list_index_2 _ _) (SeqAt.list_indexAt a its.toArray nn od osl u (eqU w) (its.findIdx (eqU w)) hsz ?_ ?_ ?_) ⟨ho, ?_, ?_⟩
        · have hbl : big = 1000000 := rfl
          rw [hi]; have := Nat.lt_of_lt_of_le hlt h4; omega
        · have := List.findIdx_getElem (xs := its) (p := eqU w) (w := by simpa using hsz)
          simpa using this
        · intro m hm hmj
          have := List.not_of_lt_findIdx (xs := its) (p := eqU w) (i := m) hmj
          simpa using this
        · intro z hz
          have fz : vs.all flatV = true := (inV_P r1 h1 rv h2).1
          exact mem_eqAt ru (fl_V r1 h1) rvs fz z (by simpa using hz)
        · rw [hi]
          exact ⟨.int _, H, I.tok _, ⟨_, rfl⟩, Post.here p S rfl⟩
      · rw [if_neg hz] at p; exact p.elim
theorem e_index (ho : EOk tb X o fo) (ha : AOk tb X [e] fs)
    (hbase : attributeBase o "index" X.env (eval o X.env) = eval o X.env := by rfl)
    (hfew : ((backTo cpos (starEach [e] X.env)).all (fun x => !x.1) && (backToKw cpos (keywordEach [] X.env)).all (fun x => x.1.isSome)
      && decide ([e].length + ([] : List Keyword).length + (if ([] : List Keyword).isEmpty then 0 else 1) < 30)) = true := by rfl)
    (hline : (apos.endLine == cpos.line) = true := by rfl) (hs : starEach [e] X.env = (false, eval e X.env) :: starEach [] X.env := by rfl) (hplain : (backTo cpos (starEach [] X.env)).any (·.1) = false := by rfl) :
    EOk tb X (.Call (.Attribute o "index" apos) [e] [] cpos) (fBMl gIdx fo fs) := e_bml PySem.F.slot_list_index PySem.F.type_list_index mt_idxF ho ha hbase hfew hline hs hplain
end
end FS

set_option Elab.async false
set_option linter.all false
set_option maxRecDepth 100000
set_option maxHeartbeats 4000000
namespace FS
open PySem PySem.Spec PyProof.Rows L2 FX
/-! ### a list walked by a built-in function, whatever is handled -/
def hxs (A : Around) : List Addr := match A.handled with
  | some (.ref e) => [e]
  | _ => []
theorem Calm.at {A : Around} {h h' : Heap} (c : Calm A h) (k : ∀ b ∈ hxs A, ∀ o, h.get? b = some o → h'.get? b = some o) : Calm A h' := by
  rcases c with c | ⟨v, hv, a, o, fs, rfl, g, d, z⟩
  · exact .inl c
  · refine .inr ⟨_, hv, a, o, fs, rfl, k a ?_ o g, d, z⟩
    unfold hxs; rw [hv]; simp
theorem walks_list {prog : Program} {w : World} {A : Around} (I ax : Addr) (hne : ax ≠ I) (hnh : ∀ v, A.handled = some v → v ≠ .ref I) (items : Array Value) :
    Walks prog w A I (I :: ax :: hxs A) [I] items.size (fun i v => items[i]? = some v) (fun i h => h.IsListIter I ax i ∧ h.IsList ax items ∧ Calm A h) where
  sub := fun b hb => by simp at hb; simp [hb]
  frame := fun _ _ _ st hk => ⟨st.1.at fun o e => hk I (by simp) o e, st.2.1.at fun o e => hk ax (by simp) o e, Calm.at st.2.2 fun b hb o e => hk b (by simp [hb]) o e⟩
  item := fun i s Q E hi st hQ => by
    refine wpAny_pyNext_list_item st.1 st.2.1 (x := items[i]) (by simp [hi]) fun h' hit' hs' => ?_
    refine hQ _ h' s.toks (by simp [hi]) ⟨hit', st.2.1.extBut hs'.extBut hne, Calm.at st.2.2 fun b hb o e => hs'.extBut b o (fun z => ?_) e⟩ fun b o hb e => hs'.extBut b o (fun h => hb (by simp [h])) e
    unfold hxs at hb
    split at hb
    · rename_i e' he
      have : b = e' := by simpa using hb
      exact hnh _ he (by rw [← this, z])
    · simp at hb
  done := fun s Q E st hQ => next_list_end st.2.2 st.1 st.2.1 (by simp) hnh fun h' he' => hQ h' s.toks fun b o hb e => he' b o (fun h => hb (by simp [h])) e
  self := fun _ _ _ _ st hQ => wpAny_pyIter_listiter st.1 hQ
section
variable {tb : Tb} {X : Cx} {pos p : Pos} {e : Expr} {es : List Expr} {fs : FA}
/-- what a walk over a list leaves -/
theorem walk_list {pins : List (Addr × Obj)} {s : Shared} {σ : St} {H : Hp} {ρ : List Addr} {vh : VH} {l : Nat} {a : Addr} {ys : List PV} (I : Inv X pins σ H s) (hd : Hd X.A.handled H) (S : Sim tb ρ vh H) (la : ρ[l]? = some a) (el : lsOf vh l = some ys) {Q : Value → Shared → Prop} {E : Value → Shared → Prop}
    (h : ∀ (vs : List V) (its : List Value), Reps ρ H ys vs → Vals vs its → Walks X.prog X.w X.A.in1 s.heap.objs.size (s.heap.objs.size :: a :: hxs X.A.in1) [s.heap.objs.size] its.toArray.size (fun i v => its.toArray[i]? = some v) (fun i h => h.IsListIter s.heap.objs.size a i ∧ h.IsList a its.toArray ∧ Calm X.A.in1 h) →
      (∀ b ∈ s.heap.objs.size :: a :: hxs X.A.in1, b < (s.heap.push { cls := .type "list_iterator", data := .fields #[.ref a, .int 0 0] }).objs.size) →
      (∀ h' tk, (∀ b o, b ∉ [s.heap.objs.size] → (s.heap.push { cls := .type "list_iterator", data := .fields #[.ref a, .int 0 0] }).get? b = some o → h'.get? b = some o) → Inv X pins σ H { s with heap := h', toks := tk }) →
      (fun i h => h.IsListIter s.heap.objs.size a i ∧ h.IsList a its.toArray ∧ Calm X.A.in1 h) 0 (s.heap.push { cls := .type "list_iterator", data := .fields #[.ref a, .int 0 0] }) → Q (.ref s.heap.objs.size) { s with heap := s.heap.push { cls := .type "list_iterator", data := .fields #[.ref a, .int 0 0] } }) :
    wpAny (model X.prog X.w) X.A.in1 (pyIter (.ref a)) Q E s := by
  obtain ⟨vs, rr, rd⟩ := ls_rd S el la
  obtain ⟨its, rv, pl, hz⟩ := I.list (.inl rd)
  have hL := pl.isList
  have ha : a < s.heap.objs.size := by obtain ⟨o, ho, _⟩ := id hL; exact Heap.lt_size ho
  have hcalm : Calm X.A.in1 s.heap := hd_calm (A := X.A.in1) hd I.hok
  have hnh : ∀ v, X.A.in1.handled = some v → v ≠ .ref s.heap.objs.size := fun v hv z => by
    rcases hcalm with c | ⟨v', hv', b, o, fs, rfl, g, _, _⟩
    · rw [c] at hv; cases hv
    · rw [hv'] at hv; cases hv; cases z; exact absurd (Heap.lt_size g) (Nat.lt_irrefl _)
  refine wpAny_pyIter_list hL (h vs its rr rv (walks_list _ a (Nat.ne_of_lt ha) hnh its.toArray) (fun b hb => ?_) (fun h' tk kp => I.kept fun b o q => kp b o (fun z => ?_) (Heap.get?_push_of_some _ q)) ⟨⟨_, Heap.get?_push_size _ rfl, rfl, rfl⟩, ?_, hcalm.keeps fun b o q => Heap.get?_push_of_some _ q⟩)
  · have hs : (s.heap.push { cls := .type "list_iterator", data := .fields #[.ref a, .int 0 0] }).objs.size = s.heap.objs.size + 1 := by simp [Heap.push]
    rw [hs]
    rcases List.mem_cons.mp hb with rfl | hb
    · exact Nat.lt_succ_self _
    · rcases List.mem_cons.mp hb with rfl | hb
      · exact Nat.lt_succ_of_lt ha
      · unfold hxs at hb
        split at hb
        · rename_i e' he
          have : b = e' := by simpa using hb
          subst this
          rcases hcalm with c | ⟨v', hv', b', o, fs, rfl, g, _, _⟩
          · rw [c] at he; cases he
          · rw [hv'] at he; cases he; exact Nat.lt_succ_of_lt (Heap.lt_size g)
        · simp at hb
  · have : b = s.heap.objs.size := by simpa using z
    subst this; exact absurd (Heap.lt_size q) (Nat.lt_irrefl _)
  · obtain ⟨o, ho, r⟩ := id hL
    exact ⟨o, Heap.get?_push_of_some _ ho, r⟩
def trP (xs : List PV) (i : Nat) : Bool := match xs[i]? with
  | some (.bl b) => b
  | _ => false
def isBl : PV → Bool | .bl _ => true | _ => false
def isInt : PV → Bool | .int _ => true | _ => false
def valP (xs : List PV) (i : Nat) : Int := match xs[i]? with
  | some (.int k) => k
  | _ => 0
def gAll : FF := fun xs h => match xs with
  | [.ref l] => match lsOf h l with
    | some ys => if ys.all isBl then .ok (.bl ((List.range ys.length).all (trP ys))) h else .bad
    | none => .bad
  | _ => .bad
def gSum : FF := fun xs h => match xs with
  | [.ref l] => match lsOf h l with
    | some ys => if ys.all isInt then .ok (.int (preSum (valP ys) ys.length)) h else .bad
    | none => .bad
  | _ => .bad
theorem item_of {ρ : List Addr} {H : Hp} {ys : List PV} {vs : List V} {its : List Value} {i : Nat} {v : Value} (rr : Reps ρ H ys vs) (rv : Vals vs its) (h : its.toArray[i]? = some v) : ∃ y w, ys[i]? = some y ∧ Rep ρ H y w ∧ RelV w v := by
  have hi : i < its.length := by
    have := (Array.getElem?_eq_some_iff.mp h).1; simpa using this
  have hl : its.length = ys.length := by rw [← rv.length, rr.length]
  have hy : ys[i]? = some ys[i] := List.getElem?_eq_getElem (by omega)
  obtain ⟨w, hw, r⟩ := rr.get hy
  obtain ⟨u, hu, ru⟩ := rv.get hw
  have : its[i]? = some v := by simpa using h
  rw [this] at hu; cases hu
  exact ⟨_, w, hy, r, ru⟩
theorem call_allF : CallR X (.builtin "all") (rcOf tb X gAll) := fun pins s σ H xs us Q I rs ⟨σ', ρ, vh, ys, hd, S, r, p⟩ => by
  match ys, r, p with
  | [], _, p => exact p.elim
  | y :: _ :: _, _, p => cases y <;> exact p.elim
  | [y], r, p =>
    obtain ⟨w, ws, rfl, r1, hn⟩ := r
    cases (show ws = [] from hn)
    obtain ⟨u, rfl, ru⟩ := rs.one
    cases y with
    | ref l =>
      obtain ⟨a, la, rfl⟩ := r1
      cases (show u = Value.ref a from ru)
      simp only [gAll] at p
      cases el : lsOf vh l with
      | none => rw [el] at p; exact p.elim
      | some ys =>
        rw [el] at p
        dsimp only at p
        by_cases hz : ys.all isBl = true
        · rw [if_pos hz] at p
          refine call_all_walk (walk_list I hd S la el fun vs its rr rv W hfp hI hst => ⟨_, _, _, _, _, _, trP ys, rfl, W, hst, fun i v s' Q' E' hv hq => ?_, fun h' tk hk => ?_⟩)
          · obtain ⟨y, w, hy, ry, rw'⟩ := item_of rr rv hv
            have hb := List.all_eq_true.mp hz y (List.mem_of_getElem? hy)
            cases y with
            | bl k =>
              cases ry; cases rw'
              have : trP ys i = k := by unfold trP; rw [hy]
              rw [this] at hq
              exact wpAny_truthy_bool hq
            | _ => exact absurd hb Bool.false_ne_true
          · refine ⟨.bl _, H, hI h' tk hk, rfl, ?_⟩
            have : its.toArray.size = ys.length := by rw [List.size_toArray, ← rv.length, rr.length]
            rw [this]
            exact Post.here p S rfl
        · rw [if_neg hz] at p; exact p.elim
    | _ => exact p.elim
theorem call_sumF : CallR X (.builtin "sum") (rcOf tb X gSum) := fun pins s σ H xs us Q I rs ⟨σ', ρ, vh, ys, hd, S, r, p⟩ => by
  match ys, r, p with
  | [], _, p => exact p.elim
  | y :: _ :: _, _, p => cases y <;> exact p.elim
  | [y], r, p =>
    obtain ⟨w, ws, rfl, r1, hn⟩ := r
    cases (show ws = [] from hn)
    obtain ⟨u, rfl, ru⟩ := rs.one
    cases y with
    | ref l =>
      obtain ⟨a, la, rfl⟩ := r1
      cases (show u = Value.ref a from ru)
      simp only [gSum] at p
      cases el : lsOf vh l with
      | none => rw [el] at p; exact p.elim
      | some ys =>
        rw [el] at p
        dsimp only at p
        by_cases hz : ys.all isInt = true
        · rw [if_pos hz] at p
          refine call_sum_walkG (walk_list I hd S la el fun vs its rr rv W hfp hI hst => ⟨_, _, _, _, _, _, valP ys, rfl, W, hst, hfp, fun i v hv => ?_, fun h' tk t' hk => ?_⟩)
          · obtain ⟨y, w, hy, ry, rw'⟩ := item_of rr rv hv
            have hb := List.all_eq_true.mp hz y (List.mem_of_getElem? hy)
            cases y with
            | int k =>
              cases ry
              obtain ⟨t, rfl⟩ := (show ∃ t, v = Value.int k t from rw')
              exact ⟨t, by unfold valP; rw [hy]⟩
            | _ => exact absurd hb Bool.false_ne_true
          · refine ⟨.int _, H, hI h' tk hk, ⟨_, rfl⟩, ?_⟩
            have : its.toArray.size = ys.length := by rw [List.size_toArray, ← rv.length, rr.length]
            rw [this]
            exact Post.here p S rfl
        · rw [if_neg hz] at p; exact p.elim
    | _ => exact p.elim
theorem e_all (hg : Gl X "all") (hm : X.mg "all" = none) (ha : AOk tb X (e :: es) fs) (he : starEach (e :: es) X.env = (false, eval e X.env) :: starEach es X.env := by rfl) (hpl : (backTo pos (starEach es X.env)).any (·.1) = false := by rfl) :
    EOk tb X (.Call (.Name "all" p) (e :: es) [] pos) (fCB gAll fs) := e_callB call_allF (cb_of _) hg hm (by first | rfl | decide +kernel) ha (by decide) (by decide) he hpl
theorem e_sum (hg : Gl X "sum") (hm : X.mg "sum" = none) (ha : AOk tb X (e :: es) fs) (he : starEach (e :: es) X.env = (false, eval e X.env) :: starEach es X.env := by rfl) (hpl : (backTo pos (starEach es X.env)).any (·.1) = false := by rfl) :
    EOk tb X (.Call (.Name "sum" p) (e :: es) [] pos) (fCB gSum fs) := e_callB call_sumF (cb_of _) hg hm (by first | rfl | decide +kernel) ha (by decide) (by decide) he hpl
theorem e_len (hg : Gl X "len") (hm : X.mg "len" = none) (ha : AOk tb X (e :: es) fs) (he : starEach (e :: es) X.env = (false, eval e X.env) :: starEach es X.env := by rfl) (hpl : (backTo pos (starEach es X.env)).any (·.1) = false := by rfl) :
    EOk tb X (.Call (.Name "len" p) (e :: es) [] pos) (fCB gLen fs) := e_callB call_lenF (cb_of _) hg hm (by first | rfl | decide +kernel) ha (by decide) (by decide) he hpl
theorem e_max (hc : X.calm = true) (hg : Gl X "max") (hm : X.mg "max" = none) (ha : AOk tb X (e :: es) fs) (he : starEach (e :: es) X.env = (false, eval e X.env) :: starEach es X.env := by rfl) (hpl : (backTo pos (starEach es X.env)).any (·.1) = false := by rfl) :
    EOk tb X (.Call (.Name "max" p) (e :: es) [] pos) (fCB gMax fs) := e_callB (call_max2 hc) cb_max hg hm (by first | rfl | decide +kernel) ha (by decide) (by decide) he hpl
theorem e_min (hc : X.calm = true) (hg : Gl X "min") (hm : X.mg "min" = none) (ha : AOk tb X (e :: es) fs) (he : starEach (e :: es) X.env = (false, eval e X.env) :: starEach es X.env := by rfl) (hpl : (backTo pos (starEach es X.env)).any (·.1) = false := by rfl) :
    EOk tb X (.Call (.Name "min" p) (e :: es) [] pos) (fCB gMin fs) := e_callB (call_min2 hc) cb_min hg hm (by first | rfl | decide +kernel) ha (by decide) (by decide) he hpl
theorem e_list (hg : Gl X "list") (hm : X.mg "list" = none) (ha : AOk tb X (e :: es) fs) (he : starEach (e :: es) X.env = (false, eval e X.env) :: starEach es X.env := by rfl) (hpl : (backTo pos (starEach es X.env)).any (·.1) = false := by rfl) :
    EOk tb X (.Call (.Name "list" p) (e :: es) [] pos) (fCB gList fs) := e_callTy call_listF (cb_of _) hg hm (by first | rfl | decide +kernel) ha (by decide) (by decide) he hpl
theorem e_intC (hg : Gl X "int") (hm : X.mg "int" = none) (ha : AOk tb X (e :: es) fs) (he : starEach (e :: es) X.env = (false, eval e X.env) :: starEach es X.env := by rfl) (hpl : (backTo pos (starEach es X.env)).any (·.1) = false := by rfl) :
    EOk tb X (.Call (.Name "int" p) (e :: es) [] pos) (fCB gInt fs) := e_callTy call_int1 cb_int hg hm (by first | rfl | decide +kernel) ha (by decide) (by decide) he hpl
end
end FS

set_option Elab.async false
set_option linter.all false
set_option maxRecDepth 100000
set_option maxHeartbeats 4000000
namespace FS
open PySem PySem.Spec PyProof.Rows L2 FX
/-! ### raise of an own exception without a body of its own -/
abbrev bmV : List Value := [.type "ValueError", .type "Exception", .type "BaseException", .type "object"]
structure XAt (K : PySem.W.Frag) (C : Addr) : Type where
  bm : List Value
  N : Addr
  nm : Str
  q : Str
  bs : List Value
  hdct : Bool
  sn : List Str
  sub : List Value
  ab : Bool
  col : Option Bool
  dd : Option Addr
  k0 : Option Value
  k1 : Option Value
  k2 : Option Value
  k3 : Option Value
  k5 : Option Value
  get : K.lookup C = some (excClassObj nm q C N bs bm hdct sn sub ab col dd k0 k1 k2 k3 k5 "ValueError.__new__")
  ok : PySem.W.nsOkIn K N = true
  ini : PySem.W.nsIn K N "__init__" = some none
  tail : PySem.W.tailIn K bmV bm = true
theorem xat_of {K : PySem.W.Frag} {C : Addr} (q : PySem.W.excIn K C bmV "ValueError.__new__" = true) : Nonempty (XAt K C) := by
  unfold PySem.W.excIn at q
  split at q
  · rename_i dd cd sl ho
    split at q
    · rename_i C' bm k0 k1 k2 k3 n k5 hm hs
      simp only [Bool.and_eq_true, beq_iff_eq, Bool.not_eq_true'] at q
      obtain ⟨⟨⟨⟨⟨rfl, rfl⟩, hdel⟩, ht⟩, hok⟩, hni⟩ := q
      obtain ⟨nm, bs, mro, ns, qn, hd, sn, sub, ab, col, del⟩ := cd
      dsimp only at hm hdel hok hni
      subst hm hdel
      have hsl : sl = #[k0, k1, k2, k3, some (.builtin "ValueError.__new__"), k5] := by
        obtain ⟨l⟩ := sl
        simp only at hs
        rw [hs]
      subst hsl
      exact ⟨⟨bm, ns, nm, qn, bs, hd, sn, sub, ab, col, dd, k0, k1, k2, k3, k5, ho, hok, hni, ht⟩⟩
    · cases q
  · cases q
theorem ns_same {K : PySem.W.Frag} {N : Addr} {h h' : Heap} (ok : PySem.W.nsOkIn K N = true) (X : K.In h) (X' : K.In h') : h'.nsMap N = h.nsMap N := by
  unfold PySem.W.nsOkIn at ok
  split at ok
  · rename_i ho
    unfold Heap.nsMap
    rw [X _ _ ho, X' _ _ ho]
  · cases ok
theorem tail_has {h : Heap} {l : List Value} (T : OwnTail h bmV l) : l.contains (.type "BaseException") = true := T.hasType (by decide)
def sRaise (C : Addr) (fs : FA) : FSt := fun τ => M.then (fs τ) fun xs h => if xs.length ≤ big then .exc ⟨C, [], []⟩ h else .bad
section
variable {tb : Tb} {X : Cx} {pos np cpos : Pos} {e : Expr} {es : List Expr} {fs : FA} {x : Str} {C : Addr}
theorem unpin {pins : List (Addr × Obj)} {σ : St} {H : Hp} {s : Shared} (I : Inv X pins σ H s) : Inv X [] σ H s := I.pins_of fun _ h => absurd h (by simp)
/-- an exception just made -/
theorem exc_new {pins : List (Addr × Obj)} {σ : St} {H : Hp} {s : Shared} {ρ : List Addr} {vh : VH} {h' : Heap} {e : Addr} {us : List Value} (I : Inv X pins σ H s) (S : Sim tb ρ vh H) (m : Heap.MadeExcOf s.heap h' e (.ref C) us) : XPost tb X σ ρ H ⟨C, [], []⟩ vh (.ref e) { s with heap := h' } := by
  have nH : H e = none := by
    cases z : H e with
    | none => rfl
    | some u =>
      exfalso
      have ok := I.hok e u z
      have : ∃ o, s.heap.get? e = some o := by
        cases u with
        | lst xs => obtain ⟨_, _, _, _, e⟩ := ok; exact ⟨_, e⟩
        | tup xs => obtain ⟨_, _, _, o, e, _⟩ := ok; exact ⟨_, e⟩
        | dK kvs => obtain ⟨_, _, _, _, o, _, _, e, _⟩ := ok; exact ⟨_, e⟩
        | dT kvs => obtain ⟨_, _, _, _, o, _, _, e, _⟩ := ok; exact ⟨_, e⟩
        | set S n => obtain ⟨o, _, _, _, e, _⟩ := ok; exact ⟨_, e⟩
        | ins C dx fs => obtain ⟨_, _, _, e, _⟩ := ok; exact ⟨_, e⟩
        | own y => obtain ⟨_, e⟩ := ok; exact ⟨_, e⟩
        | xd fs => obtain ⟨_, ⟨_, _, _, e, _⟩, _⟩ := ok; exact ⟨_, e⟩
        | rng lo hi => obtain ⟨_, _, _, e⟩ := ok; exact ⟨_, e⟩
        | frz ob u => obtain ⟨e, _⟩ := ok; exact ⟨_, e⟩
        | tbl ps => exact ⟨_, ok⟩
        | met f y => exact ⟨_, ok⟩
        | ext φ => obtain ⟨_, ⟨_, e⟩, _⟩ := ok; exact ⟨_, e⟩
      obtain ⟨o, q⟩ := this
      rw [m.new] at q; cases q
  refine ⟨ρ, H, e, List.prefix_rfl, Keep.refl, unpin (I.kept (h' := h') (t' := s.toks) m.keeps), S, rfl, ⟨?_, nH, fun hx => ?_, fun q hq z => ?_, none, .inl ⟨rfl, rfl, rfl⟩, .inl ?_⟩⟩
  · cases z : X.base.get? e with
    | none => rfl
    | some o => have := I.bk e o z; rw [m.new] at this; cases this
  · cases z : X.s₀.heap.get? e with
    | none => rfl
    | some o => obtain ⟨o', q⟩ := I.base.there e o z (by rw [hx]; simp); rw [m.new] at q; cases q
  · have := (I.pin q (List.mem_append_left _ hq)).1
    rw [z, m.new] at this; cases this
  · obtain ⟨t, h1, _, _⟩ := m.there
    exact ⟨6, by decide, _, _, h1, ⟨rfl, rfl⟩, rfl, rfl, rfl, rfl⟩
theorem s_raise (hc : X.calm = true) (hx : PySem.W.excIn X.K C bmV "ValueError.__new__" = true) (hg : Gl X x) (hm : X.mg x = some (.ref C)) (ha : AOk tb X (e :: es) fs) (hdb : (x == ("__debug__" : Str)) = false := by decide)
    (he : starEach (e :: es) X.env = (false, eval e X.env) :: starEach es X.env := by rfl) (hpl : (backTo cpos (starEach (e :: es) X.env)).any (·.1) = false := by rfl) : SOk tb X (.Raise (some (.Call (.Name x np) (e :: es) [] cpos)) none pos) (sRaise C fs) := by
  intro pins s σ H D I ⟨ρ, vh, τ, st, S, p⟩
  obtain ⟨xa⟩ := xat_of hx
  have hA := ha cpos pins s σ H (fun ws H1 => ∃ ρ1 vh1, ws.length ≤ big ∧ Sim tb ρ1 vh1 H1 ∧ ∀ σ ev s', XPost tb X σ ρ1 H1 ⟨C, [], []⟩ vh1 ev s' → X.xe ev s') I ⟨ρ, vh, τ, st, S, seqAS (k := fun xs h => if xs.length ≤ big then .exc ⟨C, [], []⟩ h else .bad) p fun vh1 ρ1 H1 v1 w1 p1 k1 S1 r1 q1 => ?_⟩
  · refine wpAny_Raise_call_subT (nm := xa.nm) (q := xa.q) (N := xa.N) (bs := xa.bs) (hdct := xa.hdct) (sn := xa.sn) (sub := xa.sub) (ab := xa.ab) (col := xa.col) (dd := xa.dd) (k0 := xa.k0) (k1 := xa.k1) (k2 := xa.k2) (k3 := xa.k3) (k5 := xa.k5) (mN := s.heap.nsMap xa.N) PySem.F.excBase_ValueError (tail_has (PySem.W.tail_of_in I.kIn xa.tail)) (I.ok.hd hc) hpl (PySem.W.nsMap_none_of_in I.kIn xa.ok xa.ini) (ld_glob I hg hm ⟨rfl, ?_⟩ hdb)
    rw [he] at hA ⊢
    refine Calls.evalArgs_plain (thn hA fun us s1 ⟨vs, H1, I1, rv, ρ1, vh1, hl, S1, hX⟩ => ⟨rfl, ?_, ?_, ?_, ?_, fun h' e hm => hX σ _ _ (exc_new I1 S1 hm)⟩)
    · rw [← rv.length]; exact Nat.le_trans hl big_le
    · exact I1.kIn _ _ xa.get
    · rw [← ns_same xa.ok I.kIn I1.kIn]; exact .of_isNs (PySem.W.isNs_of_in I1.kIn xa.ok)
    · exact PySem.W.tail_of_in I1.kIn xa.tail
  · by_cases hz : v1.length ≤ big
    · rw [if_pos hz] at q1
      exact ⟨ρ1, vh1, by rw [r1.length]; exact hz, S1, q1⟩
    · rw [if_neg hz] at q1; exact q1.elim
end
end FS

set_option Elab.async false
set_option linter.all false
set_option maxRecDepth 100000
set_option maxHeartbeats 4000000
namespace FS
open PySem PySem.Spec PyProof.Rows L2 FX
/-! ### within an except suite -/
def Cx.hold (X : Cx) (A : Around) (xe : Value → Shared → Prop) : Cx := { X with A := A, calm := false, xe := xe }
theorem inv_hold {X : Cx} {A : Around} {xe : Value → Shared → Prop} {pins : List (Addr × Obj)} {σ : St} {H : Hp} {s : Shared} (hA : A.frames = X.A.frames) (I : Inv X pins σ H s) : Inv (Cx.hold X A xe) pins σ H s :=
  ⟨⟨I.ok.mod, I.ok.kind, I.ok.glob, I.ok.blt, I.ok.above, I.ok.inj, I.ok.has, I.ok.cab, fun z => absurd z Bool.false_ne_true, hA.trans I.ok.frames, I.ok.stk, I.ok.exf, I.ok.bs, I.ok.bsz, I.ok.noex, I.ok.exfs, I.ok.funs, I.ok.frf⟩,
    I.os, I.bare, I.base, I.loc, I.cell, I.free, I.freeC, I.pin, I.hok, I.len⟩
theorem inv_unhold {X : Cx} {A : Around} {xe : Value → Shared → Prop} {pins : List (Addr × Obj)} {σ : St} {H : Hp} {s : Shared} (ok : X.Ok) (I : Inv (Cx.hold X A xe) pins σ H s) : Inv X pins σ H s :=
  ⟨ok, I.os, I.bare, I.base, I.loc, I.cell, I.free, I.freeC, I.pin, I.hok, I.len⟩
/-- room for calls, whatever is handled -/
structure RoomW (k : Nat) (A : Around) : Prop where
  dp : A.depth + 3 * k + 5 < recursionLimit
  un : A.units + 16 * k + 200 < cLine
theorem RoomW.deeper {k : Nat} {A : Around} (r : RoomW (k + 1) A) (env : Env) : RoomW k (A.deeper env) :=
  ⟨by have := r.dp; show A.depth + 1 + 3 * k + 5 < _; omega, by have := r.un; show A.units + 3 + 16 * k + 200 < _; omega⟩
/-- a def that raises nothing, also called within an except suite -/
structure FnW (P : Program) (w : World) (K : PySem.W.Frag) (mg : Str → Option Value) (base : Heap) (tb : Tb) (k : Nat) (f : Addr) (fd : FuncData) (ps : List Str) (F : FF) : Prop where
  run : ∀ (A : Around) (outer : List Env) (s : Shared) (H : Hp) (args : Args) (us : List Value) (vs : List V) (Q : VK) (ρ : List Addr) (vh vh' : VH) (xs : List PV) (v : PV), RoomW k A → Hd A.handled H → Env0 P w K mg base A outer s H → BindsTo s fd args (ps.zip us) → Vals vs us →
    xs.length = ps.length → Reps ρ H xs vs → Sim tb ρ vh H → F xs vh = .ok v vh' → (∀ ρ' H' w, ρ <+: ρ' → Keep H H' → Sim tb ρ' vh' H' → Rep ρ' H' v w → Q w H') →
    codeAny (model P w) A (.call (.ref f) args) (fun r s' => match r with | .ok (.ret u) => CE outer P w H s Q u s' | _ => False) s
section
variable {tb : Tb} {P : Program} {w : World} {K : PySem.W.Frag} {mg : Str → Option Value} {base : Heap}
def cxW (P : Program) (w : World) (K : PySem.W.Frag) (mg : Str → Option Value) (base : Heap) (N : List Str) (qual : Str) (scope : Scope) (f : Addr) (cd : Value) (A : Around) (outer : List Env) (s : Shared) (H : Hp) : Cx :=
  Cx.hold (cxOf (fun _ _ _ _ _ _ => False) P w K mg base N qual scope f cd { A with handled := none } outer s H (fun _ _ _ => False)) (A.deeper (envOfC qual scope s.heap.objs.size f cd)) (fun _ _ => False)
theorem fn_W {k : Nat} {f : Addr} {name qual : Str} {params : Arguments} {body : List Stmt} {scope : Scope} {dV kV doc pm cdv ct oc : Value} {an od : Option Addr} {osl : Array (Option Value)} {N ps : List Str} {F : FF} {g : FSt}
    (lk : K.lookup f = some ⟨oc, od, .func (PySem.W.fnOf name qual params body scope dV kV doc pm an cdv ct), osl⟩) (hcd : PySem.W.codeIn K cdv qual = true) (S : FnScope N ps scope)
    (hbody : ∀ (A : Around) (outer : List Env) (s : Shared) (H : Hp), RoomW k (A.deeper (envOfC qual scope s.heap.objs.size f cdv)) → BOk tb (cxW P w K mg base N qual scope f cdv A outer s H) body g)
    (hF : ∀ xs vh, xs.length = ps.length → runB g (startT N xs) vh = F xs vh) : FnW P w K mg base tb (k + 1) f (PySem.W.fnOf name qual params body scope dV kV doc pm an cdv ct) ps F := by
  refine ⟨fun A outer s H args us vs Q ρ vh vh' xs v hr hd e0 hb r hl rr Sm hq hQ => ?_⟩
  have KX : K.In s.heap := e0.mod.kin.keeps fun b o e => (e0.bs b o e).1
  have lim : s.heap.NoLimit := e0.mod.nolimit.keeps fun b o e => (e0.bs b o e).1
  have hkind : ∀ y ∈ ps.zip us, scope.names.lookup y.1 = some .local ∨ (scope.names.lookup y.1 = some .cell ∧ ((cellsFrom (s.heap.objs.size + 1) scope.names []).lookup y.1).isSome = true) := fun ⟨n, v⟩ hy => by
    rcases S.par n (List.of_mem_zip hy).1 with q | q
    · exact .inl q
    · exact .inr ⟨q, PySem.W.cellsFrom_some _ _ _ (.inl q)⟩
  refine codeAny_call_function (by have := hr.dp; omega) (KX _ _ lk) rfl S.co S.gen rfl (PySem.W.codeRec_of KX hcd) (hb _ _ _ _ ?_)
  refine wpAny_newFunctionEnv_cells S.kind hkind fun env he s1 x => ?_
  subst he
  refine ⟨lim.keeps x.toInCall.keep, codeAny_func ?_⟩
  have e0' : Env0 P w K mg base { A with handled := none } outer s H := ⟨e0.frames, e0.mod, e0.bs, e0.bsz, e0.funs, e0.frf, e0.hok, e0.bare⟩
  have I0 : Inv (cxOf (fun _ _ _ _ _ _ => False) P w K mg base N qual scope f cdv { A with handled := none } outer s H (fun _ _ _ => False)) [] (L2.start N vs) H s1 := inv_start S rfl e0' (by rw [rr.length, hl]) r x
  have I : Inv (cxW P w K mg base N qual scope f cdv A outer s H) [] (L2.start N vs) H s1 := inv_hold rfl I0
  have e := hF xs vh hl
  rw [hq] at e
  unfold runB at e
  refine wpAny_mono (hbody A outer s H (hr.deeper _) [] s1 (L2.start N vs) H { nx := fun _ H' => Q .non H', rt := Q } I ⟨ρ, vh, startT N xs, start_rel hd rr, Sm, ?_⟩) (fun fl s' hs => ?_) fun e s' hs => hs.elim
  · cases eg : g (startT N xs) vh with
    | next τ vh1 => rw [eg] at e; cases e; exact fun ρ' H' σ' p1 k1 S1 _ => hQ ρ' H' .non p1 k1 S1 rfl
    | ret v vh1 => rw [eg] at e; cases e; exact hQ
    | brk _ _ => rw [eg] at e; cases e
    | cont _ _ => rw [eg] at e; cases e
    | exc _ _ => rw [eg] at e; cases e
    | bad => rw [eg] at e; cases e
  · have fin : ∀ {σ' : St} {H' : Hp} {v : V} {u : Value}, Inv (cxW P w K mg base N qual scope f cdv A outer s H) [] σ' H' s' → RelV v u → Q v H' → CE outer P w H s Q u s' :=
      fun {σ' H' v u} J rv q => ⟨v, H', J.os, J.bare, J.base, J.hok, rv, q⟩
    cases fl with
    | ret u =>
      obtain ⟨v, σ', H', J, rv, q⟩ := hs
      exact fin J rv q
    | next =>
      obtain ⟨σ', H', J, q⟩ := hs
      exact fin (v := V.non) (u := Value.none) J rfl q
    | brk =>
      obtain ⟨_, _, _, q⟩ := hs
      exact False.elim q
    | cont =>
      obtain ⟨_, _, _, q⟩ := hs
      exact False.elim q
end
section
variable {tb : Tb} {X : Cx} {pos p : Pos} {x : Str} {e : Expr} {es : List Expr} {fs : FA} {k : Nat} {f : Addr} {fd : FuncData} {ps : List Str} {F : FF}
def fCallW (F : FF) (n : Nat) (fs : FA) : FE := fun τ => M.bind (fs τ) fun xs h => if xs.length = n then match F xs h with
    | .ok v h' => .ok v h'
    | _ => .bad
  else .bad
theorem e_callW (Fn : FnW X.prog X.w X.K X.mg X.base tb k f fd ps F) (hr : RoomW k X.A) (hg : Gl X x) (hm : X.mg x = some (.ref f)) (hk : PySem.W.keepIn X.K (.ref f) = true) (hb : Binds X.K fd ps [])
    (ha : AOk tb X (e :: es) fs) (hdb : (x == ("__debug__" : Str)) = false := by decide) (he : starEach (e :: es) X.env = (false, eval e X.env) :: starEach es X.env := by rfl) (hpl : (backTo pos (starEach es X.env)).any (·.1) = false := by rfl) :
    EOk tb X (.Call (.Name x p) (e :: es) [] pos) (fCallW F ps.length fs) := by
  intro pins s σ H Q I ⟨ρ, vh, τ, st, S, p⟩
  refine wpAny_Call_Name_kw (ld_glob I hg hm ?_ hdb)
  refine PySem.W.callWith_K (h₀ := X.base) I.ok.mod.kin hk (thn (ha pos pins s σ H (fun ws H1 => Hd X.A.handled H1 ∧ ∃ ρ1 vh1 xs, xs.length = ps.length ∧ Sim tb ρ1 vh1 H1 ∧ Reps ρ1 H1 xs ws ∧ ∃ v vh2, F xs vh1 = .ok v vh2 ∧ Post tb X σ ρ1 H1 (.ok v vh2) Q) I ⟨ρ, vh, τ, st, S, seqAE p fun vh1 ρ1 H1 v1 w1 p1 k1 S1 r1 q1 => ?_⟩) fun us s1 ⟨vs, H1, I1, r, q⟩ => ⟨I1.kIn, ?_⟩) he hpl
  · refine ⟨st.hd.mono k1, ?_⟩
    by_cases hl : v1.length = ps.length
    · rw [if_pos hl] at q1
      cases ef : F v1 vh1 with
      | ok v vh2 => rw [ef] at q1; exact ⟨ρ1, vh1, v1, hl, S1, r1, v, vh2, ef, q1⟩
      | exc _ _ => rw [ef] at q1; exact q1.elim
      | bad => rw [ef] at q1; exact q1.elim
    · rw [if_neg hl] at q1; exact q1.elim
  · obtain ⟨hd, ρ1, vh1, xs, hl, S1, r1, v, vh2, ef, q1⟩ := q
    have hz : (us ++ []).length = ps.length := by rw [List.append_nil, ← r.length, r1.length, hl]
    have hbb := hb s1 us I1.kIn hz
    rw [List.append_nil] at hbb
    refine wpAny_call (codeAny_mono (Fn.run X.A X.stack s1 H1 _ us vs Q ρ1 vh1 vh2 xs v hr hd I1.env0 hbb r hl r1 S1 ef q1) fun res s' hq => ?_)
    cases res with
    | ok fl =>
      cases fl with
      | ret u => exact I1.after hq
      | next => exact False.elim hq
      | brk => exact False.elim hq
      | cont => exact False.elim hq
    | error ev => exact False.elim hq
end
end FS

set_option Elab.async false
set_option linter.all false
set_option maxRecDepth 100000
set_option maxHeartbeats 4000000
namespace FS
open PySem PySem.Spec PyProof.Rows L2 FX
section
variable {tb : Tb} {X : Cx} {σ : St} {H : Hp} {s : Shared}
/-- the frames' slots and some untracked records have changed -/
theorem inv_moved {h' : Heap} {ch : List Addr} (I : Inv X [] σ H s) (hex : X.ex = []) (hstk : X.stack = X.env :: X.outer ∧ X.env.frame = some X.env.locals) (hfn : ∀ x, X.fn x = true)
    (hch : ∀ b ∈ ch, H b = none ∧ X.s₀.heap.get? b = none ∧ (∀ p ∈ X.pn, p.1 ≠ b) ∧ ∃ o fs, s.heap.get? b = some o ∧ o.data = .fields fs)
    (keep : ∀ b o, b ∉ ch → b ∉ frs X.stack → s.heap.get? b = some o → h'.get? b = some o)
    (slot : ∀ b o, b ∉ ch → s.heap.get? b = some o → ∃ sl, h'.get? b = some { o with slots := sl })
    (there : ∀ b o, s.heap.get? b = some o → ∃ o', h'.get? b = some o') : Inv X [] σ H { s with heap := h' } := by
  have frm : ∀ b, b ∈ frs X.stack → b = X.env.locals ∨ b ∈ X.fs := fun b hb => by
    rcases List.mem_cons.mp (I.stkSub b hb) with z | z
    · exact .inl z
    · exact .inr z
  have nl : X.env.locals ∉ ch := fun z => by
    obtain ⟨_, _, _, o, fs, g, d⟩ := hch _ z
    obtain ⟨m, ⟨o', es, ep, g', d', _⟩, _⟩ := I.loc
    rw [g] at g'; cases g'; rw [d] at d'; cases d'
  have fsOut : X.fs ⊆ frs X.stack := fun b hb => by rw [hstk.1]; unfold frs; rw [List.filterMap_cons, hstk.2]; exact List.mem_cons_of_mem _ hb
  have locIn : X.env.locals ∈ frs X.stack := by rw [hstk.1]; unfold frs; rw [List.filterMap_cons, hstk.2]; exact List.mem_cons_self
  have cellOut : ∀ x c, X.env.cells.lookup x = some c → ∀ v, s.heap.IsCell c v → h'.IsCell c v := fun x c e v hv => by
    obtain ⟨o, g, d⟩ := hv
    refine ⟨o, keep c o (fun z => ?_) (fun z => ?_) g, d⟩
    · obtain ⟨_, _, _, o', fs, g', d'⟩ := hch _ z
      rw [g] at g'; cases g'; rw [d] at d'; cases d'
    · rcases frm c z with z | z
      · obtain ⟨m, ⟨o', es, ep, g', d', _⟩, _⟩ := I.loc
        rw [← z, g] at g'; cases g'; rw [d] at d'; cases d'
      · obtain ⟨_, o', ho, hn⟩ := I.stack.mem (fsOut z)
        have := I.ok.cab x c (hfn x) e
        obtain ⟨_, o2, ho2, _⟩ := I.ok.funs.mem z
        exact absurd (Nat.lt_of_lt_of_le (Heap.lt_size ho2) this) (Nat.lt_irrefl _)
  refine ⟨I.ok, I.os, I.bare, ⟨fun b o q hn hb hx => ?_, fun b o q hn hb hx => ?_, I.base.free, fun b o q hx => ?_, I.base.tups, I.base.frzs, I.base.tbls⟩, ?_, fun x c e => ?_, I.free, I.freeC, fun p hp => ?_, HOk.tracked I.hok fun c u v hc q => keep c v (fun z => by rw [(hch c z).1] at hc; cases hc) (fun z => by rw [I.stkFree c z] at hc; cases hc) q, I.len⟩
  · refine keep b o (fun z => by rw [(hch b z).2.1] at q; cases q) (fun z => ?_) (I.base.keep b o q hn hb hx)
    rcases frm b z with z | z
    · exact absurd (Nat.lt_of_lt_of_le (Heap.lt_size q) (by rw [z]; exact I.ok.above)) (Nat.lt_irrefl _)
    · exact hb z
  · obtain ⟨sl, q1⟩ := I.base.slot b o q hn hb hx
    obtain ⟨sl2, q2⟩ := slot b _ (fun z => by rw [(hch b z).2.1] at q; cases q) q1
    exact ⟨sl2, q2⟩
  · obtain ⟨o1, q1⟩ := I.base.there b o q hx
    exact there b o1 q1
  · obtain ⟨m, ⟨o, es, ep, g, d, k, f⟩, hl⟩ := I.loc
    obtain ⟨sl, g'⟩ := slot _ o nl g
    refine ⟨m, ⟨_, es, ep, g', d, k, f⟩, fun i x v h1 h2 h3 => ?_⟩
    obtain ⟨u, ru, lk⟩ := hl i x v h1 h2 h3
    refine ⟨u, ru, ?_⟩
    rcases lk with lk | ⟨k1, c, e, z⟩
    · exact .inl lk
    · exact .inr ⟨k1, c, e, cellOut x c e _ z⟩
  · obtain ⟨v, q⟩ := I.cell x c e
    exact ⟨v, cellOut x c e v q⟩
  · obtain ⟨g, n1, n2, n3, n4⟩ := I.pin p hp
    have hp' : p ∈ X.pn := by simpa using hp
    refine ⟨keep p.1 p.2 (fun z => (hch _ z).2.2.1 p hp' rfl) (fun z => ?_) g, n1, n2, n3, n4⟩
    rcases frm _ z with z | z
    · exact n2 z
    · exact n3 z
/-- an exception that is caught: its entry is at T -/
structure Caught (X : Cx) (ρ : List Addr) (H : Hp) (e T : Addr) (x : XV) (dO : Option Addr) (s : Shared) : Prop where
  nb : X.base.get? e = none
  nH : H e = none
  n0 : X.s₀.heap.get? e = none
  np : ∀ p ∈ X.pn, p.1 ≠ e
  nbT : X.base.get? T = none
  nHT : H T = none
  n0T : X.s₀.heap.get? T = none
  npT : ∀ p ∈ X.pn, p.1 ≠ T
  xf : XF ρ H dO x
  fly : ∃ n, 5 < n ∧ Fly s.heap e (.ref x.cls) n T .none dO
theorem catchA {ρ : List Addr} {x : XV} {vh : VH} {ev : Value} {Q : Shared → Prop} {E : Value → Shared → Prop} (hex : X.ex = []) (hstk : X.stack = X.env :: X.outer ∧ X.env.frame = some X.env.locals) (hfn : ∀ x, X.fn x = true) (q : XPost tb X σ ρ H x vh ev s)
    (k : ∀ ρ' H' e T dO s', ρ <+: ρ' → Keep H H' → ev = .ref e → Inv X [] σ H' s' → Sim tb ρ' vh H' → Caught X ρ' H' e T x dO s' → Q s') :
    wpAny (model X.prog X.w) X.A (noteFrame ev X.env) (fun _ s₂ => wpAny (model X.prog X.w) X.A (setFlight ev none) (fun _ s₃ => Q s₃) E s₂) E s := by
  obtain ⟨ρ', H', e, p1, k1, I, S1, rfl, xe⟩ := q
  obtain ⟨dO, f1, stage⟩ := xe.stage
  have hfr : X.A.frames = some (X.env :: X.outer) := by rw [← hstk.1]; exact I.ok.frames
  have hl : s.heap.FunFrames X.base (X.env :: X.outer) := by rw [← hstk.1]; exact I.stack
  have n0 : X.s₀.heap.get? e = none := xe.n0 hex
  have frE : (X.env :: X.outer).filterMap (·.frame) = frs X.stack := by rw [hstk.1]; rfl
  have fin : ∀ {h1 h2 : Heap} {T' : Addr} {Told : Option Addr} {n : Nat}, Gone ((X.env :: X.outer).filterMap (·.frame)) e Told s.heap h1 → s.heap.get? T' = none → (∃ oe fs, s.heap.get? e = some oe ∧ oe.data = .fields fs) → (∀ t, Told = some t → H' t = none ∧ X.s₀.heap.get? t = none ∧ (∀ p ∈ X.pn, p.1 ≠ t) ∧ ∃ ot ts, s.heap.get? t = some ot ∧ ot.data = .fields ts) →
      (∀ b o, b ≠ T' → h1.get? b = some o → h2.get? b = some o) → (∃ o', h2.get? T' = some o') → 5 < n → Fly h2 e (.ref x.cls) n T' .none dO → Q { s with heap := h2 } := by
    intro h1 h2 T' Told n g newT he hT kp thT hn fly
    have nT' : ∀ b o, s.heap.get? b = some o → b ≠ T' := fun b o q z => by rw [z, newT] at q; cases q
    have s0T : X.s₀.heap.get? T' = none := by
      cases z : X.s₀.heap.get? T' with
      | none => rfl
      | some o => obtain ⟨o', q⟩ := I.base.there T' o z (by rw [hex]; simp); rw [newT] at q; cases q
    have hT0 : H' T' = none := by
      cases z : H' T' with
      | none => rfl
      | some u =>
        have ok := I.hok T' u z
        obtain ⟨o, q⟩ : ∃ o, s.heap.get? T' = some o := by
          cases u with
          | lst xs => obtain ⟨_, _, _, _, e⟩ := ok; exact ⟨_, e⟩
          | tup xs => obtain ⟨_, _, _, o, e, _⟩ := ok; exact ⟨_, e⟩
          | dK kvs => obtain ⟨_, _, _, _, o, _, _, e, _⟩ := ok; exact ⟨_, e⟩
          | dT kvs => obtain ⟨_, _, _, _, o, _, _, e, _⟩ := ok; exact ⟨_, e⟩
          | set S n => obtain ⟨o, _, _, _, e, _⟩ := ok; exact ⟨_, e⟩
          | ins C dx fs => obtain ⟨_, _, _, e, _⟩ := ok; exact ⟨_, e⟩
          | own y => obtain ⟨_, e⟩ := ok; exact ⟨_, e⟩
          | xd fs => obtain ⟨_, ⟨_, _, _, e, _⟩, _⟩ := ok; exact ⟨_, e⟩
          | rng lo hi => obtain ⟨_, _, _, e⟩ := ok; exact ⟨_, e⟩
          | frz ob u => obtain ⟨e, _⟩ := ok; exact ⟨_, e⟩
          | tbl ps => exact ⟨_, ok⟩
          | met f y => exact ⟨_, ok⟩
          | ext φ => obtain ⟨_, ⟨_, e⟩, _⟩ := ok; exact ⟨_, e⟩
        rw [newT] at q; cases q
    have I2 : Inv X [] σ H' { s with heap := h2 } := by
      refine inv_moved (ch := e :: Told.toList) I hex hstk hfn (fun b hb => ?_) (fun b o hb hf q => ?_) (fun b o hb q => ?_) (fun b o q => ?_)
      · rcases List.mem_cons.mp hb with rfl | hb
        · exact ⟨xe.nH, n0, xe.np, he⟩
        · exact hT b (by simpa using hb)
      · have h1' : b ≠ e := fun z => hb (by rw [z]; exact List.mem_cons_self)
        have h2' : Told ≠ some b := fun z => hb (by rw [z]; simp)
        exact kp b o (nT' b o q) (g.keep b o h1' h2' (by rw [frE]; exact hf) q)
      · have h1' : b ≠ e := fun z => hb (by rw [z]; exact List.mem_cons_self)
        have h2' : Told ≠ some b := fun z => hb (by rw [z]; simp)
        obtain ⟨sl, q1⟩ := g.slot b o h1' h2' q
        exact ⟨sl, kp b _ (nT' b o q) q1⟩
      · obtain ⟨o', q1⟩ := g.there b o q
        exact ⟨o', kp b _ (nT' b o q) q1⟩
    refine k ρ' H' e T' dO _ p1 k1 rfl I2 S1 ⟨xe.nb, xe.nH, n0, xe.np, ?_, hT0, s0T, fun p hp z => ?_, f1, n, hn, fly⟩
    · cases z : X.base.get? T' with
      | none => rfl
      | some o => have := I.bk T' o z; rw [newT] at this; cases this
    · have := (I.pin p (List.mem_append_left _ hp)).1
      rw [z, newT] at this; cases this
  rcases stage with ⟨n, hn, fr⟩ | ⟨T, n, hn, fl, nbT, nHT, n0T, npT⟩
  · refine note_fresh (by omega) hfr hl hstk.2 fr fun h1 T' g newT fly => flight_none fly fun h2 kp thT _ fly2 => ?_
    obtain ⟨oe, fs, ge, _, de, _⟩ := fr
    exact fin g newT ⟨oe, fs, ge, de⟩ (fun t z => nomatch z) kp thT hn fly2
  · refine note_fly (by omega) hfr hl hstk.2 fl fun h1 T' g newT fly => flight_none fly fun h2 kp thT _ fly2 => ?_
    obtain ⟨oe, vs, oT, ts, ge, _, de, _, _, _, _, gT, dT, _⟩ := fl
    refine fin g newT ⟨oe, vs, ge, de⟩ (fun t z => ?_) kp thT hn fly2
    cases z
    exact ⟨nHT, n0T hex, npT, oT, ts, gT, dT⟩
/-- at a suite: it is held from here on -/
theorem catchB {ρ : List Addr} {x : XV} {vh : VH} {e T : Addr} {dO : Option Addr} {A : Around} {Q : Unit → Shared → Prop} {E : Value → Shared → Prop} (hex : X.ex = []) (hstk : X.stack = X.env :: X.outer ∧ X.env.frame = some X.env.locals) (hfn : ∀ x, X.fn x = true)
    (I : Inv X [] σ H s) (S : Sim tb ρ vh H) (c : Caught X ρ H e T x dO s)
    (k : ∀ H' s', Keep H H' → Inv X [] σ H' s' → Sim tb ρ vh H' → Rep ρ H' (.exc x.cls x.ns x.xs) (.ref e) → H' e = some (.ext (ExcPhi e x.cls dO)) → Q () s') : wpAny (model X.prog X.w) A (setFlight (.ref e) none) Q E s := by
  obtain ⟨n, hn, fl⟩ := c.fly
  refine flight_none fl fun h2 kp thT nn fly2 => ?_
  obtain ⟨oe, vs, oT, ts, ge, _, de, _, _, _, nTe, gT, dT, _⟩ := fl
  have I2 : Inv X [] σ H { s with heap := h2 } := by
    refine inv_moved (ch := [T]) I hex hstk hfn (fun b hb => ?_) (fun b o hb hf q => kp b o (fun z => hb (by simp [z])) q) (fun b o hb q => ⟨o.slots, kp b o (fun z => hb (by simp [z])) q⟩) (fun b o q => ?_)
    · have : b = T := by simpa using hb
      subst this
      exact ⟨c.nHT, c.n0T, c.npT, oT, ts, gT, dT⟩
    · by_cases z : b = T
      · subst z; exact thT
      · exact ⟨o, kp b o z q⟩
  obtain ⟨oe2, vs2, _, _, ge2, ⟨ce2, dd2⟩, de2, sz2, _, cx2, _⟩ := fly2
  have kH : Keep H (upd H e (.ext (ExcPhi e x.cls dO))) := Keep.new c.nH
  have phi : ExcPhi e x.cls dO h2 := ⟨oe2, vs2, ge2, ce2, dd2, de2, cx2, by rw [sz2]; exact hn⟩
  have okE : ObjOk X.prog X.w (upd H e (.ext (ExcPhi e x.cls dO))) h2 e (.ext (ExcPhi e x.cls dO)) := ⟨phi, ⟨oe2, ge2⟩, fun g1 g2 hp hk => by
    obtain ⟨o, f, g, r⟩ := hp
    exact ⟨o, f, hk o g, r⟩⟩
  have I3 : Inv X [] σ (upd H e (.ext (ExcPhi e x.cls dO))) { s with heap := h2 } := by
    refine ⟨I2.ok, I2.os, I2.bare, ⟨I2.base.keep, I2.base.slot, fun b o q hb hx => ?_, I2.base.there, fun b xs q => ?_, fun b o u q => ?_, fun b ps q => ?_⟩, I2.loc, I2.cell, ?_, fun y cc e' => ?_, fun p hp => ?_, ?_, I2.len⟩
    · have hne : b ≠ e := fun z => by rw [z, c.n0] at q; cases q
      rw [upd_ne hne]; exact I2.base.free b o q hb hx
    · have := I2.base.tups b xs q
      rw [upd_ne (ne_of_none this c.nH)]; exact this
    · have := I2.base.frzs b o u q
      rw [upd_ne (ne_of_none this c.nH)]; exact this
    · obtain ⟨more, this⟩ := I2.base.tbls b ps q
      exact ⟨more, by rw [upd_ne (ne_of_none this c.nH)]; exact this⟩
    · rw [upd_ne (fun z => ?_)]
      · exact I2.free
      · obtain ⟨m, ⟨o', es, ep, g', d', _⟩, _⟩ := I2.loc
        have g'' : h2.get? e = some o' := by rw [← z]; exact g'
        rw [ge2] at g''; cases g''; rw [de2] at d'; cases d'
    · rw [upd_ne (fun z => ?_)]
      · exact I2.freeC y cc e'
      · obtain ⟨v, o', g', d'⟩ := I2.cell y cc e'
        have g'' : h2.get? e = some o' := by rw [← z]; exact g'
        rw [ge2] at g''; cases g''; rw [de2] at d'; cases d'
    · obtain ⟨g, n1, r⟩ := I2.pin p hp
      have hp' : p ∈ X.pn := by simpa using hp
      exact ⟨g, by rw [upd_ne (c.np p hp')]; exact n1, r⟩
    · intro a o ha
      by_cases hz : a = e
      · subst hz
        rw [upd_same] at ha; cases ha
        exact okE
      · rw [upd_ne hz] at ha
        exact (I2.hok a o ha).stay (fun b u _ q => q) (fun b q => by rw [upd_ne (ne_of_none q c.nH)]; exact q) fun b xs q => by rw [upd_ne (ne_of_none q c.nH)]; exact q
  refine k _ _ kH I3 (S.side c.nH) ⟨e, dO, rfl, upd_same, ?_⟩ upd_same
  rcases c.xf with z | ⟨d, ws, q1, q2, q3, q4⟩
  · exact .inl z
  · exact .inr ⟨d, ws, q1, kH _ _ trivial q2, q3, q4.mono List.prefix_rfl kH⟩
end
end FS

set_option Elab.async false
set_option linter.all false
set_option maxRecDepth 100000
set_option maxHeartbeats 4000000
namespace FS
open PySem PySem.Spec PyProof.Rows L2 FX
/-- an own exception class as it lies, and its bases -/
def excBm (K : PySem.W.Frag) (C : Addr) : Option (List Value) := match K.lookup C with
  | some ⟨.type "type", _, .cls cd, sl⟩ => (match cd.mro, sl.toList with
    | .ref C' :: bm, [_, _, _, _, some (.builtin _), _] => if (C' == C && !cd.hasDel) = true then some bm else none
    | _, _ => none)
  | _ => none
theorem excBm_of {K : PySem.W.Frag} {C : Addr} {bm : List Value} (h : excBm K C = some bm) : ∃ nm q N bs hdct sn sub ab col dd k0 k1 k2 k3 k5 newId, K.lookup C = some (excClassObj nm q C N bs bm hdct sn sub ab col dd k0 k1 k2 k3 k5 newId) := by
  unfold excBm at h
  split at h
  · rename_i dd cd sl ho
    split at h
    · rename_i C' bm' k0 k1 k2 k3 n k5 hm hs
      split at h
      · rename_i hc
        cases h
        simp only [Bool.and_eq_true, beq_iff_eq, Bool.not_eq_true'] at hc
        obtain ⟨rfl, hdel⟩ := hc
        obtain ⟨nm, bs, mro, ns, qn, hd, sn, sub, ab, col, del⟩ := cd
        dsimp only at hm hdel
        subst hm hdel
        have hsl : sl = #[k0, k1, k2, k3, some (.builtin n), k5] := by
          obtain ⟨l⟩ := sl
          simp only at hs
          rw [hs]
        subst hsl
        exact ⟨nm, qn, ns, bs, hd, sn, sub, ab, col, dd, k0, k1, k2, k3, k5, n, ho⟩
      · cases h
    · cases h
  · cases h
/-- which class is under which -/
abbrev STab := List (Addr × Addr × Bool)
def STabK (K : PySem.W.Frag) (st : STab) : Prop := ∀ r ∈ st, ∃ b1 b2, excBm K r.1 = some b1 ∧ excBm K r.2.1 = some b2 ∧ b2.contains (.type "BaseException") = true ∧ (Value.ref r.1 :: b1).contains (.ref r.2.1) = r.2.2
def subOf (st : STab) (C D : Addr) : Option Bool := (st.find? fun r => r.1 == C && r.2.1 == D).map (·.2.2)
section
variable {tb : Tb} {X : Cx}
theorem match_own {st : STab} {C D e : Addr} {oe : Obj} {b : Bool} {s : Shared} {M : Model} {A : Around} {E : Value → Shared → Prop} {Q : Bool → Shared → Prop} {K : PySem.W.Frag} (hst : STabK K st) (hs : subOf st C D = some b) (kin : K.In s.heap) (he : s.heap.get? e = some oe) (hc : oe.cls = .ref C) (hq : Q b s) :
    wpAny M A (excMatches (.ref e) (.ref D)) Q E s := by
  unfold subOf at hs
  obtain ⟨r, hr, rfl⟩ := Option.map_eq_some_iff.mp hs
  have hm := List.mem_of_find?_eq_some hr
  have hp := List.find?_some hr
  rw [Bool.and_eq_true] at hp
  have e1 : r.1 = C := beq_iff_eq.mp hp.1
  have e2 : r.2.1 = D := beq_iff_eq.mp hp.2
  obtain ⟨b1, b2, h1, h2, h3, h4⟩ := hst r hm
  rw [e1] at h1 h4
  rw [e2] at h2 h4
  obtain ⟨_, _, _, _, _, _, _, _, _, _, _, _, _, _, _, _, g1⟩ := excBm_of h1
  obtain ⟨_, _, _, _, _, _, _, _, _, _, _, _, _, _, _, _, g2⟩ := excBm_of h2
  obtain ⟨hh, g, d, t, os⟩ := s
  exact matches_own (kin _ _ g1) (kin _ _ g2) he hc h3 (by rw [h4]; exact hq)
/-- the frame's names have changed: none is known -/
theorem inv_names {pins : List (Addr × Obj)} {σ : St} {H : Hp} {s : Shared} {h' : Heap} {t' : Nat} {m' : Str → Option Value} (I : Inv X pins σ H s) (hn : h'.Ns X.env.locals m') (hs : Heap.SameBut X.env.locals s.heap h') (hfs : X.env.locals ∉ X.fs) : Inv X pins (List.replicate X.N.length none) H { s with heap := h', toks := t' } := by
  have keep : ∀ b o, b ≠ X.env.locals → s.heap.get? b = some o → h'.get? b = some o := fun b o hb e => (hs.2 b hb).trans e
  have old : ∀ b o, X.s₀.heap.get? b = some o → b ≠ X.env.locals := fun b o q z => absurd (Nat.lt_of_lt_of_le (Heap.lt_size q) (by rw [z]; exact I.ok.above)) (Nat.lt_irrefl _)
  obtain ⟨m, ⟨oL, esL, epL, gL, dL, _⟩, _⟩ := I.loc
  refine ⟨I.ok, I.os, I.bare, ⟨fun b o q hn hb hx => keep b o (old b o q) (I.base.keep b o q hn hb hx), fun b o q hn hb hx => ?_, I.base.free, fun b o q hx => ?_, I.base.tups, I.base.frzs, I.base.tbls⟩, ⟨m', hn, fun i x v h1 h2 => ?_⟩, fun x c e => ?_, I.free, I.freeC, fun p hp => ?_, HOk.tracked I.hok fun c u v hc q => keep c v (fun z => by rw [z, I.free] at hc; cases hc) q, by simp⟩
  · obtain ⟨sl, q1⟩ := I.base.slot b o q hn hb hx
    exact ⟨sl, keep b _ (old b o q) q1⟩
  · obtain ⟨o1, q1⟩ := I.base.there b o q hx
    exact ⟨o1, keep b _ (old b o q) q1⟩
  · rw [List.getElem?_replicate] at h2
    split at h2 <;> cases h2
  · obtain ⟨v, o, g, d⟩ := I.cell x c e
    refine ⟨v, o, keep c o (fun z => ?_) g, d⟩
    rw [z, gL] at g; cases g; rw [dL] at d; cases d
  · obtain ⟨g, r⟩ := I.pin p hp
    exact ⟨keep _ _ r.2.1 g, r⟩
abbrev FH := XV → VH → Fl
def HsOk (tb : Tb) (X : Cx) (hs : List ExceptHandler) (fh : FH) : Prop := ∀ (σ : St) (H : Hp) (s : Shared) (ρ : List Addr) (vh : VH) (x : XV) (e T : Addr) (dO : Option Addr) (D : Ends), Inv X [] σ H s → Sim tb ρ vh H → Caught X ρ H e T x dO s → PostS tb X ρ H (fh x vh) D →
  wpAny (model X.prog X.w) X.A (handleBy (.ref e) X.env hs) (SP X [] D) X.xe s
def hNil : FH := fun _ _ => .bad
def hCons (st : STab) (D : Addr) (i n : Nat) (f : FSt) (rest : FH) : FH := fun x h => match subOf st x.cls D with
  | some true => match f ((List.replicate n none).set i (some (.exc x.cls x.ns x.xs))) h with
    | .ret v h' => .ret v h'
    | _ => .bad
  | some false => rest x h
  | none => .bad
theorem hs_nil : HsOk tb X [] hNil := fun σ H s ρ vh x e T dO D I S c p => p.elim
theorem hs_cons {st : STab} {D : Addr} {i : Nat} {cn n : Str} {np hpos : Pos} {b₀ : Stmt} {suite : List Stmt} {hs : List ExceptHandler} {f : FSt} {rest : FH} (hex : X.ex = []) (hstk : X.stack = X.env :: X.outer ∧ X.env.frame = some X.env.locals) (hfn : ∀ x, X.fn x = true)
    (hst : STabK X.K st) (hg : Gl X cn) (hm : X.mg cn = some (.ref D)) (hN : X.N.Nodup) (hi : X.N[i]? = some n) (hl : X.env.scope.names.lookup n = some .local)
    (hb : ∀ e : Addr, BOk tb (Cx.hold X (X.A.mark (some (.ref e))) (fun _ _ => False)) (b₀ :: suite) f) (hr : HsOk tb X hs rest) (hdb : (cn == ("__debug__" : Str)) = false := by decide) :
    HsOk tb X (.ExceptHandler (some (.Name cn np)) (some n) (b₀ :: suite) hpos :: hs) (hCons st D i X.N.length f rest) := by
  intro σ H s ρ vh x e T dO Dn I S c p
  have hfs : X.env.locals ∉ X.fs := fun z => absurd (Nat.lt_of_lt_of_le (Heap.lt_size (I.ok.funs.mem z).2.choose_spec.1) I.ok.above) (Nat.lt_irrefl _)
  refine wpAny_handleBy_cons ?_ (fun z => nomatch z)
  unfold hCons at p
  cases es : subOf st x.cls D with
  | none => rw [es] at p; exact p.elim
  | some b =>
    rw [es] at p
    have I1 : Inv (Cx.hold X (X.A.mark (some (.ref e))) (fun _ _ => False)) [] σ H s := inv_hold rfl I
    refine codeAny_handlers_test (ld_glob I1 hg hm ?_ hdb)
    obtain ⟨nn, hn5, oe, vs, oT, ts, ge, ⟨ce, _⟩, _⟩ := c.fly
    refine match_own hst es I.kIn ge ce ?_
    cases b with
    | false => exact hr σ H s ρ vh x e T dO Dn I S c p
    | true =>
      dsimp only at p ⊢
      refine codeAny_handlers_suite_as (catchB (A := X.A.mark (some (.ref e))) hex hstk hfn I S c fun H1 s1 k1 I2 S2 r2 he2 => ?_)
      refine store_ok (v := .ref e) (u := .ref e) I2 hN hi (.inl hl) rfl (fun s2 I4' => ?_) (.inr hl)
      have I4 : Inv (Cx.hold X (X.A.mark (some (.ref e))) (fun _ _ => False)) [] (σ.set i (some (.ref e))) H1 s2 := inv_hold rfl I4'
      have st0 : StRel (some (.ref e)) ρ H1 ((List.replicate X.N.length none).set i (some (.exc x.cls x.ns x.xs))) (σ.set i (some (.ref e))) := by
        refine StRel.set ⟨.inr ⟨e, x.cls, dO, rfl, he2⟩, by simp [I.len], fun j y ej => ?_⟩ r2
        rw [List.getElem?_replicate] at ej
        split at ej <;> cases ej
      cases ef : f ((List.replicate X.N.length none).set i (some (.exc x.cls x.ns x.xs))) vh with
      | ret v h' =>
        rw [ef] at p
        refine wpAny_mono (hb e [] s2 (σ.set i (some (.ref e))) H1 { nx := fun _ _ => False, rt := Dn.rt } I4 ⟨ρ, vh, _, st0, S2, ?_⟩) (fun fl s3 q => ?_) fun _ _ z => z.elim
        · rw [ef]; exact fun ρ' H' w p' k' => p ρ' H' w p' (k1.trans k')
        · cases fl with
          | ret u =>
            obtain ⟨v', σ', H', J, rv, q⟩ := q
            have J' := inv_unhold I.ok J
            obtain ⟨m, hm', _⟩ := J'.loc
            refine wpAny_nameGoes (env := X.env) hl hm' (by rw [J'.ok.kind]; rfl) fun h2 m2 hn2 hs2 => ?_
            exact ⟨v', _, H', inv_names J' hn2 hs2 hfs, rv, q⟩
          | next => obtain ⟨_, _, _, q⟩ := q; exact q.elim
          | brk => obtain ⟨_, _, _, q⟩ := q; exact q.elim
          | cont => obtain ⟨_, _, _, q⟩ := q; exact q.elim
      | next _ _ => rw [ef] at p; exact p.elim
      | brk _ _ => rw [ef] at p; exact p.elim
      | cont _ _ => rw [ef] at p; exact p.elim
      | exc _ _ => rw [ef] at p; exact p.elim
      | bad => rw [ef] at p; exact p.elim
def sTry (fb : FSt) (fh : FH) : FSt := fun τ h => match fb τ h with
  | .exc x h' => fh x h'
  | .ret v h' => .ret v h'
  | _ => .bad
end
end FS

set_option Elab.async false
set_option linter.all false
set_option maxRecDepth 100000
set_option maxHeartbeats 4000000
namespace FS
open PySem PySem.Spec PyProof.Rows L2 FX
section
variable {tb : Tb} {X : Cx}
/-- an exception leaves a frame -/
theorem leave_G {H0 : Hp} {E : XK} {σ : St} {ρ : List Addr} {x : XV} {vh : VH} {ev : Value} {s' : Shared} {R : Value → Shared → Prop} (hex : X.ex = []) (hstk : X.stack = X.env :: X.outer ∧ X.env.frame = some X.env.locals)
    (hE : ∀ ρ' H' dO, ρ <+: ρ' → Keep H0 H' → Sim tb ρ' vh H' → XF ρ' H' dO x → E (.ref x.cls) dO H')
    (q : XPost tb X σ ρ H0 x vh ev s') : wpAny (model X.prog X.w) X.A (leaving X.env ev) (fun _ s'' => CXF X.prog X.w X.base X.outer X.H₀ X.s₀ E ev s'') R s' := by
  obtain ⟨ρ', H', e, p1, k1, I, S1, rfl, xe⟩ := q
  obtain ⟨dO, f1, stage⟩ := xe.stage
  have hfr : X.A.frames = some (X.env :: X.outer) := by rw [← hstk.1]; exact I.ok.frames
  have hl : s'.heap.FunFrames X.base (X.env :: X.outer) := by rw [← hstk.1]; exact I.stack
  have n0 : X.s₀.heap.get? e = none := xe.n0 hex
  have frE : (X.env :: X.outer).filterMap (·.frame) = frs X.stack := by rw [hstk.1]; rfl
  have fin : ∀ {h1 h2 : Heap} {T T' : Addr} {Told : Option Addr} {n : Nat}, Gone ((X.env :: X.outer).filterMap (·.frame)) e Told s'.heap h1 → s'.heap.get? T' = none → (∀ t, Told = some t → H' t = none ∧ X.s₀.heap.get? t = none ∧ ∃ ot ts, s'.heap.get? t = some ot ∧ ot.data = .fields ts) →
      (∀ b o, b ≠ T' → h1.get? b = some o → h2.get? b = some o) → (∃ o', h2.get? T' = some o') → 5 < n → Fly h2 e (.ref x.cls) n T' .none dO → CXF X.prog X.w X.base X.outer X.H₀ X.s₀ E (.ref e) { s' with heap := h2 } := by
    intro h1 h2 T T' Told n g newT hT kp thT hn fly
    have nT' : ∀ b o, s'.heap.get? b = some o → b ≠ T' := fun b o q z => by rw [z, newT] at q; cases q
    have frT : ∀ {b u}, H' b = some u → b ∉ (X.env :: X.outer).filterMap (·.frame) := fun {b u} hu hb => by
      have := I.stkFree b (by rw [← frE]; exact hb); rw [hu] at this; cases this
    have sT' : X.s₀.heap.get? T' = none := by
      cases z : X.s₀.heap.get? T' with
      | none => rfl
      | some o => obtain ⟨o', q⟩ := I.base.there T' o z (by rw [hex]; simp); rw [newT] at q; cases q
    refine ⟨e, _, H', T', n, dO, rfl, I.os, I.bare, ⟨fun b o q hn hb hx => ?_, fun b o q hn hb hx => ?_, fun b o q hn hx => I.base.free b o q hn (by rw [hex]; simp), fun b o q hx => ?_, I.base.tups, I.base.frzs, I.base.tbls⟩, ?_, xe.nb, xe.nH, n0, ?_, ?_, sT', hn, fly, hE ρ' H' dO p1 k1 S1 f1⟩
    · have q1 := I.base.keep b o q hn hb (by rw [hex]; simp)
      refine kp b o (nT' b o q1) (g.keep b o (fun z => by rw [z, n0] at q; cases q) (fun z => by rw [(hT b z).2.1] at q; cases q) (fun z => ?_) q1)
      rcases List.mem_cons.mp (I.stkSub b (by rw [← frE]; exact z)) with z | z
      · exact absurd (Nat.lt_of_lt_of_le (Heap.lt_size q) (by rw [z]; exact I.ok.above)) (Nat.lt_irrefl _)
      · exact hb z
    · obtain ⟨sl, q1⟩ := I.base.slot b o q hn hb (by rw [hex]; simp)
      obtain ⟨sl2, q2⟩ := g.slot b _ (fun z => by rw [z, n0] at q; cases q) (fun z => by rw [(hT b z).2.1] at q; cases q) q1
      exact ⟨sl2, kp b _ (nT' b _ q1) q2⟩
    · obtain ⟨o1, q1⟩ := I.base.there b o q (by rw [hex]; simp)
      obtain ⟨o2, q2⟩ := g.there b o1 q1
      exact ⟨o2, kp b o2 (nT' b o1 q1) q2⟩
    · refine HOk.tracked I.hok fun c u v hc q => kp c v (nT' c v q) (g.keep c v (fun z => by rw [z, xe.nH] at hc; cases hc) (fun z => by rw [(hT c z).1] at hc; cases hc) (frT hc) q)
    · cases z : X.base.get? T' with
      | none => rfl
      | some o => have := I.bk T' o z; rw [newT] at this; cases this
    · cases z : H' T' with
      | none => rfl
      | some u => have := (I.hok T' u z).lt; obtain ⟨o, q⟩ : ∃ o, s'.heap.get? T' = some o := by
                    have ok := I.hok T' u z
                    cases u with
                    | lst xs => obtain ⟨_, _, _, _, e⟩ := ok; exact ⟨_, e⟩
                    | tup xs => obtain ⟨_, _, _, o, e, _⟩ := ok; exact ⟨_, e⟩
                    | dK kvs => obtain ⟨_, _, _, _, o, _, _, e, _⟩ := ok; exact ⟨_, e⟩
                    | dT kvs => obtain ⟨_, _, _, _, o, _, _, e, _⟩ := ok; exact ⟨_, e⟩
                    | set S n => obtain ⟨o, _, _, _, e, _⟩ := ok; exact ⟨_, e⟩
                    | ins C dx fs => obtain ⟨_, _, _, e, _⟩ := ok; exact ⟨_, e⟩
                    | own y => obtain ⟨_, e⟩ := ok; exact ⟨_, e⟩
                    | xd fs => obtain ⟨_, ⟨_, _, _, e, _⟩, _⟩ := ok; exact ⟨_, e⟩
                    | rng lo hi => obtain ⟨_, _, _, e⟩ := ok; exact ⟨_, e⟩
                    | frz ob u => obtain ⟨e, _⟩ := ok; exact ⟨_, e⟩
                    | tbl ps => exact ⟨_, ok⟩
                    | met f y => exact ⟨_, ok⟩
                    | ext φ => obtain ⟨_, ⟨_, e⟩, _⟩ := ok; exact ⟨_, e⟩
                  rw [newT] at q; cases q
  unfold leaving
  rcases stage with ⟨n, hn, fr⟩ | ⟨T, n, hn, fl, nbT, nHT, n0T, npT⟩
  · refine wpAny_bind (note_fresh (by omega) hfr hl hstk.2 fr fun h1 T' g newT fly => flight_none fly fun h2 kp thT _ fly2 => ?_)
    exact fin (T := T') g newT (fun t z => nomatch z) kp thT hn fly2
  · refine wpAny_bind (note_fly (by omega) hfr hl hstk.2 fl fun h1 T' g newT fly => flight_none fly fun h2 kp thT _ fly2 => ?_)
    refine fin (T := T') g newT (fun t z => ?_) kp thT hn fly2
    cases z
    obtain ⟨_, _, oT, ts, _, _, _, _, _, _, _, gT, dT, _⟩ := fl
    exact ⟨nHT, n0T hex, oT, ts, gT, dT⟩
/-- what a call leaves, in the caller's context -/
theorem after_F {Y : Cx} {pins : List (Addr × Obj)} {σ : St} {H : Hp} {s s' : Shared} {ρ : List Addr} {o : Out PV} {Q : VK} {r : Result} (I : Inv Y pins σ H s) (p : Post tb Y σ ρ H o Q)
    (hq : CR (CXF Y.prog Y.w Y.base) Y.stack Y.prog Y.w H s Q (fun cls d H' => ∃ x vh' ρ', o = .exc x vh' ∧ cls = .ref x.cls ∧ ρ <+: ρ' ∧ Keep H H' ∧ Sim tb ρ' vh' H' ∧ XF ρ' H' d x) r s') :
    match r with | .ok (.ret v) => EP Y pins σ Q v s' | .ok _ => False | .error e => Y.xe e s' := by
  cases r with
  | ok fl =>
    cases fl with
    | ret u => exact I.after hq
    | next => exact False.elim hq
    | brk => exact False.elim hq
    | cont => exact False.elim hq
  | error ev =>
    obtain ⟨e, cls, H', T, n, dO, rfl, os, bare, un, hok, nb, nH, ns, nbT, nHT, nsT, hn, fly, x, vh1, ρ', rfl, rfl, p1, k1, S1, f1⟩ := hq
    refine p _ s' ⟨ρ', H', e, p1, k1, (I.call' (ch := []) os un hok bare fun b z => absurd z (by simp)).pins_of (fun q hq => absurd hq (by simp)), S1, rfl, ⟨nb, nH, fun hx => ?_, fun q hq z => ?_, dO, f1, .inr ⟨T, n, hn, fly, nbT, nHT, fun hx => ?_, fun q hq z => ?_⟩⟩⟩
    · cases z : Y.s₀.heap.get? e with
      | none => rfl
      | some o => obtain ⟨o', q⟩ := I.base.there e o z (by rw [hx]; simp); rw [ns] at q; cases q
    · have := (I.pin q (List.mem_append_left _ hq)).1
      rw [z, ns] at this; cases this
    · cases z : Y.s₀.heap.get? T with
      | none => rfl
      | some o => obtain ⟨o', q⟩ := I.base.there T o z (by rw [hx]; simp); rw [nsT] at q; cases q
    · have := (I.pin q (List.mem_append_left _ hq)).1
      rw [z, nsT] at this; cases this
end
end FS

set_option Elab.async false
set_option linter.all false
set_option maxRecDepth 100000
set_option maxHeartbeats 4000000
namespace FS
open PySem PySem.Spec PyProof.Rows L2 FX
/-! ### a lambda without parameters, called -/
def lamEnv (scope : Scope) (L : Addr) (clos : List (Str × Addr)) (qual : Str) (g : Addr) (cd : Value) : Env :=
  { scope := scope, locals := L, globals := mainGlobals, cells := clos, qual := qual, func := some g, code := cd, frame := some L, builtins := builtinsNs }
def cxL (Y : Cx) (xs : List Str) (env2 : Env) (s : Shared) (H : Hp) (xe : Value → Shared → Prop) : Cx :=
  { prog := Y.prog, w := Y.w, K := Y.K, mg := Y.mg, base := Y.base, A := Y.A.deeper env2, N := xs, s₀ := s, H₀ := H, env := env2, outer := Y.stack, stack := env2 :: Y.stack, ex := [], fn := fun _ => false, calm := true, pn := [], xe := xe }
section
variable {tb : Tb} {Y : Cx} {pins : List (Addr × Obj)} {σ : St} {H : Hp} {s : Shared}
/-- the cells of a lambda: what they hold -/
structure CellsAt (clos : List (Str × Addr)) (xs : List Str) (σZ : St) (H : Hp) (h : Heap) : Prop where
  inj : ∀ x y c, clos.lookup x = some c → clos.lookup y = some c → x = y
  cell : ∀ x c, clos.lookup x = some c → ∃ v, h.IsCell c v
  free : ∀ x c, clos.lookup x = some c → H c = none
  has : ∀ (i : Nat) (x : Str) (v : V), xs[i]? = some x → σZ[i]? = some (some v) → ∃ u c, RelV v u ∧ clos.lookup x = some c ∧ h.IsCell c (some u)
  len : σZ.length = xs.length
theorem inv_lam {scope : Scope} {clos : List (Str × Addr)} {qual : Str} {g : Addr} {cd : Value} {xs : List Str} {σZ : St} {h4 : Heap} {t4 : Nat} {m0 : Str → Option Value} {ob : Obj} {xe : Value → Shared → Prop} (I : Inv Y pins σ H s) (hc : Y.calm = true) (hk : scope.kind = .function)
    (hfree : ∀ y ∈ scope.names, y.2 ≠ .cell ∧ y.2 ≠ .local ∧ (y.2 = .free → (clos.lookup y.1).isSome = true)) (C : CellsAt clos xs σZ H s.heap) (hns : h4.Ns s.heap.objs.size m0) (hsb : Heap.SameBut s.heap.objs.size (s.heap.push ob) h4) :
    Inv (cxL Y xs (lamEnv scope s.heap.objs.size clos qual g cd) s H xe) [] σZ H { s with heap := h4, toks := t4 } := by
  have kp : ∀ b o, s.heap.get? b = some o → h4.get? b = some o := fun b o e => (hsb.2 b (Nat.ne_of_lt (Heap.lt_size e))).trans (Heap.get?_push_of_some _ e)
  have fr : ∀ x k, scope.names.lookup x = some k → k ≠ .cell ∧ k ≠ .local ∧ (k = .free → (clos.lookup x).isSome = true) := fun x k e => hfree _ (PySem.mem_of_lookup e)
  refine ⟨⟨I.ok.mod, hk, rfl, rfl, Nat.le_refl _, C.inj, fun x hx => ?_, fun _ _ z _ => absurd z Bool.false_ne_true, fun _ => I.ok.hd hc, Around.frames_deeper I.ok.frames, .inr ⟨rfl, rfl⟩, fun b hb => absurd hb (by simp [cxL]), I.bs, Nat.le_trans I.ok.bsz I.sz, fun b _ _ => by simp [cxL], fun b hb => absurd hb (by simp [cxL]), I.stack, I.stkFree⟩,
    rfl, I.bare, Un.kept kp, ⟨m0, hns, fun i x v h1 h2 h3 => ?_⟩, fun x c e => ?_, I.hok.fresh (Nat.le_refl _), C.free, fun p hp => absurd hp (by simp [cxL]), HOk.kept I.hok kp, C.len⟩
  · rcases hx with hx | hx
    · exact absurd rfl (fr x _ hx).1
    · exact Option.isSome_iff_exists.mp ((fr x _ hx).2.2 rfl)
  · obtain ⟨u, c, ru, hc', hcell⟩ := C.has i x v h1 h2
    refine ⟨u, ru, .inr ⟨?_, c, hc', hcell.keeps kp⟩⟩
    have hv : Vis scope x := h3
    rcases hv with hv | hv | hv
    · exact absurd rfl (fr x _ hv).2.1
    · exact absurd rfl (fr x _ hv).1
    · exact .inr hv
  · obtain ⟨v, q⟩ := C.cell x c e
    exact ⟨v, q.keeps kp⟩
/-- the call of a lambda in the context Y -/
theorem run_lam {scope : Scope} {clos : List (Str × Addr)} {name qual : Str} {params : Arguments} {body : Expr} {pm ctv : Value} {g c' : Addr} {xs : List Str} {σZ : St} {τZ : Tau} {fE : FE} {ρ : List Addr} {vh : VH} {Q : VK} (I : Inv Y pins σ H s) (hc : Y.calm = true)
    (ho : s.heap.get? g = some (PySem.W.kla_obj name qual params body scope clos pm c' ctv)) (hcd : s.heap.CodeRec (.ref c') qual) (hbind : bindArgs (PySem.W.kla_fn name qual params body scope clos pm (.ref c') ctv) ⟨[], []⟩ = pure [])
    (hroom : Y.A.depth < recursionLimit) (hk : scope.kind = .function) (hco : scope.isCoroutine = false) (hgen : scope.isGenerator = false) (hfree : ∀ y ∈ scope.names, y.2 ≠ .cell ∧ y.2 ≠ .local ∧ (y.2 = .free → (clos.lookup y.1).isSome = true)) (C : CellsAt clos xs σZ H s.heap)
    (hE : ∀ (L : Addr) (s : Shared) (H : Hp) (xe : Value → Shared → Prop), EOk tb (cxL Y xs (lamEnv scope L clos (qual ++ ".<locals>.") g (.ref c')) s H xe) body fE) (st : StRel Y.A.handled ρ H τZ σZ) (S : Sim tb ρ vh H) (p : Post tb Y σ ρ H (fE τZ vh) Q) :
    codeAny (model Y.prog Y.w) Y.A (.call (.ref g) ⟨[], []⟩) (fun r s' => match r with | .ok (.ret v) => EP Y pins σ Q v s' | .ok _ => False | .error e => Y.xe e s') s := by
  refine PySem.W.kla_callFunE hroom ho rfl hco hgen rfl hcd ?_
  rw [hbind]
  refine wpAny_pure (wpAny_newFunctionEnv (fun x hx => ?_) (fun _ h => absurd h (by simp)) (fun h4 hns hsb => ⟨?_, ?_⟩) hk)
  · exact (hfree x hx).1
  · exact I.nolimit.fresh _ hsb
  · show codeAny _ _ (.expr body (lamEnv scope s.heap.objs.size clos (qual ++ ".<locals>.") g (.ref c'))) _ _
    refine PySem.W.kla_codeExpr ?_
    have J := inv_lam (qual := qual ++ ".<locals>.") (g := g) (cd := .ref c') (t4 := s.toks + ([] : List (Str × Value)).length) (xe := fun e s1 => wpAny (model Y.prog Y.w) (Y.A.deeper (lamEnv scope s.heap.objs.size clos (qual ++ ".<locals>.") g (.ref c'))) (leaving (lamEnv scope s.heap.objs.size clos (qual ++ ".<locals>.") g (.ref c')) e) (fun _ s'' => Y.xe e s'') (fun e'' s'' => Y.xe e'' s'') s1) I hc hk hfree C hns hsb
    refine wpAny_mono (hE s.heap.objs.size s H _ [] _ σZ H Q J ⟨ρ, vh, τZ, st, S, ?_⟩) (fun v s' q => ?_) fun _ _ z => z
    · cases ef : fE τZ vh with
      | ok v vh1 => rw [ef] at p; exact p
      | bad => rw [ef] at p; exact p
      | exc x vh1 =>
        rw [ef] at p
        intro ev s1 q1
        have lg := leave_G (X := cxL Y xs (lamEnv scope s.heap.objs.size clos (qual ++ ".<locals>.") g (.ref c')) s H (fun e s1 => wpAny (model Y.prog Y.w) (Y.A.deeper (lamEnv scope s.heap.objs.size clos (qual ++ ".<locals>.") g (.ref c'))) (leaving (lamEnv scope s.heap.objs.size clos (qual ++ ".<locals>.") g (.ref c')) e) (fun _ s'' => Y.xe e s'') (fun e'' s'' => Y.xe e'' s'') s1)) (H0 := H) (E := fun cls d H' => ∃ x' vh' ρ', fE τZ vh = .exc x' vh' ∧ cls = .ref x'.cls ∧ ρ <+: ρ' ∧ Keep H H' ∧ Sim tb ρ' vh' H' ∧ XF ρ' H' d x')
          (R := fun e'' s'' => Y.xe e'' s'') rfl ⟨rfl, rfl⟩ (fun ρ' H' dO p1 k1 S1 f1 => ⟨x, vh1, ρ', ef, rfl, p1, k1, S1, f1⟩) q1
        refine wpAny_mono lg (fun _ s'' hq => ?_) fun _ _ z => z
        rw [← ef] at p
        exact after_F (r := .error ev) I p hq
    · obtain ⟨w, H', J', rv, q⟩ := q
      exact I.after ⟨w, H', J'.os, J'.bare, J'.base, J'.hok, rv, q⟩
end
end FS

set_option Elab.async false
set_option linter.all false
set_option maxRecDepth 100000
set_option maxHeartbeats 4000000
namespace FS
open PySem PySem.Spec PyProof.Rows L2 FX
theorem among_more {pos : Pos} {cv : Value} (m : List Value) : ∀ (l : List Value), TriplesOk l → codeAmong pos l = some cv → codeAmong pos (l ++ m) = some cv := fun l h hs => by
  fun_induction TriplesOk l with
  | case1 => cases hs
  | case2 a t b u x rest ih =>
    simp only [List.cons_append, codeAmong] at hs ⊢
    split at hs
    · rename_i hc; rw [if_pos hc]; exact hs
    · rename_i hc; rw [if_neg hc]; exact ih h hs
  | case3 l h1 h2 => exact h.elim
theorem among_new {pos pos' : Pos} {c : Value} {cv : Value} : ∀ (l : List Value), TriplesOk l → codeAmong pos' (l ++ [rawInt pos.line, rawInt pos.col, c]) = some cv → codeAmong pos' l = some cv ∨ cv = c := fun l h hs => by
  fun_induction TriplesOk l with
  | case1 =>
    simp only [List.nil_append, codeAmong, rawInt] at hs
    split at hs
    · cases hs; exact .inr rfl
    · cases hs
  | case2 a t b u x rest ih =>
    simp only [List.cons_append, codeAmong] at hs ⊢
    split at hs
    · rename_i hc; rw [if_pos hc]; exact .inl hs
    · rename_i hc; rw [if_neg hc]; exact ih h hs
  | case3 l h1 h2 => exact h.elim
/-- what is known of the code that makes lambdas: its head, its table, the builtins -/
structure LamAt (X : Cx) (tb : Tb) (c P : Addr) (q : Str) : Prop where
  code : X.env.code = .ref c
  mem : (c, P, q) ∈ tb
  one : ∀ c' q', (c', P, q') ∈ tb → q' = q
  head : PySem.W.CodeHd X.base c P
  ng : mainGlobals ≠ P
  blt : X.base.BuiltinsAt X.mg P
section
variable {tb : Tb} {X : Cx} {pins : List (Addr × Obj)} {σ : St} {H : Hp} {s : Shared}
theorem blt_keeps {h h' : Heap} {mg : Str → Option Value} {P : Addr} (x : h.BuiltinsAt mg P) (k : ∀ b o, h.get? b = some o → h'.get? b = some o) : h'.BuiltinsAt mg P :=
  let ⟨bm, o, a, b, c, d, e, r⟩ := x; ⟨bm, o, a, b, c, d, k _ _ e, r⟩
theorem lam_eval {params : Arguments} {body : Expr} {scope : Scope} {lpos : Pos} {clos : List (Str × Addr)} {c P : Addr} {q : Str} {ρ : List Addr} {vh : VH} {Q : Value → Shared → Prop} {E : Value → Shared → Prop} (L : LamAt X tb c P q) (hq : q = X.env.qual ++ "<lambda>") (hdef : defaultsOf params X.env = ([], [])) (hcl : closureFor scope X.env = pure clos)
    (I : Inv X pins σ H s) (S : Sim tb ρ vh H)
    (k : ∀ g c' ctv pm H1 s1 ps, Keep H H1 → Inv X pins σ H1 s1 → Sim tb ρ vh H1 → s1.heap.get? g = some (PySem.W.kla_obj "<lambda>" q params body scope clos pm c' ctv) → H1 g = none → g ∉ frs X.stack → H1 P = some (.tbl ps) → TriplesOk ps.toList → codeAmong lpos ps.toList = some (.ref c') → Q (.ref g) s1) :
    wpAny (model X.prog X.w) X.A (eval (.Lambda params body scope lpos) X.env) Q E s := by
  refine PySem.W.kla_eval hdef ?_
  rw [← hq]
  obtain ⟨ps, hP, tri, ent⟩ := S.tab c P q L.mem
  have gP : s.heap.get? P = some (PySem.W.tabObj ps) := I.hok P _ hP
  have hgl : s.heap.Ns mainGlobals X.mg := I.mod.glob.keeps I.bk
  have stkOut : ∀ (h' : Heap) (g : Addr), s.heap.objs.size ≤ g → g ∉ frs X.stack := fun h' g hg z => by
    obtain ⟨_, o, ho, _⟩ := I.stack.mem z
    exact absurd (Nat.lt_of_lt_of_le (Heap.lt_size ho) hg) (Nat.lt_irrefl _)
  cases ha : codeAmong lpos ps.toList with
  | some cv =>
    obtain ⟨c', φ, rfl, hc', hφ⟩ := ent lpos cv ha
    refine PySem.W.kla_makeFunctionHit hcl I.ok.glob hgl L.code (L.head.keeps I.bk) gP tri ha (blt_keeps L.blt I.bk) fun ctv h' tk kp sz => ?_
    have kp' : ∀ b o, s.heap.get? b = some o → (h'.push { cls := .type "function", data := .func (PySem.W.kla_fn "<lambda>" q params body scope clos ((X.mg "__name__").getD .none) (.ref c') ctv) }).get? b = some o := fun b o e => Heap.get?_push_of_some _ (kp b o e)
    refine k h'.objs.size c' ctv _ H _ ps Keep.refl (I.kept kp') S (Heap.get?_push_size _ rfl) (I.hok.fresh sz) (stkOut h' _ sz) hP tri ha
  | none =>
    refine PySem.W.kla_makeFunction hcl I.ok.glob hgl L.code (L.head.keeps I.bk) gP tri ha L.ng (blt_keeps L.blt I.bk) fun c' ctv h' tk hx hge hlt hrec htb => ?_
    have sz : s.heap.objs.size ≤ h'.objs.size := Nat.le_of_lt (Nat.lt_of_le_of_lt hge hlt)
    have nc : H c' = none := I.hok.fresh hge
    have cP : c' ≠ P := fun z => by rw [z, hP] at nc; cases nc
    have gc : s.heap.get? c' = none := Heap.get?_none_of_le hge
    have H1P : (upd (upd H P (.tbl (ps ++ #[rawInt lpos.line, rawInt lpos.col, .ref c']))) c' (.ext fun h => h.CodeRec (.ref c') q)) P = some (.tbl (ps ++ #[rawInt lpos.line, rawInt lpos.col, .ref c'])) := by rw [upd_ne (Ne.symm cP), upd_same]
    have H1c : (upd (upd H P (.tbl (ps ++ #[rawInt lpos.line, rawInt lpos.col, .ref c']))) c' (.ext fun h => h.CodeRec (.ref c') q)) c' = some (.ext fun h => h.CodeRec (.ref c') q) := upd_same
    have H1n : ∀ b, b ≠ P → b ≠ c' → (upd (upd H P (.tbl (ps ++ #[rawInt lpos.line, rawInt lpos.col, .ref c']))) c' (.ext fun h => h.CodeRec (.ref c') q)) b = H b := fun b h1 h2 => by rw [upd_ne h2, upd_ne h1]
    generalize hH1 : (upd (upd H P (.tbl (ps ++ #[rawInt lpos.line, rawInt lpos.col, .ref c']))) c' (.ext fun h => h.CodeRec (.ref c') q)) = H1 at H1P H1c H1n
    have keepH : Keep H H1 := fun a u i e => by
      rw [H1n a (fun z => by rw [z, hP] at e; cases e; exact i) (fun z => by rw [z, nc] at e; cases e)]; exact e
    have push : ∀ b o, b ≠ P → s.heap.get? b = some o → (h'.push (PySem.W.kla_obj "<lambda>" q params body scope clos ((X.mg "__name__").getD .none) c' ctv)).get? b = some o := fun b o hb e => Heap.get?_push_of_some _ (hx b o hb e)
    have newP : (h'.push (PySem.W.kla_obj "<lambda>" q params body scope clos ((X.mg "__name__").getD .none) c' ctv)).get? P = some (PySem.W.tabObj (ps ++ #[rawInt lpos.line, rawInt lpos.col, .ref c'])) := Heap.get?_push_of_some _ htb
    have nP : ∀ b, H b = none → b ≠ P := fun b hb z => by rw [z, hP] at hb; cases hb
    have ncB : ∀ b o, s.heap.get? b = some o → b ≠ c' := fun b o e z => by rw [z, gc] at e; cases e
    have u : Un X.fs [] H H1 s.heap (h'.push (PySem.W.kla_obj "<lambda>" q params body scope clos ((X.mg "__name__").getD .none) c' ctv)) := by
      refine ⟨fun b o e n _ _ => push b o (nP b n) e, fun b o e n _ _ => ⟨o.slots, push b o (nP b n) e⟩, fun b o e n _ => by rw [H1n b (nP b n) (ncB b o e)]; exact n, fun b o e _ => ?_, fun b xs e => keepH b _ trivial e, fun b o u e => ?_, fun b ps' e => ?_⟩
      · by_cases hb : b = P
        · subst hb; exact ⟨_, newP⟩
        · exact ⟨o, push b o hb e⟩
      · rw [H1n b (fun z => by rw [z, hP] at e; cases e) (fun z => by rw [z, nc] at e; cases e)]; exact e
      · by_cases hb : b = P
        · subst hb; rw [hP] at e; cases e; exact ⟨_, H1P⟩
        · exact ⟨#[], by rw [H1n b hb (fun z => by rw [z, nc] at e; cases e)]; simpa using e⟩
    have hok : HOk X.prog X.w H1 (h'.push (PySem.W.kla_obj "<lambda>" q params body scope clos ((X.mg "__name__").getD .none) c' ctv)) := fun a o e => by
      by_cases ha1 : a = P
      · subst ha1; rw [H1P] at e; cases e; exact newP
      · by_cases ha2 : a = c'
        · subst ha2
          rw [H1c] at e; cases e
          obtain ⟨c2, oc, vs, t, e2, hoc, hd, hv⟩ := hrec
          cases e2
          refine ⟨⟨_, oc, vs, t, rfl, Heap.get?_push_of_some _ hoc, hd, hv⟩, ⟨oc, Heap.get?_push_of_some _ hoc⟩, fun g1 g2 hp hk => ?_⟩
          obtain ⟨c3, o3, v3, t3, e3, g3, r3⟩ := hp
          cases e3
          exact ⟨_, o3, v3, t3, rfl, hk _ g3, r3⟩
        · rw [H1n a ha1 ha2] at e
          refine (I.hok a o e).stay (fun b u hb e2 => push b u (fun z => ?_) e2) (fun b e2 => ?_) fun b xs e2 => keepH b _ trivial e2
          · rcases hb with hb | hb
            · exact ha1 (by rw [← hb, z])
            · rw [z, hP] at hb; cases hb
          · rw [H1n b (fun z => by rw [z, hP] at e2; cases e2) (fun z => by rw [z, nc] at e2; cases e2)]; exact e2
    have tri1 : TriplesOk (ps ++ #[rawInt lpos.line, rawInt lpos.col, Value.ref c']).toList := by
      rw [Array.toList_append]; exact TriplesOk_snoc _ _ _ _ tri
    have S1 : Sim tb ρ vh H1 := by
      refine ⟨fun c2 P2 q2 m2 => ?_, S.nd, S.len, fun i a ob e1 e2 => ?_⟩
      · by_cases h2 : P2 = P
        · subst h2
          cases L.one c2 q2 m2
          refine ⟨_, H1P, tri1, fun pos' cv hcv => ?_⟩
          rw [Array.toList_append] at hcv
          rcases among_new _ tri hcv with hcv | rfl
          · obtain ⟨c3, φ, rfl, h3, h4⟩ := ent pos' cv hcv
            exact ⟨c3, φ, rfl, keepH c3 _ trivial h3, h4⟩
          · exact ⟨c', _, rfl, H1c, fun h hh => hh⟩
        · obtain ⟨ps2, e2, t2, n2⟩ := S.tab c2 P2 q2 m2
          refine ⟨ps2, by rw [H1n P2 h2 (fun z => by rw [z, nc] at e2; cases e2)]; exact e2, t2, fun pos' cv hcv => ?_⟩
          obtain ⟨c3, φ, rfl, h3, h4⟩ := n2 pos' cv hcv
          exact ⟨c3, φ, rfl, keepH c3 _ trivial h3, h4⟩
      · refine (S.obj i a ob e1 e2).mono List.prefix_rfl keepH ?_
        obtain ⟨u, hu, cu⟩ := S.some (List.mem_of_getElem? e1)
        exact H1n a (fun z => by rw [z, hP] at hu; cases hu; exact cu) (fun z => by rw [z, nc] at hu; cases hu)
    refine k h'.objs.size c' ctv _ H1 _ _ keepH (I.un u hok) S1 (Heap.get?_push_size _ rfl) ?_ (stkOut h' _ sz) H1P tri1 ?_
    · rw [H1n _ (fun z => by rw [← z, I.hok.fresh sz] at hP; cases hP) (Nat.ne_of_gt hlt)]; exact I.hok.fresh sz
    · rw [Array.toList_append]; exact codeAmong_snoc _ tri ha
end
end FS

set_option Elab.async false
set_option linter.all false
set_option maxRecDepth 100000
set_option maxHeartbeats 4000000
namespace FS
open PySem PySem.Spec PyProof.Rows L2 FX
section
variable {tb : Tb} {X : Cx}
def flTry (fh : FH) (f : Fl) : Fl := match f with
  | .exc x h' => fh x h'
  | .ret v h' => .ret v h'
  | _ => .bad
theorem try_raw {body : List Stmt} {h₀ : ExceptHandler} {hs : List ExceptHandler} {pos : Pos} {f : Fl} {fh : FH} {σ : St} {H : Hp} {s : Shared} {ρ : List Addr} {D : Ends} (hex : X.ex = []) (hstk : X.stack = X.env :: X.outer ∧ X.env.frame = some X.env.locals) (hfn : ∀ x, X.fn x = true)
    (hb : ∀ xe D', PostS tb { X with xe := xe } ρ H f D' → wpAny (model X.prog X.w) X.A (execs body X.env) (SP { X with xe := xe } [] D') xe s) (hh : HsOk tb X (h₀ :: hs) fh) (I : Inv X [] σ H s) (p : PostS tb X ρ H (flTry fh f) D) :
    wpAny (model X.prog X.w) X.A (exec (.Try body (h₀ :: hs) [] [] pos) X.env) (SP X [] D) X.xe s := by
  refine wpAny_Try_except ?_
  have hb' := hb (fun e s₁ => wpAny (model X.prog X.w) X.A (noteFrame e X.env) (fun _ s₂ => wpAny (model X.prog X.w) X.A (setFlight e none) (fun _ s₃ => wpAny (model X.prog X.w) X.A (handleBy e X.env (h₀ :: hs)) (SP X [] D) X.xe s₃) X.xe s₂) X.xe s₁) { nx := fun _ _ => False, rt := D.rt } ?_
  · refine wpAny_mono hb' (fun fl s' q => ?_) fun _ _ z => z
    cases fl with
    | ret u => obtain ⟨v', σ', H', J, rv, q⟩ := q; exact ⟨v', σ', H', J.wish _, rv, q⟩
    | next => obtain ⟨_, _, _, q⟩ := q; exact q.elim
    | brk => obtain ⟨_, _, _, q⟩ := q; exact q.elim
    | cont => obtain ⟨_, _, _, q⟩ := q; exact q.elim
  · cases f with
    | exc x h' =>
      intro σ' ev s' q
      obtain ⟨ρ1, H1, e1, p1, k1, I1, S1, rfl, xa⟩ := q
      refine catchA (H := H) (ρ := ρ) hex hstk hfn ⟨ρ1, H1, e1, p1, k1, I1.wish _, S1, rfl, ⟨xa.nb, xa.nH, xa.n0, xa.np, xa.stage⟩⟩ fun ρ2 H2 e T dO s2 p2 k2 e2 I2 S2 c => ?_
      cases e2
      exact hh σ' H2 s2 ρ2 h' x e1 T dO D I2 S2 c (PostS.fwd p2 k2 p)
    | ret v h' => exact p
    | next _ _ => exact p.elim
    | brk _ _ => exact p.elim
    | cont _ _ => exact p.elim
    | bad => exact p.elim
theorem cells_of {pins : List (Addr × Obj)} {σ : St} {H : Hp} {s : Shared} {scope : Scope} {clos : List (Str × Addr)} {pr : List Nat} {xs : List Str} (I : Inv X pins σ H s) (hcl : AllC X.env.cells clos) (cap : CapOk X scope clos pr xs) : CellsAt clos xs (pr.map fun j => (σ[j]?).getD none) H s.heap := by
  refine ⟨fun x y c h1 h2 => I.ok.inj x y c (hcl.look h1) (hcl.look h2), fun x c e => I.cell x c (hcl.look e), fun x c e => I.freeC x c (hcl.look e), fun i x v h1 h2 => ?_, by rw [List.length_map, cap.len]⟩
  obtain ⟨j, q1, q2, q3, q4, q5⟩ := cap.get h1
  rw [List.getElem?_map, q1] at h2
  have h2' : (σ[j]?).getD none = some v := by simpa using h2
  cases e : σ[j]? with
  | none => rw [e] at h2'; cases h2'
  | some o =>
    rw [e] at h2'
    have h2'' : o = some v := h2'
    subst h2''
    obtain ⟨mX, hnX, hlX⟩ := I.loc
    obtain ⟨u, ru, lk⟩ := hlX j x v q2 e (.inr q3)
    obtain ⟨c, hc⟩ := Option.isSome_iff_exists.mp q4
    refine ⟨u, c, ru, hc, ?_⟩
    rcases lk with ⟨kl, _⟩ | ⟨_, c', e', z'⟩
    · exfalso
      have kl' : X.env.scope.names.lookup x = some .local := kl
      rcases q3 with q3 | q3 <;> (rw [q3] at kl'; cases kl')
    · rw [hcl.look hc] at e'; cases e'; exact z'
/-- cells stay through what leaves them alone -/
theorem CellsAt.un {clos : List (Str × Addr)} {xs : List Str} {σZ : St} {fs : List Addr} {H H' : Hp} {h h' : Heap} (C : CellsAt clos xs σZ H h) (u : Un fs [] H H' h h') : CellsAt clos xs σZ H' h' := by
  have cell : ∀ x c, clos.lookup x = some c → ∀ v, h.IsCell c v → h'.IsCell c v := fun x c e v ⟨o, g, d⟩ => by
    obtain ⟨sl, q⟩ := u.any g (C.free x c e) (by simp)
    exact ⟨_, q, d⟩
  refine ⟨C.inj, fun x c e => ?_, fun x c e => ?_, fun i x v h1 h2 => ?_, C.len⟩
  · obtain ⟨v, q⟩ := C.cell x c e; exact ⟨v, cell x c e v q⟩
  · obtain ⟨v, o, g, d⟩ := C.cell x c e; exact u.free c o g (C.free x c e) (by simp)
  · obtain ⟨uu, c, r, e, q⟩ := C.has i x v h1 h2; exact ⟨uu, c, r, e, cell x c e _ q⟩
theorem execs_one {st : Stmt} {D : Ends} {s : Shared} {E : Value → Shared → Prop} (h : wpAny (model X.prog X.w) X.A (exec st X.env) (SP X [] D) E s) : wpAny (model X.prog X.w) X.A (execs [st] X.env) (SP X [] D) E s := by
  refine wpAny_execs_cons (thn h fun f s1 q => ?_)
  cases f with
  | next => exact wpAny_execs_nil q
  | _ => exact q
def fTold (pr : List Nat) (fE : FE) (fh : FH) : FE := fun τ h => match fE (startC 0 pr τ) h with
  | .ok v h' => .ok v h'
  | .exc x h' => match fh x h' with
    | .ret v h2 => .ok v h2
    | _ => .bad
  | .bad => .bad
/-- within a lambda that is called from a frame of Around A -/
def cxT (P : Program) (w : World) (K : PySem.W.Frag) (mg : Str → Option Value) (base : Heap) (A : Around) (stk : List Env) (xs : List Str) (env2 : Env) (s : Shared) (H : Hp) (xe : Value → Shared → Prop) : Cx :=
  { prog := P, w := w, K := K, mg := mg, base := base, A := A.deeper env2, N := xs, s₀ := s, H₀ := H, env := env2, outer := stk, stack := env2 :: stk, ex := [], fn := fun _ => false, calm := true, pn := [], xe := xe }
variable {P : Program} {w : World} {K : PySem.W.Frag} {mg : Str → Option Value} {base : Heap}
theorem e_told {k : Nat} {f : Addr} {tname tqual tn dn : Str} {tparams params : Arguments} {tscope scope : Scope} {dV kV doc pm cdv ct oc : Value} {an od : Option Addr} {osl : Array (Option Value)} {Nt xs : List Str} {dp cp rp tpos tp pos lpos : Pos} {h₀ : ExceptHandler} {hs : List ExceptHandler} {body : Expr}
    {clos : List (Str × Addr)} {c Pt : Addr} {q : Str} {pr : List Nat} {fE : FE} {fh : FH}
    (hX : X.prog = P ∧ X.w = w ∧ X.K = K ∧ X.mg = mg ∧ X.base = base) (hcalm : X.calm = true)
    (lk : K.lookup f = some ⟨oc, od, .func (PySem.W.fnOf tname tqual tparams [.Try [.Return (some (.Call (.Name dn dp) [] [] cp)) rp] (h₀ :: hs) [] [] tpos] tscope dV kV doc pm an cdv ct), osl⟩) (hcd : PySem.W.codeIn K cdv tqual = true) (Sc : FnScope Nt [dn] tscope) (hloc : tscope.names.lookup dn = some .local)
    (hg : Gl X tn) (hm : mg tn = some (.ref f)) (hk : PySem.W.keepIn K (.ref f) = true) (hb : Binds K (PySem.W.fnOf tname tqual tparams [.Try [.Return (some (.Call (.Name dn dp) [] [] cp)) rp] (h₀ :: hs) [] [] tpos] tscope dV kV doc pm an cdv ct) [dn] [])
    (hr : Room (k + 2) X.A) (L : LamAt X tb c Pt q) (hq : q = X.env.qual ++ "<lambda>") (hdef : defaultsOf params X.env = ([], [])) (hcl : closureFor scope X.env = pure clos) (hall : AllC X.env.cells clos) (cap : CapOk X scope clos pr xs)
    (hbind : ∀ pm' c' ctv, bindArgs (PySem.W.kla_fn "<lambda>" q params body scope clos pm' (.ref c') ctv) ⟨[], []⟩ = pure []) (hsk : scope.kind = .function) (hco : scope.isCoroutine = false) (hgen : scope.isGenerator = false)
    (hfree : ∀ y ∈ scope.names, y.2 ≠ .cell ∧ y.2 ≠ .local ∧ (y.2 = .free → (clos.lookup y.1).isSome = true))
    (hh : ∀ (A : Around) (outer : List Env) (s : Shared) (H : Hp) (E : XK), Room (k + 1) (A.deeper (envOfC tqual tscope s.heap.objs.size f cdv)) → HsOk tb (cxOf (CXF P w base) P w K mg base Nt tqual tscope f cdv A outer s H E) (h₀ :: hs) fh)
    (hE : ∀ (A : Around) (stk : List Env) (Lz g : Addr) (c' : Addr) (s : Shared) (H : Hp) (xe : Value → Shared → Prop), Room k (A.deeper (lamEnv scope Lz clos (q ++ ".<locals>.") g (.ref c'))) → EOk tb (cxT P w K mg base A stk xs (lamEnv scope Lz clos (q ++ ".<locals>.") g (.ref c')) s H xe) body fE)
    (hdb : (tn == ("__debug__" : Str)) = false := by decide) (hdd : (dn == ("__debug__" : Str)) = false := by decide) (hdc : (dn == ("__classdict__" : Str)) = false := by decide) :
    EOk tb X (.Call (.Name tn tp) [.Lambda params body scope lpos] [] pos) (fTold pr fE fh) := by
  obtain ⟨rfl, rfl, rfl, rfl, rfl⟩ := hX
  intro pins s σ H Q I ⟨ρ, vh, τ, st, S, p⟩
  refine wpAny_Call_Name_kw (ld_glob I hg hm ?_ hdb)
  refine PySem.W.callWith_K (h₀ := X.base) I.ok.mod.kin hk ?_ rfl rfl
  show wpAny _ _ (spliced ((false, eval (.Lambda params body scope lpos) X.env) :: backTo pos (starEach [] X.env))) _ _ s
  refine Calls.spliced_cons (lam_eval L hq hdef hcl I S fun g c' ctv pm' H1 s1 ps k1 I1 S1 hgo hgn hgf hPt tri hamong => ?_)
  refine Calls.spliced_nil ⟨I1.kIn, ?_⟩
  have C1 : CellsAt clos xs (pr.map fun j => (σ[j]?).getD none) H1 s1.heap := cells_of I1 hall cap
  have st1 := (startC_rel (pr := pr) 0 (st.mono List.prefix_rfl k1))
  have hbb := hb s1 [.ref g] I1.kIn rfl
  rw [List.append_nil] at hbb
  -- the frame of the def
  have KX := I1.kIn
  have lim : s1.heap.NoLimit := I1.nolimit
  refine wpAny_call (codeAny_call_function (Room.mono hr (by omega : k + 1 ≤ k + 2)).depth (KX _ _ lk) rfl Sc.co Sc.gen rfl (PySem.W.codeRec_of KX hcd) (hbb _ _ _ _ ?_))
  refine wpAny_newFunctionEnv_cells Sc.kind (fun ⟨n, v⟩ hy => ?_) fun env he s2 x => ?_
  · have : n = dn := by simpa using (List.of_mem_zip hy).1
    subst this; exact .inl hloc
  subst he
  refine ⟨lim.keeps x.toInCall.keep, codeAny_func ?_⟩
  have r1 : Vals [V.ref g] [Value.ref g] := .cons rfl .nil
  have IY : Inv (cxOf (CXF X.prog X.w X.base) X.prog X.w X.K X.mg X.base Nt tqual tscope f cdv X.A X.stack s1 H1 (fun _ _ _ => False)) [] (L2.start Nt [.ref g]) H1 s2 := inv_start Sc hr.hd I1.env0 rfl r1 x
  have hN0 : Nt[0]? = some dn := by
    have := Sc.pre
    cases Nt with
    | nil => simp at this
    | cons a t => simp at this; rw [this]; rfl
  have hσ0 : (L2.start Nt [V.ref g])[0]? = some (some (V.ref g)) := by unfold L2.start; rfl
  have hrY : Room (k + 1) (X.A.deeper (envOfC tqual tscope s1.heap.objs.size f cdv)) := hr.deeper _
  have hHs := hh X.A X.stack s1 H1 (fun _ _ _ => False) hrY
  have key := try_raw (X := cxOf (CXF X.prog X.w X.base) X.prog X.w X.K X.mg X.base Nt tqual tscope f cdv X.A X.stack s1 H1 (fun _ _ _ => False)) (tb := tb) (pos := tpos) (ρ := ρ) (σ := L2.start Nt [.ref g]) (H := H1) (s := s2) (D := { nx := fun _ _ => False, rt := Q })
    (f := match fE (startC 0 pr τ) vh with | .ok v h' => .ret v h' | .exc x h' => .exc x h' | .bad => .bad) (body := [.Return (some (.Call (.Name dn dp) [] [] cp)) rp]) rfl ⟨rfl, rfl⟩ (fun _ => rfl) (fun xe D' pD => ?_) hHs IY ?_
  · refine wpAny_mono (execs_one key) (fun fl s' hs => ?_) fun e s' hs => ?_
    · cases fl with
      | ret u =>
        obtain ⟨v, σ', H', J, rv, q⟩ := hs
        exact I1.after ⟨v, H', J.os, J.bare, J.base, J.hok, rv, q⟩
      | next => obtain ⟨_, _, _, q⟩ := hs; exact q.elim
      | brk => obtain ⟨_, _, _, q⟩ := hs; exact q.elim
      | cont => obtain ⟨_, _, _, q⟩ := hs; exact q.elim
    · refine wpAny_mono hs (fun _ s'' hz => ?_) fun e' s'' hz => ?_
      · obtain ⟨_, _, _, _, _, _, _, _, _, _, _, _, _, _, _, _, _, _, _, z⟩ := hz; exact z.elim
      · obtain ⟨_, _, _, _, _, _, _, _, _, _, _, _, _, _, _, _, _, _, _, z⟩ := hz; exact z.elim
  · -- the lambda is called
    have te : PE { cxOf (CXF X.prog X.w X.base) X.prog X.w X.K X.mg X.base Nt tqual tscope f cdv X.A X.stack s1 H1 (fun _ _ _ => False) with xe := xe } (.Call (.Name dn dp) [] [] cp) (fun σ' H' Q' => σ'[0]? = some (some (V.ref g)) ∧ ∃ ρ' vh', Sim tb ρ' vh' H' ∧ StRel X.A.handled ρ' H' (startC 0 pr τ) (pr.map fun j => (σ[j]?).getD none) ∧
        Post tb { cxOf (CXF X.prog X.w X.base) X.prog X.w X.K X.mg X.base Nt tqual tscope f cdv X.A X.stack s1 H1 (fun _ _ _ => False) with xe := xe } σ' ρ' H' (fE (startC 0 pr τ) vh') Q') := by
      intro pins' s' σ' H' Q' J ⟨h0, ρ', vh', S', st', p'⟩
      refine wpAny_Call_Name_kw (thn (pe_var (X := { cxOf (CXF X.prog X.w X.base) X.prog X.w X.K X.mg X.base Nt tqual tscope f cdv X.A X.stack s1 H1 (fun _ _ _ => False) with xe := xe }) (pos := dp) hN0 (.inl hloc) hdd hdc pins' s' σ' H' (fun v H2 => v = .ref g ∧ H2 = H') J ⟨_, h0, rfl, rfl⟩) fun u s3 ⟨v, H2, J2, rv, hv, hH⟩ => ?_)
      subst hv hH
      cases (show u = Value.ref g from rv)
      have ho : s3.heap.get? g = some (PySem.W.kla_obj "<lambda>" q params body scope clos pm' c' ctv) := J2.base.keep g _ hgo hgn hgf (by simp [cxOf])
      have hcr : s3.heap.CodeRec (.ref c') q := by
        obtain ⟨more, hm2⟩ := J2.base.tbls Pt ps hPt
        obtain ⟨ps2, e2, t2, n2⟩ := S'.tab c Pt q L.mem
        rw [hm2] at e2; cases e2
        have ha2 := among_more more.toList _ tri hamong
        rw [← Array.toList_append] at ha2
        obtain ⟨c3, φ, e3, h3, h4⟩ := n2 lpos _ ha2
        cases e3
        exact h4 _ (J2.hok c' _ h3).1
      refine Calls.callWith_function (a := g) (PySem.evalArgs_none ⟨⟨ho, rfl⟩, ?_⟩)
      refine wpAny_call (run_lam (xs := xs) (σZ := pr.map fun j => (σ[j]?).getD none) (τZ := startC 0 pr τ) (fE := fE) J2 rfl ho hcr (hbind _ _ _) hrY.depth hsk hco hgen hfree (C1.un J2.base) (fun Lz s4 H4 xe4 => hE _ _ Lz g c' s4 H4 xe4 (hrY.deeper _)) st' S' p')
    refine pss_one (ps_ret te) [] s2 (L2.start Nt [.ref g]) H1 D' (IY.wish _) ⟨hσ0, ρ, vh, S1, ?_, ?_⟩
    · simpa using st1
    · cases ef : fE (startC 0 pr τ) vh with
      | ok v h' => rw [ef] at pD; exact pD
      | exc x h' => rw [ef] at pD; exact fun ev s' q => pD _ ev s' q
      | bad => rw [ef] at pD; exact pD
  · have p1 := Post.fwd List.prefix_rfl k1 p
    unfold fTold at p1
    cases ef : fE (startC 0 pr τ) vh with
    | ok v h' => rw [ef] at p1; exact p1
    | exc x h' =>
      rw [ef] at p1
      dsimp only at p1
      show PostS tb _ ρ H1 (fh x h') _
      cases eh : fh x h' with
      | ret v h2 => rw [eh] at p1; exact p1
      | next _ _ => rw [eh] at p1; exact p1.elim
      | brk _ _ => rw [eh] at p1; exact p1.elim
      | cont _ _ => rw [eh] at p1; exact p1.elim
      | exc _ _ => rw [eh] at p1; exact p1.elim
      | bad => rw [eh] at p1; exact p1.elim
    | bad => rw [ef] at p1; exact p1.elim
end
end FS

set_option Elab.async false
set_option linter.all false
set_option maxRecDepth 100000
set_option maxHeartbeats 4000000
namespace FS
open PySem PySem.Spec PyProof.Rows L2 FX
section
variable {tb : Tb} {X : Cx} {pos : Pos}
/-- a, b, c = x, y, z with plain local names -/
def tPar3 (i j l : Nat) (ta : TA) : TS := fun D σ H => ta σ H fun vs H1 => ∃ v w z, vs = [v, w, z] ∧ D.nx (((σ.set i (some v)).set j (some w)).set l (some z)) H1
theorem ps_par3 {i j l : Nat} {x y z : Str} {a b c : Expr} {ta : TA} {px py pz pt : Pos} {kt k2 pt2} (hc : X.calm = true) (hN : X.N.Nodup) (hi : X.N[i]? = some x) (hj : X.N[j]? = some y) (hl : X.N[l]? = some z) (hij : i ≠ j) (hil : i ≠ l) (hjl : j ≠ l)
    (hx : X.env.scope.names.lookup x = some .local) (hy : X.env.scope.names.lookup y = some .local) (hz : X.env.scope.names.lookup z = some .local) (ha : PA X [a, b, c] ta)
    (hw : swappedStores [.Tuple [.Name x px, .Name y py, .Name z pz] kt pt] (.Tuple [a, b, c] k2 pt2) X.env = pure (some [x, y, z]))
    (hs : swapsWithSole [.Tuple [.Name x px, .Name y py, .Name z pz] kt pt] (.Tuple [a, b, c] k2 pt2) pos.line X.env = pure false := by rfl) :
    PS X (.Assign [.Tuple [.Name x px, .Name y py, .Name z pz] kt pt] (.Tuple [a, b, c] k2 pt2) pos) (tPar3 i j l ta) := by
  intro pins s σ H D I h
  rw [exec_Assign_arm]
  refine wpAny_bind (wpAny_standAt ?_)
  rw [hs]
  refine wpAny_bind (wpAny_pure ?_)
  rw [if_neg (by decide)]
  refine wpAny_bind (Tuple_ (thn (ha _ pins s σ H _ I h) fun us s1 ⟨vs, H1, I1, r1, q1⟩ => ?_))
  obtain ⟨v, w, q, e1, q1⟩ := q1
  subst e1
  obtain ⟨u1, u2, u3, rfl, rv, rw', rq⟩ : ∃ u1 u2 u3, us = [u1, u2, u3] ∧ RelV v u1 ∧ RelV w u2 ∧ RelV q u3 := by
    cases r1 with
    | cons p q =>
      cases q with
      | cons p' q' =>
        cases q' with
        | cons p'' q'' =>
          cases q''
          exact ⟨_, _, _, rfl, p, p', p''⟩
  refine wpAny_newObj_type ?_ (by show 3 ≤ sizeLine; decide)
  have I2 : Inv X pins σ H1 { s1 with heap := s1.heap.push { cls := .type "tuple", data := .seq [u1, u2, u3].toArray } } := I1.kept (t' := s1.toks) fun b o e => Heap.get?_push_of_some _ e
  rw [hw]
  refine wpAny_bind (wpAny_pure ?_)
  show wpAny (model X.prog X.w) X.A (do rule "assign.swapped-stores"; let items ← unpackItems (.ref s1.heap.objs.size) 3 none; assignInOrder [fun v => bindName X.env z v, fun v => bindName X.env y v, fun v => bindName X.env x v] items.reverse; pure Flow.next) _ _ _
  refine wpAny_bind (wpAny_rule (wpAny_bind (unpackItems_tuple (items := #[u1, u2, u3]) (I.ok.hd hc) (IsTup.new s1.heap _) fun h' hx' => ?_)))
  have I3 := I2.kept (h' := h') (t' := s1.toks) fun b o e => hx' b o (Nat.ne_of_lt (Heap.lt_size e)) e
  show wpAny _ _ (assignInOrder [fun v => bindName X.env z v, fun v => bindName X.env y v, fun v => bindName X.env x v] [u3, u2, u1] >>= fun _ => pure Flow.next) _ _ _
  refine wpAny_bind (assignInOrder_cons (wpAny_bindName (store_ok I3 hN hl (.inl hz) rq (fun s2 I4 => ?_) (.inr hz))))
  refine assignInOrder_cons (wpAny_bindName (store_ok I4 hN hj (.inl hy) rw' (fun s3 I5 => ?_) (.inr hy)))
  refine assignInOrder_cons (wpAny_bindName (store_ok I5 hN hi (.inl hx) rv (fun s4 I6 => assignInOrder_nil (wpAny_pure ?_)) (.inr hx)))
  have e : ((σ.set l (some q)).set j (some w)).set i (some v) = ((σ.set i (some v)).set j (some w)).set l (some q) := by
    rw [List.set_comm _ _ (Ne.symm hjl), List.set_comm _ _ (Ne.symm hil), List.set_comm _ _ (Ne.symm hij)]
  rw [e] at I6
  exact ⟨_, H1, I6, q1⟩
def sPar3 (i j l : Nat) (fs : FA) : FSt := fun τ => M.then (fs τ) fun xs h => match xs with
  | [u, v, w] => .next (((τ.set i (some u)).set j (some v)).set l (some w)) h
  | _ => .bad
theorem s_par3 {i j l : Nat} {x y z : Str} {a b c : Expr} {fs : FA} {px py pz pt : Pos} {kt k2 pt2} (hc : X.calm = true) (hN : X.N.Nodup) (hi : X.N[i]? = some x) (hj : X.N[j]? = some y) (hl : X.N[l]? = some z) (hij : i ≠ j) (hil : i ≠ l) (hjl : j ≠ l)
    (hx : X.env.scope.names.lookup x = some .local) (hy : X.env.scope.names.lookup y = some .local) (hz : X.env.scope.names.lookup z = some .local) (ha : AOk tb X [a, b, c] fs)
    (hw : swappedStores [.Tuple [.Name x px, .Name y py, .Name z pz] kt pt] (.Tuple [a, b, c] k2 pt2) X.env = pure (some [x, y, z]) := by rfl)
    (hs : swapsWithSole [.Tuple [.Name x px, .Name y py, .Name z pz] kt pt] (.Tuple [a, b, c] k2 pt2) pos.line X.env = pure false := by rfl) :
    SOk tb X (.Assign [.Tuple [.Name x px, .Name y py, .Name z pz] kt pt] (.Tuple [a, b, c] k2 pt2) pos) (sPar3 i j l fs) :=
  PS.mono (ps_par3 hc hN hi hj hl hij hil hjl hx hy hz ha hw hs) fun D σ H ⟨ρ, vh, τ, st, S, p⟩ => ⟨ρ, vh, τ, st, S, seqAS p fun vh1 ρ1 H1 v1 w1 p1 k1 S1 r1 q1 => by
    match v1, r1, q1 with
    | [], _, q1 => exact q1.elim
    | [_], _, q1 => exact q1.elim
    | [_, _], _, q1 => exact q1.elim
    | _ :: _ :: _ :: _ :: _, _, q1 => exact q1.elim
    | [u, v, w], r1, q1 =>
      obtain ⟨a1, _, rfl, ra, b1, _, rfl, rb, c1, _, rfl, rc, rfl⟩ := r1
      exact ⟨a1, b1, c1, rfl, PostS.next q1 S1 ((((st.mono p1 k1).set ra).set rb).set rc)⟩⟩
/-- what is never reached -/
def sBad : FSt := fun _ _ => .bad
theorem s_bad {st : Stmt} : SOk tb X st sBad := fun pins s σ H D I ⟨_, _, _, _, _, p⟩ => p.elim
theorem b_bad {sts : List Stmt} : BOk tb X sts sBad := fun pins s σ H D I ⟨_, _, _, _, _, p⟩ => p.elim
/-- a name in the i-th slot -/
theorem ev (i : Nat) {x : Str} (hN : X.N[i]? = some x := by rfl) (hv : Vis X.env.scope x := by first | exact Or.inl rfl | exact Or.inr (Or.inl rfl) | exact Or.inr (Or.inr rfl)) (hd : (x == ("__debug__" : Str)) = false := by decide) (hcd : (x == ("__classdict__" : Str)) = false := by decide) : EOk tb X (.Name x pos) (fVar i) := e_var hN hv hd hcd
/-- a target in the i-th slot -/
theorem gn (i : Nat) {x : Str} (hN : X.N.Nodup := by first | decide | decide +kernel) (hi : X.N[i]? = some x := by rfl) (hx : Loc X.env.scope x := by first | exact Or.inl rfl | exact Or.inr rfl) (hf : X.fn x = true ∨ X.env.scope.names.lookup x = some .local := by first | exact .inl rfl | exact .inr rfl) : GOk tb X (.Name x pos) (gN i) := g_name hN hi hx hf
end
section
variable {tb : Tb} {P : Program} {w : World} {K : PySem.W.Frag} {mg : Str → Option Value} {base : Heap}
/-- a def of the top as it may be called -/
def FnD (P : Program) (w : World) (K : PySem.W.Frag) (mg : Str → Option Value) (base : Heap) (tb : Tb) (k : Nat) (x : Str) (f : Addr) (ps : List Str) (F : FF) : Prop := ∃ fd, FnF P w K mg base tb k f fd ps F ∧ Binds K fd ps [] ∧ mg x = some (.ref f) ∧ PySem.W.keepIn K (.ref f) = true
def DefD (K : PySem.W.Frag) (mg : Str → Option Value) (x : Str) (st : Stmt) (f : Addr) (ps : List Str) : Prop := ∃ fd, Fun K x x st f fd ∧ Binds K fd ps [] ∧ mg x = some (.ref f)
theorem DefD.fn {x : Str} {st : Stmt} {f : Addr} {ps N : List Str} {k : Nat} {g : FSt} (D : DefD K mg x st f ps) (S : FnScope N ps (defScope st))
    (hbody : ∀ (cdv : Value) (A : Around) (outer : List Env) (s : Shared) (H : Hp) (E : XK), Room k (A.deeper (envOfC x (defScope st) s.heap.objs.size f cdv)) → BOk tb (cxOf (CXF P w base) P w K mg base N x (defScope st) f cdv A outer s H E) (defBody st) g) :
    FnD P w K mg base tb (k + 1) x f ps (fun xs => runB g (startT N xs)) := by
  obtain ⟨fd, F, b, m⟩ := D
  obtain ⟨oc, od, kV, doc, pm, an, cdv, ct, osl, rfl, lk, hcd⟩ := F.ex
  exact ⟨_, fn_F lk hcd S (fun A outer s H E hr => hbody cdv A outer s H E hr) (fun _ _ _ => rfl), b, m, F.kp⟩
end
section
variable {tb : Tb} {X : Cx} {pos p : Pos} {x : Str} {e : Expr} {es : List Expr} {fs : FA} {k : Nat} {f : Addr} {ps : List Str} {F : FF}
theorem e_callD (D : FnD X.prog X.w X.K X.mg X.base tb k x f ps F) (hr : Room k X.A) (ha : AOk tb X (e :: es) fs) (hg : Gl X x := by rfl) (hdb : (x == ("__debug__" : Str)) = false := by decide) (he : starEach (e :: es) X.env = (false, eval e X.env) :: starEach es X.env := by rfl) (hpl : (backTo pos (starEach es X.env)).any (·.1) = false := by rfl) :
    EOk tb X (.Call (.Name x p) (e :: es) [] pos) (fCall F ps.length fs) := by
  obtain ⟨fd, Fn, b, m, kp⟩ := D
  exact e_call Fn hr hg m kp b ha hdb he hpl
end
section
variable {tb : Tb} {P : Program} {w : World} {K : PySem.W.Frag} {mg : Str → Option Value} {base : Heap}
def FnWD (P : Program) (w : World) (K : PySem.W.Frag) (mg : Str → Option Value) (base : Heap) (tb : Tb) (k : Nat) (x : Str) (f : Addr) (ps : List Str) (F : FF) : Prop := ∃ fd, FnW P w K mg base tb k f fd ps F ∧ Binds K fd ps [] ∧ mg x = some (.ref f) ∧ PySem.W.keepIn K (.ref f) = true
theorem DefD.fnW {x : Str} {st : Stmt} {f : Addr} {ps N : List Str} {k : Nat} {g : FSt} (D : DefD K mg x st f ps) (S : FnScope N ps (defScope st))
    (hbody : ∀ (cdv : Value) (A : Around) (outer : List Env) (s : Shared) (H : Hp), RoomW k (A.deeper (envOfC x (defScope st) s.heap.objs.size f cdv)) → BOk tb (cxW P w K mg base N x (defScope st) f cdv A outer s H) (defBody st) g) :
    FnWD P w K mg base tb (k + 1) x f ps (fun xs => runB g (startT N xs)) := by
  obtain ⟨fd, F, b, m⟩ := D
  obtain ⟨oc, od, kV, doc, pm, an, cdv, ct, osl, rfl, lk, hcd⟩ := F.ex
  exact ⟨_, fn_W lk hcd S (fun A outer s H hr => hbody cdv A outer s H hr) (fun _ _ _ => rfl), b, m, F.kp⟩
end
section
variable {tb : Tb} {X : Cx} {pos p : Pos} {x : Str} {e : Expr} {es : List Expr} {fs : FA} {k : Nat} {f : Addr} {ps : List Str} {F : FF}
theorem e_callWD (D : FnWD X.prog X.w X.K X.mg X.base tb k x f ps F) (hr : RoomW k X.A) (ha : AOk tb X (e :: es) fs) (hg : Gl X x := by rfl) (hdb : (x == ("__debug__" : Str)) = false := by decide) (he : starEach (e :: es) X.env = (false, eval e X.env) :: starEach es X.env := by rfl) (hpl : (backTo pos (starEach es X.env)).any (·.1) = false := by rfl) :
    EOk tb X (.Call (.Name x p) (e :: es) [] pos) (fCallW F ps.length fs) := by
  obtain ⟨fd, Fn, b, m, kp⟩ := D
  exact e_callW Fn hr hg m kp b ha hdb he hpl
end
theorem st_Constant {c : Const} {k : Nat} {p : Pos} {es : List Expr} {env : Env} : starEach (.Constant c k p :: es) env = (false, eval (.Constant c k p) env) :: starEach es env := rfl
theorem st_Name {x : Str} {p : Pos} {es : List Expr} {env : Env} : starEach (.Name x p :: es) env = (false, eval (.Name x p) env) :: starEach es env := rfl
theorem st_Tuple {xs : List Expr} {k} {p : Pos} {es : List Expr} {env : Env} : starEach (.Tuple xs k p :: es) env = (false, eval (.Tuple xs k p) env) :: starEach es env := rfl
theorem st_Call {f : Expr} {xs : List Expr} {ks} {p : Pos} {es : List Expr} {env : Env} : starEach (.Call f xs ks p :: es) env = (false, eval (.Call f xs ks p) env) :: starEach es env := rfl
theorem st_Subscript {a b : Expr} {p : Pos} {es : List Expr} {env : Env} : starEach (.Subscript a b p :: es) env = (false, eval (.Subscript a b p) env) :: starEach es env := rfl
theorem st_BinOp {a b : Expr} {o} {p : Pos} {es : List Expr} {env : Env} : starEach (.BinOp a o b p :: es) env = (false, eval (.BinOp a o b p) env) :: starEach es env := rfl
/-- a row of constants -/
inductive CL : List Expr → FA → Prop
  | nil : CL [] aNil
  | non {k : Nat} {p : Pos} {es : List Expr} {fs : FA} : CL es fs → CL (.Constant .none k p :: es) (aCons (fC .non) fs)
  | int {k : Nat} {p : Pos} {i : Int} {es : List Expr} {fs : FA} : CL es fs → CL (.Constant (.int i) k p :: es) (aCons (fC (.int i)) fs)
  | bl {k : Nat} {p : Pos} {b : Bool} {es : List Expr} {fs : FA} : CL es fs → CL (.Constant (.bool b) k p :: es) (aCons (fC (.bl b)) fs)
  | str {k : Nat} {p : Pos} {x : Str} {es : List Expr} {fs : FA} : CL es fs → CL (.Constant (.str x) k p :: es) (aCons (fC (.str x)) fs)
  | tup {k : Nat} {p : Pos} {es' es : List Expr} {fs' fs : FA} : CL es' fs' → CL es fs → CL (.Tuple es' k p :: es) (aCons (fTup fs') fs)
end FS

set_option Elab.async false
set_option linter.all false
set_option maxRecDepth 100000
set_option maxHeartbeats 4000000
/-! The rules once more, over notions that don't unfold. -/
namespace FS
open PySem PySem.Spec PyProof.Rows L2 FX
@[irreducible] def QE (tb : Tb) (X : Cx) (e : Expr) (f : FE) : Prop := EOk tb X e f
theorem QE_is {tb : Tb} {X : Cx} {e : Expr} {f : FE} : QE tb X e f = EOk tb X e f := by unfold QE; rfl
@[irreducible] def QT (tb : Tb) (X : Cx) (e : Expr) (f : FT) : Prop := TOk tb X e f
theorem QT_is {tb : Tb} {X : Cx} {e : Expr} {f : FT} : QT tb X e f = TOk tb X e f := by unfold QT; rfl
@[irreducible] def QA (tb : Tb) (X : Cx) (e : List Expr) (f : FA) : Prop := AOk tb X e f
theorem QA_is {tb : Tb} {X : Cx} {e : List Expr} {f : FA} : QA tb X e f = AOk tb X e f := by unfold QA; rfl
@[irreducible] def QS (tb : Tb) (X : Cx) (e : Stmt) (f : FSt) : Prop := SOk tb X e f
theorem QS_is {tb : Tb} {X : Cx} {e : Stmt} {f : FSt} : QS tb X e f = SOk tb X e f := by unfold QS; rfl
@[irreducible] def QB (tb : Tb) (X : Cx) (e : List Stmt) (f : FSt) : Prop := BOk tb X e f
theorem QB_is {tb : Tb} {X : Cx} {e : List Stmt} {f : FSt} : QB tb X e f = BOk tb X e f := by unfold QB; rfl
@[irreducible] def QW (tb : Tb) (X : Cx) (e : Expr) (f : FT) : Prop := WOk tb X e f
theorem QW_is {tb : Tb} {X : Cx} {e : Expr} {f : FT} : QW tb X e f = WOk tb X e f := by unfold QW; rfl
@[irreducible] def QG (tb : Tb) (X : Cx) (e : Expr) (f : FG) : Prop := GOk tb X e f
theorem QG_is {tb : Tb} {X : Cx} {e : Expr} {f : FG} : QG tb X e f = GOk tb X e f := by unfold QG; rfl
@[irreducible] def QGs (tb : Tb) (X : Cx) (e : List Expr) (f : List FG) : Prop := GsOk tb X e f
theorem QGs_is {tb : Tb} {X : Cx} {e : List Expr} {f : List FG} : QGs tb X e f = GsOk tb X e f := by unfold QGs; rfl
@[irreducible] def QI (tb : Tb) (X : Cx) (e : List Expr) (f : FT) : Prop := IfsOk tb X e f
theorem QI_is {tb : Tb} {X : Cx} {e : List Expr} {f : FT} : QI tb X e f = IfsOk tb X e f := by unfold QI; rfl
@[irreducible] def QJ (tb : Tb) (X : Cx) (e : List Expr) (f : FJ) : Prop := JOk tb X e f
theorem QJ_is {tb : Tb} {X : Cx} {e : List Expr} {f : FJ} : QJ tb X e f = JOk tb X e f := by unfold QJ; rfl
@[irreducible] def QO (tb : Tb) (X : Cx) (e : Option Expr) (f : FO) : Prop := OOk tb X e f
theorem QO_is {tb : Tb} {X : Cx} {e : Option Expr} {f : FO} : QO tb X e f = OOk tb X e f := by unfold QO; rfl
end FS
namespace FQ
open PySem PySem.Spec PyProof.Rows L2 FX FS
/-! FsB -/
section
variable {tb : Tb} {X : Cx} {σ : L2.St} {ρ ρ' : List Addr} {H H' : Hp}
end
section
variable {tb : Tb} {X : Cx} {pos : Pos}
theorem e_int {i j} : QE tb X (.Constant (.int i) j pos) (fC (.int i)) := by
  simp only [QE_is, QT_is, QA_is, QS_is, QB_is, QW_is, QG_is, QGs_is, QI_is, QJ_is, QO_is] at *
  exact FS.e_int 
theorem e_bl {i j} : QE tb X (.Constant (.bool i) j pos) (fC (.bl i)) := by
  simp only [QE_is, QT_is, QA_is, QS_is, QB_is, QW_is, QG_is, QGs_is, QI_is, QJ_is, QO_is] at *
  exact FS.e_bl 
theorem e_non {j} : QE tb X (.Constant .none j pos) (fC .non) := by
  simp only [QE_is, QT_is, QA_is, QS_is, QB_is, QW_is, QG_is, QGs_is, QI_is, QJ_is, QO_is] at *
  exact FS.e_non 
theorem e_str {x j} : QE tb X (.Constant (.str x) j pos) (fC (.str x)) := by
  simp only [QE_is, QT_is, QA_is, QS_is, QB_is, QW_is, QG_is, QGs_is, QI_is, QJ_is, QO_is] at *
  exact FS.e_str 
theorem e_glob {x : Str} {v : PV} {w : V} {u : Value} (hg : Gl X x) (hm : X.mg x = some u) (r : RelV w u) (hr : ∀ ρ H, Rep ρ H v w) (hd : (x == ("__debug__" : Str)) = false := by decide) : QE tb X (.Name x pos) (fC v) := by
  simp only [QE_is, QT_is, QA_is, QS_is, QB_is, QW_is, QG_is, QGs_is, QI_is, QJ_is, QO_is] at *
  exact FS.e_glob hg hm r hr hd
theorem e_bltn {x : Str} {v : PV} {w : V} {u : Value} (hg : Gl X x) (hm : X.mg x = none) (hv : bootBuiltins x = some u) (r : RelV w u) (hr : ∀ ρ H, Rep ρ H v w) (hn : x ≠ "__name__" := by decide) (hd : (x == ("__debug__" : Str)) = false := by decide) : QE tb X (.Name x pos) (fC v) := by
  simp only [QE_is, QT_is, QA_is, QS_is, QB_is, QW_is, QG_is, QGs_is, QI_is, QJ_is, QO_is] at *
  exact FS.e_bltn hg hm hv r hr hn hd
end
section
variable {tb : Tb} {X : Cx} {pos : Pos} {a b c : Expr} {fa fb fc : FE}
end
/-! FsC -/
section
variable {tb : Tb} {X : Cx} {pos : Pos} {a b c : Expr} {fa fb fc : FE} {ta tb' : FT} {rest : List Expr}
theorem e_one {op} (h : QE tb X a fa) : QE tb X (.BoolOp op [a] pos) fa := by
  simp only [QE_is, QT_is, QA_is, QS_is, QB_is, QW_is, QG_is, QGs_is, QI_is, QJ_is, QO_is] at *
  exact FS.e_one h
theorem e_and (ha : QE tb X a fa) (hb : QE tb X (.BoolOp .And (b :: rest) pos) fb) : QE tb X (.BoolOp .And (a :: b :: rest) pos) (fAnd fa fb) := by
  simp only [QE_is, QT_is, QA_is, QS_is, QB_is, QW_is, QG_is, QGs_is, QI_is, QJ_is, QO_is] at *
  exact FS.e_and ha hb
theorem t_val (h : QE tb X a fa) (he : ∀ whole, isTrue a X.env whole = (do let v ← whole; standAt a.pos; holding [v] (truthy v)) := by intro _; rfl) : QT tb X a (fB fa) := by
  simp only [QE_is, QT_is, QA_is, QS_is, QB_is, QW_is, QG_is, QGs_is, QI_is, QJ_is, QO_is] at *
  exact FS.t_val h he
theorem t_not (ha : QT tb X a ta) : QT tb X (.UnaryOp .Not a pos) (tNotF ta) := by
  simp only [QE_is, QT_is, QA_is, QS_is, QB_is, QW_is, QG_is, QGs_is, QI_is, QJ_is, QO_is] at *
  exact FS.t_not ha
theorem w_or1 (ha : QT tb X a ta) : QW tb X (.BoolOp .Or [a] pos) ta := by
  simp only [QE_is, QT_is, QA_is, QS_is, QB_is, QW_is, QG_is, QGs_is, QI_is, QJ_is, QO_is] at *
  exact FS.w_or1 ha
theorem w_or (ha : QT tb X a ta) (hb : QW tb X (.BoolOp .Or (b :: rest) pos) tb') : QW tb X (.BoolOp .Or (a :: b :: rest) pos) (tOrF ta tb') := by
  simp only [QE_is, QT_is, QA_is, QS_is, QB_is, QW_is, QG_is, QGs_is, QI_is, QJ_is, QO_is] at *
  exact FS.w_or ha hb
theorem w_pt {e : Expr} (h : QW tb X e ta) : QT tb X e ta := by
  simp only [QE_is, QT_is, QA_is, QS_is, QB_is, QW_is, QG_is, QGs_is, QI_is, QJ_is, QO_is] at *
  exact FS.w_pt h
theorem e_ifExp (hc : QT tb X c ta) (ha : QE tb X a fa) (hb : QE tb X b fb) : QE tb X (.IfExp c a b pos) (fIf ta fa fb) := by
  simp only [QE_is, QT_is, QA_is, QS_is, QB_is, QW_is, QG_is, QGs_is, QI_is, QJ_is, QO_is] at *
  exact FS.e_ifExp hc ha hb
end
section
variable {tb : Tb} {X : Cx} {pos : Pos} {e : Expr} {es : List Expr} {fe : FE} {fs : FA}
theorem a_nil : QA tb X [] aNil := by
  simp only [QE_is, QT_is, QA_is, QS_is, QB_is, QW_is, QG_is, QGs_is, QI_is, QJ_is, QO_is] at *
  exact FS.a_nil 
theorem a_cons (ha : QE tb X e fe) (hr : QA tb X es fs) (hs : starEach (e :: es) X.env = (false, eval e X.env) :: starEach es X.env := by rfl) : QA tb X (e :: es) (aCons fe fs) := by
  simp only [QE_is, QT_is, QA_is, QS_is, QB_is, QW_is, QG_is, QGs_is, QI_is, QJ_is, QO_is] at *
  exact FS.a_cons ha hr hs
theorem e_tup {x1} (h : QA tb X es fs) : QE tb X (.Tuple es x1 pos) (fTup fs) := by
  simp only [QE_is, QT_is, QA_is, QS_is, QB_is, QW_is, QG_is, QGs_is, QI_is, QJ_is, QO_is] at *
  exact FS.e_tup h
theorem e_lst (h : QA tb X es fs) : QE tb X (.List es pos) (fLst fs) := by
  simp only [QE_is, QT_is, QA_is, QS_is, QB_is, QW_is, QG_is, QGs_is, QI_is, QJ_is, QO_is] at *
  exact FS.e_lst h
end
section
variable {tb : Tb} {X : Cx} {pos : Pos} {e : Expr} {fe : FE} {st : Stmt} {sts : List Stmt} {f g : FSt} {t : FT}
theorem b_nil : QB tb X [] sNext := by
  simp only [QE_is, QT_is, QA_is, QS_is, QB_is, QW_is, QG_is, QGs_is, QI_is, QJ_is, QO_is] at *
  exact FS.b_nil 
theorem b_cons (h1 : QS tb X st f) (h2 : QB tb X sts g) : QB tb X (st :: sts) (sSeq f g) := by
  simp only [QE_is, QT_is, QA_is, QS_is, QB_is, QW_is, QG_is, QGs_is, QI_is, QJ_is, QO_is] at *
  exact FS.b_cons h1 h2
theorem b_one (h1 : QS tb X st f) : QB tb X [st] f := by
  simp only [QE_is, QT_is, QA_is, QS_is, QB_is, QW_is, QG_is, QGs_is, QI_is, QJ_is, QO_is] at *
  exact FS.b_one h1
theorem s_ret (he : QE tb X e fe) : QS tb X (.Return (some e) pos) (sRet fe) := by
  simp only [QE_is, QT_is, QA_is, QS_is, QB_is, QW_is, QG_is, QGs_is, QI_is, QJ_is, QO_is] at *
  exact FS.s_ret he
theorem s_expr (he : QE tb X e fe) (hs : swapsWith e none pos.line X.env = pure false := by rfl) : QS tb X (.Expr e pos) (sExpr fe) := by
  simp only [QE_is, QT_is, QA_is, QS_is, QB_is, QW_is, QG_is, QGs_is, QI_is, QJ_is, QO_is] at *
  exact FS.s_expr he hs
theorem s_if {c : Expr} {as bs : List Stmt} (hc : QT tb X c t) (ha : QB tb X as f) (hb : QB tb X bs g) : QS tb X (.If c as bs pos) (sIf t f g) := by
  simp only [QE_is, QT_is, QA_is, QS_is, QB_is, QW_is, QG_is, QGs_is, QI_is, QJ_is, QO_is] at *
  exact FS.s_if hc ha hb
theorem s_asg {tg : Expr} {g : FG} (he : QE tb X e fe) (hg : QG tb X tg g) (hs : swapsWithSole [tg] e pos.line X.env = pure false := by rfl) (hw : swappedStores [tg] e X.env = pure none := by rfl)
    (h1 : (assignEach [tg] X.env).map (·.2) = [assign tg X.env] := by rfl) : QS tb X (.Assign [tg] e pos) (sAsg fe g) := by
  simp only [QE_is, QT_is, QA_is, QS_is, QB_is, QW_is, QG_is, QGs_is, QI_is, QJ_is, QO_is] at *
  exact FS.s_asg he hg hs hw h1
theorem gs_nil : QGs tb X [] [] := by
  simp only [QE_is, QT_is, QA_is, QS_is, QB_is, QW_is, QG_is, QGs_is, QI_is, QJ_is, QO_is] at *
  exact FS.gs_nil 
theorem gs_cons {tg : Expr} {tgs : List Expr} {g : FG} {gs : List FG} (h1 : QG tb X tg g) (h2 : QGs tb X tgs gs)
    (hs : (assignEach (tg :: tgs) X.env).map (·.2) = assign tg X.env :: (assignEach tgs X.env).map (·.2) := by rfl) : QGs tb X (tg :: tgs) (g :: gs) := by
  simp only [QE_is, QT_is, QA_is, QS_is, QB_is, QW_is, QG_is, QGs_is, QI_is, QJ_is, QO_is] at *
  exact FS.gs_cons h1 h2 hs
theorem g_tup {tgs : List Expr} {k : Nat} {gs : List FG} (hc : X.calm = true) (h : QGs tb X tgs gs) (hn : (assignEach tgs X.env).length = gs.length := by rfl) (hst : (assignEach tgs X.env).findIdx? (·.1) = none := by rfl) : QG tb X (.Tuple tgs k pos) (gT gs) := by
  simp only [QE_is, QT_is, QA_is, QS_is, QB_is, QW_is, QG_is, QGs_is, QI_is, QJ_is, QO_is] at *
  exact FS.g_tup hc h hn hst
end
/-! FsD -/
section
variable {tb : Tb} {X : Cx} {pos : Pos}
end
section
variable {tb : Tb} {X : Cx} {pos p : Pos} {x : Str} {e : Expr} {es : List Expr} {fs : FA} {k : Nat} {f : Addr} {fd : FuncData} {ps : List Str} {F : FF}
end
section
variable {tb : Tb} {P : Program} {w : World} {K : PySem.W.Frag} {mg : Str → Option Value} {base : Heap}
end
/-! FsF -/
section
variable {tb : Tb} {X : Cx} {pos : Pos} {a b c : Expr} {fa fb fc : FE}
theorem t_eq (hu : X.A.units + 40 < cLine) (ha : QE tb X a fa) (hb : QE tb X b fb) (hm : behindInMarks .Eq b = false := by rfl) : QT tb X (.Compare a [.Eq] [b] pos) (fB (fOp gEq fa fb)) := by
  simp only [QE_is, QT_is, QA_is, QS_is, QB_is, QW_is, QG_is, QGs_is, QI_is, QJ_is, QO_is] at *
  exact FS.t_eq hu ha hb hm
theorem t_ne (hu : X.A.units + 40 < cLine) (ha : QE tb X a fa) (hb : QE tb X b fb) (hm : behindInMarks .NotEq b = false := by rfl) : QT tb X (.Compare a [.NotEq] [b] pos) (fB (fOp gNe fa fb)) := by
  simp only [QE_is, QT_is, QA_is, QS_is, QB_is, QW_is, QG_is, QGs_is, QI_is, QJ_is, QO_is] at *
  exact FS.t_ne hu ha hb hm
theorem t_isNot (ha : QE tb X a fa) (hb : QE tb X b fb) (hm : behindInMarks .IsNot b = false := by rfl) : QT tb X (.Compare a [.IsNot] [b] pos) (fB (fOp gIsNot fa fb)) := by
  simp only [QE_is, QT_is, QA_is, QS_is, QB_is, QW_is, QG_is, QGs_is, QI_is, QJ_is, QO_is] at *
  exact FS.t_isNot ha hb hm
theorem e_mul (ha : QE tb X a fa) (hb : QE tb X b fb) : QE tb X (.BinOp a .Mult b pos) (fOp gMul fa fb) := by
  simp only [QE_is, QT_is, QA_is, QS_is, QB_is, QW_is, QG_is, QGs_is, QI_is, QJ_is, QO_is] at *
  exact FS.e_mul ha hb
theorem e_mod (ha : QE tb X a fa) (hb : QE tb X b fb) : QE tb X (.BinOp a .Mod b pos) (fOp gMod fa fb) := by
  simp only [QE_is, QT_is, QA_is, QS_is, QB_is, QW_is, QG_is, QGs_is, QI_is, QJ_is, QO_is] at *
  exact FS.e_mod ha hb
theorem e_div (ha : QE tb X a fa) (hb : QE tb X b fb) : QE tb X (.BinOp a .FloorDiv b pos) (fOp gDiv fa fb) := by
  simp only [QE_is, QT_is, QA_is, QS_is, QB_is, QW_is, QG_is, QGs_is, QI_is, QJ_is, QO_is] at *
  exact FS.e_div ha hb
theorem e_pow (ha : QE tb X a fa) (hb : QE tb X b fb) : QE tb X (.BinOp a .Pow b pos) (fOp gPow fa fb) := by
  simp only [QE_is, QT_is, QA_is, QS_is, QB_is, QW_is, QG_is, QGs_is, QI_is, QJ_is, QO_is] at *
  exact FS.e_pow ha hb
theorem t_ge (ha : QE tb X a fa) (hb : QE tb X b fb) (hm : behindInMarks .GtE b = false := by rfl) : QT tb X (.Compare a [.GtE] [b] pos) (fB (fOp (gI fun i j => decide (j ≤ i)) fa fb)) := by
  simp only [QE_is, QT_is, QA_is, QS_is, QB_is, QW_is, QG_is, QGs_is, QI_is, QJ_is, QO_is] at *
  exact FS.t_ge ha hb hm
theorem e_plus (ha : QE tb X a fa) (hb : QE tb X b fb) : QE tb X (.BinOp a .Add b pos) (fOp gPlus fa fb) := by
  simp only [QE_is, QT_is, QA_is, QS_is, QB_is, QW_is, QG_is, QGs_is, QI_is, QJ_is, QO_is] at *
  exact FS.e_plus ha hb
end
/-! FsG -/
section
variable {tb : Tb} {X : Cx} {pos p : Pos} {a b c e : Expr} {es : List Expr} {fa fb fc : FE} {fs : FA} {x : Str}
theorem e_ix (ha : QE tb X a fa) (hb : QE tb X b fb) (hs : PlainIx b := by intro _ _; rfl) : QE tb X (.Subscript a b pos) (fOp gIx fa fb) := by
  simp only [QE_is, QT_is, QA_is, QS_is, QB_is, QW_is, QG_is, QGs_is, QI_is, QJ_is, QO_is] at *
  exact FS.e_ix ha hb hs
end
/-! FsH -/
section
variable {tb : Tb} {X : Cx} {pos : Pos}
theorem s_forL {tg iter : Expr} {body : List Stmt} {fi : FE} {g : FG} {f : FSt} (hc : X.calm = true) (hi : QE tb X.nox iter fi) (hg : QG tb X.nox tg g) (hb : QB tb X.nox body f) (hs : ∀ x, foldedSetIterable iter X.env x = pure x := by intro _; rfl) :
    QS tb X (.For tg iter body [] pos) (sForL fi g f) := by
  simp only [QE_is, QT_is, QA_is, QS_is, QB_is, QW_is, QG_is, QGs_is, QI_is, QJ_is, QO_is] at *
  exact FS.s_forL hc hi hg hb hs
end
/-! FsI -/
section
variable {tb : Tb} {X : Cx} {pins : List (Addr × Obj)} {σ : L2.St} {H : Hp} {s : Shared}
theorem ifs_nil {Y : Cx} : QI tb Y [] tYes := by
  simp only [QE_is, QT_is, QA_is, QS_is, QB_is, QW_is, QG_is, QGs_is, QI_is, QJ_is, QO_is] at *
  exact FS.ifs_nil 
theorem e_compL {elt iter : Expr} {x : Str} {px cpos : Pos} {ifs : List Expr} {scope : Scope} {cl : List (Str × Addr)} {own xs : List Str} {pr : List Nat} {fi : FE} {g : FG} {ft : FT} {fe : FE}
    (hclos : closureFor scope X.env = pure cl) (hcl : AllC X.env.cells cl) (cap : CapOk X scope cl pr xs) (hi : QE tb X iter fi)
    (hg : InBlock X (own ++ xs) scope cl fun Y => QG tb Y (.Name x px) g) (ht : InBlock X (own ++ xs) scope cl fun Y => QI tb Y ifs ft) (he : InBlock X (own ++ xs) scope cl fun Y => QE tb Y elt fe)
    (hk : scope.kind = .function := by rfl) (hcell : ∀ y ∈ scope.names, y.2 ≠ .cell := by decide) (hfree : ∀ y ∈ scope.names, y.2 = .free → y.1 ∈ xs := by decide)
    (hnames : ∀ x ∈ scope.names, x.2 = .local → scope.names.lookup x.1 = some .local := by decide) (hs : ∀ x, foldedSetIterable iter X.env x = pure x := by intro _; rfl) :
    QE tb X (.ListComp elt [⟨.Name x px, iter, ifs, 0⟩] scope cpos) (fCompL own.length pr fi g ft fe) := by
  simp only [QE_is, QT_is, QA_is, QS_is, QB_is, QW_is, QG_is, QGs_is, QI_is, QJ_is, QO_is] at *
  exact FS.e_compL hclos hcl cap hi hg ht he hk hcell hfree hnames hs
end
/-! FsJ -/
section
variable {tb : Tb} {X : Cx} {pins : List (Addr × Obj)} {σ : L2.St} {H : Hp} {s : Shared}
theorem e_compS {elt iter : Expr} {x : Str} {px cpos : Pos} {ifs : List Expr} {scope : Scope} {cl : List (Str × Addr)} {own xs : List Str} {pr : List Nat} {fi : FE} {g : FG} {ft : FT} {fe : FE} (hc : X.calm = true)
    (hclos : closureFor scope X.env = pure cl) (hcl : AllC X.env.cells cl) (cap : CapOk X scope cl pr xs) (hi : QE tb X iter fi)
    (hg : InBlock X (own ++ xs) scope cl fun Y => QG tb Y (.Name x px) g) (ht : InBlock X (own ++ xs) scope cl fun Y => QI tb Y ifs ft) (he : InBlock X (own ++ xs) scope cl fun Y => QE tb Y elt fe)
    (hk : scope.kind = .function := by rfl) (hcell : ∀ y ∈ scope.names, y.2 ≠ .cell := by decide) (hfree : ∀ y ∈ scope.names, y.2 = .free → y.1 ∈ xs := by decide)
    (hnames : ∀ x ∈ scope.names, x.2 = .local → scope.names.lookup x.1 = some .local := by decide) (hs : ∀ x, foldedSetIterable iter X.env x = pure x := by intro _; rfl) :
    QE tb X (.ListComp elt [⟨.Name x px, iter, ifs, 0⟩] scope cpos) (fCompS own.length pr fi g ft fe) := by
  simp only [QE_is, QT_is, QA_is, QS_is, QB_is, QW_is, QG_is, QGs_is, QI_is, QJ_is, QO_is] at *
  exact FS.e_compS hc hclos hcl cap hi hg ht he hk hcell hfree hnames hs
theorem e_compR {elt a : Expr} {x : Str} {p1' p2' px cpos : Pos} {ifs : List Expr} {scope : Scope} {cl : List (Str × Addr)} {own xs : List Str} {pr : List Nat} {fn : FA} {g : FG} {ft : FT} {fe : FE} (hc : X.calm = true) (hgl : Gl X "range") (hm : X.mg "range" = none)
    (hclos : closureFor scope X.env = pure cl) (hcl : AllC X.env.cells cl) (cap : CapOk X scope cl pr xs) (hi : QA tb X [a] fn)
    (hg : InBlock X (own ++ xs) scope cl fun Y => QG tb Y (.Name x px) g) (ht : InBlock X (own ++ xs) scope cl fun Y => QI tb Y ifs ft) (he : InBlock X (own ++ xs) scope cl fun Y => QE tb Y elt fe)
    (hk : scope.kind = .function := by rfl) (hcell : ∀ y ∈ scope.names, y.2 ≠ .cell := by decide) (hfree : ∀ y ∈ scope.names, y.2 = .free → y.1 ∈ xs := by decide)
    (hnames : ∀ x ∈ scope.names, x.2 = .local → scope.names.lookup x.1 = some .local := by decide) (hs : ∀ x, foldedSetIterable (.Call (.Name "range" p1') [a] [] p2') X.env x = pure x := by intro _; rfl) (hst : starEach [a] X.env = [(false, eval a X.env)] := by rfl) :
    QE tb X (.ListComp elt [⟨.Name x px, .Call (.Name "range" p1') [a] [] p2', ifs, 0⟩] scope cpos) (fCompR own.length pr fn g ft fe) := by
  simp only [QE_is, QT_is, QA_is, QS_is, QB_is, QW_is, QG_is, QGs_is, QI_is, QJ_is, QO_is] at *
  exact FS.e_compR hc hgl hm hclos hcl cap hi hg ht he hk hcell hfree hnames hs hst
end
/-! FsL -/
section
variable {tb : Tb} {X : Cx} {pos p : Pos} {a b c e : Expr} {es : List Expr} {fa fb fc : FE} {fs : FA} {x : Str}
theorem e_isi {tab : ITab} (ht : TabK X.K tab) (hg : Gl X "isinstance") (hm : X.mg "isinstance" = none) (ha : QA tb X (e :: es) fs)
    (he : starEach (e :: es) X.env = (false, eval e X.env) :: starEach es X.env := by rfl) (hpl : (backTo pos (starEach es X.env)).any (·.1) = false := by rfl) : QE tb X (.Call (.Name "isinstance" p) (e :: es) [] pos) (fCB (gIsi tab) fs) := by
  simp only [QE_is, QT_is, QA_is, QS_is, QB_is, QW_is, QG_is, QGs_is, QI_is, QJ_is, QO_is] at *
  exact FS.e_isi ht hg hm ha he hpl
theorem e_chain {op op' : CmpOp} {r r' : R2} {g g' : G2} (ho : OpR X (compareOp op) r) (h : Op2 tb X r g) (ho' : OpR X (compareOp op') r') (h' : Op2 tb X r' g') (ha : QE tb X a fa) (hb : QE tb X b fb) (hc : QE tb X c fc)
    (hm : lastMarks [op, op'] [b, c] = false := by with_unfolding_all rfl) : QE tb X (.Compare a [op, op'] [b, c] pos) (fChain g g' fa fb fc) := by
  simp only [QE_is, QT_is, QA_is, QS_is, QB_is, QW_is, QG_is, QGs_is, QI_is, QJ_is, QO_is] at *
  exact FS.e_chain ho h ho' h' ha hb hc hm
theorem e_in {gt : GTup} (hgt : GtOk X.K gt) (ha : QE tb X a fa) (hb : QE tb X b fb) (hm : behindInMarks .In b = false := by rfl) : QE tb X (.Compare a [.In] [b] pos) (fOp (gIn gt) fa fb) := by
  simp only [QE_is, QT_is, QA_is, QS_is, QB_is, QW_is, QG_is, QGs_is, QI_is, QJ_is, QO_is] at *
  exact FS.e_in hgt ha hb hm
end
/-! FsM -/
section
variable {tb : Tb} {X : Cx} {pos p p2 apos cpos : Pos} {a b c e o : Expr} {es : List Expr} {fa fb fc fe fo : FE} {fs : FA} {x : Str}
theorem o_none : QO tb X none oNone := by
  simp only [QE_is, QT_is, QA_is, QS_is, QB_is, QW_is, QG_is, QGs_is, QI_is, QJ_is, QO_is] at *
  exact FS.o_none 
theorem o_some (he : QE tb X e fe) : QO tb X (some e) (oSome fe) := by
  simp only [QE_is, QT_is, QA_is, QS_is, QB_is, QW_is, QG_is, QGs_is, QI_is, QJ_is, QO_is] at *
  exact FS.o_some he
theorem e_slice {lo hi : Option Expr} {flo fhi : FO} (he : QE tb X e fe) (hl : QO tb X lo flo) (hh : QO tb X hi fhi) : QE tb X (.Subscript e (.Slice lo hi none p2) pos) (fSl fe flo fhi) := by
  simp only [QE_is, QT_is, QA_is, QS_is, QB_is, QW_is, QG_is, QGs_is, QI_is, QJ_is, QO_is] at *
  exact FS.e_slice he hl hh
theorem e_bms {name : Str} {id : String} {g : GM} (slot : Slot "str" name id) (hty : typeOf (.builtin id) = pure (.type "method_descriptor")) (hm : MtR X id (rmOf tb X g)) (ho : QE tb X o fo) (ha : QA tb X (e :: es) fs)
    (hbase : attributeBase o name X.env (eval o X.env) = eval o X.env := by rfl)
    (hfew : ((backTo cpos (starEach (e :: es) X.env)).all (fun x => !x.1) && (backToKw cpos (keywordEach [] X.env)).all (fun x => x.1.isSome)
      && decide ((e :: es).length + ([] : List Keyword).length + (if ([] : List Keyword).isEmpty then 0 else 1) < 30)) = true := by rfl)
    (hline : (apos.endLine == cpos.line) = true := by rfl) (hs : starEach (e :: es) X.env = (false, eval e X.env) :: starEach es X.env := by rfl) (hplain : (backTo cpos (starEach es X.env)).any (·.1) = false := by rfl) :
    QE tb X (.Call (.Attribute o name apos) (e :: es) [] cpos) (fBMs g fo fs) := by
  simp only [QE_is, QT_is, QA_is, QS_is, QB_is, QW_is, QG_is, QGs_is, QI_is, QJ_is, QO_is] at *
  exact FS.e_bms slot hty hm ho ha hbase hfew hline hs hplain
theorem e_append (ho : QE tb X o fo) (ha : QA tb X [e] fs)
    (hbase : attributeBase o "append" X.env (eval o X.env) = eval o X.env := by rfl)
    (hfew : ((backTo cpos (starEach [e] X.env)).all (fun x => !x.1) && (backToKw cpos (keywordEach [] X.env)).all (fun x => x.1.isSome)
      && decide ([e].length + ([] : List Keyword).length + (if ([] : List Keyword).isEmpty then 0 else 1) < 30)) = true := by rfl)
    (hline : (apos.endLine == cpos.line) = true := by rfl) (hs : starEach [e] X.env = (false, eval e X.env) :: starEach [] X.env := by rfl) (hplain : (backTo cpos (starEach [] X.env)).any (·.1) = false := by rfl) :
    QE tb X (.Call (.Attribute o "append" apos) [e] [] cpos) (fBMl gApp fo fs) := by
  simp only [QE_is, QT_is, QA_is, QS_is, QB_is, QW_is, QG_is, QGs_is, QI_is, QJ_is, QO_is] at *
  exact FS.e_append ho ha hbase hfew hline hs hplain
end
/-! FsN -/
section
variable {tb : Tb} {X : Cx} {pos p p2 apos cpos : Pos} {a b c e o : Expr} {es : List Expr} {fa fb fc fe fo fi : FE} {fs : FA} {x : Str}
theorem e_fv (he : QE tb X e fe) : QE tb X (.FormattedValue e (-1) none pos) (fStr fe) := by
  simp only [QE_is, QT_is, QA_is, QS_is, QB_is, QW_is, QG_is, QGs_is, QI_is, QJ_is, QO_is] at *
  exact FS.e_fv he
theorem j_nil : QJ tb X [] jNil := by
  simp only [QE_is, QT_is, QA_is, QS_is, QB_is, QW_is, QG_is, QGs_is, QI_is, QJ_is, QO_is] at *
  exact FS.j_nil 
theorem j_cons {fj : FJ} (he : QE tb X e fe) (hj : QJ tb X es fj) : QJ tb X (e :: es) (jCons fe fj) := by
  simp only [QE_is, QT_is, QA_is, QS_is, QB_is, QW_is, QG_is, QGs_is, QI_is, QJ_is, QO_is] at *
  exact FS.j_cons he hj
theorem e_join {v₁ v₂ : Expr} {rest : List Expr} {fj : FJ} (hj : QJ tb X (v₁ :: v₂ :: rest) fj) : QE tb X (.JoinedStr (v₁ :: v₂ :: rest) pos) (fJoin fj) := by
  simp only [QE_is, QT_is, QA_is, QS_is, QB_is, QW_is, QG_is, QGs_is, QI_is, QJ_is, QO_is] at *
  exact FS.e_join hj
theorem g_setL (ho : QE tb X o fo) (hi : QE tb X a fi) (ha : ∀ v, assign (.Subscript o a pos) X.env v = (do
      let ov ← holding [v] (eval o X.env)
      let iv ← holding [v, ov] (eval a X.env)
      standAt pos
      holding [v, ov, iv] (setItem ov iv v)
      release [v, ov, iv] []) := by intro _; rfl) : QG tb X (.Subscript o a pos) (gSetL fo fi) := by
  simp only [QE_is, QT_is, QA_is, QS_is, QB_is, QW_is, QG_is, QGs_is, QI_is, QJ_is, QO_is] at *
  exact FS.g_setL ho hi ha
theorem e_index (ho : QE tb X o fo) (ha : QA tb X [e] fs)
    (hbase : attributeBase o "index" X.env (eval o X.env) = eval o X.env := by rfl)
    (hfew : ((backTo cpos (starEach [e] X.env)).all (fun x => !x.1) && (backToKw cpos (keywordEach [] X.env)).all (fun x => x.1.isSome)
      && decide ([e].length + ([] : List Keyword).length + (if ([] : List Keyword).isEmpty then 0 else 1) < 30)) = true := by rfl)
    (hline : (apos.endLine == cpos.line) = true := by rfl) (hs : starEach [e] X.env = (false, eval e X.env) :: starEach [] X.env := by rfl) (hplain : (backTo cpos (starEach [] X.env)).any (·.1) = false := by rfl) :
    QE tb X (.Call (.Attribute o "index" apos) [e] [] cpos) (fBMl gIdx fo fs) := by
  simp only [QE_is, QT_is, QA_is, QS_is, QB_is, QW_is, QG_is, QGs_is, QI_is, QJ_is, QO_is] at *
  exact FS.e_index ho ha hbase hfew hline hs hplain
end
/-! FsO -/
section
variable {tb : Tb} {X : Cx} {pos p : Pos} {e : Expr} {es : List Expr} {fs : FA}
theorem e_all (hg : Gl X "all") (hm : X.mg "all" = none) (ha : QA tb X (e :: es) fs) (he : starEach (e :: es) X.env = (false, eval e X.env) :: starEach es X.env := by rfl) (hpl : (backTo pos (starEach es X.env)).any (·.1) = false := by rfl) :
    QE tb X (.Call (.Name "all" p) (e :: es) [] pos) (fCB gAll fs) := by
  simp only [QE_is, QT_is, QA_is, QS_is, QB_is, QW_is, QG_is, QGs_is, QI_is, QJ_is, QO_is] at *
  exact FS.e_all hg hm ha he hpl
theorem e_sum (hg : Gl X "sum") (hm : X.mg "sum" = none) (ha : QA tb X (e :: es) fs) (he : starEach (e :: es) X.env = (false, eval e X.env) :: starEach es X.env := by rfl) (hpl : (backTo pos (starEach es X.env)).any (·.1) = false := by rfl) :
    QE tb X (.Call (.Name "sum" p) (e :: es) [] pos) (fCB gSum fs) := by
  simp only [QE_is, QT_is, QA_is, QS_is, QB_is, QW_is, QG_is, QGs_is, QI_is, QJ_is, QO_is] at *
  exact FS.e_sum hg hm ha he hpl
theorem e_len (hg : Gl X "len") (hm : X.mg "len" = none) (ha : QA tb X (e :: es) fs) (he : starEach (e :: es) X.env = (false, eval e X.env) :: starEach es X.env := by rfl) (hpl : (backTo pos (starEach es X.env)).any (·.1) = false := by rfl) :
    QE tb X (.Call (.Name "len" p) (e :: es) [] pos) (fCB gLen fs) := by
  simp only [QE_is, QT_is, QA_is, QS_is, QB_is, QW_is, QG_is, QGs_is, QI_is, QJ_is, QO_is] at *
  exact FS.e_len hg hm ha he hpl
theorem e_max (hc : X.calm = true) (hg : Gl X "max") (hm : X.mg "max" = none) (ha : QA tb X (e :: es) fs) (he : starEach (e :: es) X.env = (false, eval e X.env) :: starEach es X.env := by rfl) (hpl : (backTo pos (starEach es X.env)).any (·.1) = false := by rfl) :
    QE tb X (.Call (.Name "max" p) (e :: es) [] pos) (fCB gMax fs) := by
  simp only [QE_is, QT_is, QA_is, QS_is, QB_is, QW_is, QG_is, QGs_is, QI_is, QJ_is, QO_is] at *
  exact FS.e_max hc hg hm ha he hpl
theorem e_min (hc : X.calm = true) (hg : Gl X "min") (hm : X.mg "min" = none) (ha : QA tb X (e :: es) fs) (he : starEach (e :: es) X.env = (false, eval e X.env) :: starEach es X.env := by rfl) (hpl : (backTo pos (starEach es X.env)).any (·.1) = false := by rfl) :
    QE tb X (.Call (.Name "min" p) (e :: es) [] pos) (fCB gMin fs) := by
  simp only [QE_is, QT_is, QA_is, QS_is, QB_is, QW_is, QG_is, QGs_is, QI_is, QJ_is, QO_is] at *
  exact FS.e_min hc hg hm ha he hpl
theorem e_list (hg : Gl X "list") (hm : X.mg "list" = none) (ha : QA tb X (e :: es) fs) (he : starEach (e :: es) X.env = (false, eval e X.env) :: starEach es X.env := by rfl) (hpl : (backTo pos (starEach es X.env)).any (·.1) = false := by rfl) :
    QE tb X (.Call (.Name "list" p) (e :: es) [] pos) (fCB gList fs) := by
  simp only [QE_is, QT_is, QA_is, QS_is, QB_is, QW_is, QG_is, QGs_is, QI_is, QJ_is, QO_is] at *
  exact FS.e_list hg hm ha he hpl
theorem e_intC (hg : Gl X "int") (hm : X.mg "int" = none) (ha : QA tb X (e :: es) fs) (he : starEach (e :: es) X.env = (false, eval e X.env) :: starEach es X.env := by rfl) (hpl : (backTo pos (starEach es X.env)).any (·.1) = false := by rfl) :
    QE tb X (.Call (.Name "int" p) (e :: es) [] pos) (fCB gInt fs) := by
  simp only [QE_is, QT_is, QA_is, QS_is, QB_is, QW_is, QG_is, QGs_is, QI_is, QJ_is, QO_is] at *
  exact FS.e_intC hg hm ha he hpl
end
/-! FsP -/
section
variable {tb : Tb} {X : Cx} {pos np cpos : Pos} {e : Expr} {es : List Expr} {fs : FA} {x : Str} {C : Addr}
theorem s_raise (hc : X.calm = true) (hx : PySem.W.excIn X.K C bmV "ValueError.__new__" = true) (hg : Gl X x) (hm : X.mg x = some (.ref C)) (ha : QA tb X (e :: es) fs) (hdb : (x == ("__debug__" : Str)) = false := by decide)
    (he : starEach (e :: es) X.env = (false, eval e X.env) :: starEach es X.env := by rfl) (hpl : (backTo cpos (starEach (e :: es) X.env)).any (·.1) = false := by rfl) : QS tb X (.Raise (some (.Call (.Name x np) (e :: es) [] cpos)) none pos) (sRaise C fs) := by
  simp only [QE_is, QT_is, QA_is, QS_is, QB_is, QW_is, QG_is, QGs_is, QI_is, QJ_is, QO_is] at *
  exact FS.s_raise hc hx hg hm ha hdb he hpl
end
/-! FsQ -/
section
variable {tb : Tb} {P : Program} {w : World} {K : PySem.W.Frag} {mg : Str → Option Value} {base : Heap}
end
section
variable {tb : Tb} {X : Cx} {pos p : Pos} {x : Str} {e : Expr} {es : List Expr} {fs : FA} {k : Nat} {f : Addr} {fd : FuncData} {ps : List Str} {F : FF}
end
/-! FsY -/
section
variable {tb : Tb} {X : Cx} {pos : Pos}
theorem s_par3 {i j l : Nat} {x y z : Str} {a b c : Expr} {fs : FA} {px py pz pt : Pos} {kt k2 pt2} (hc : X.calm = true) (hN : X.N.Nodup) (hi : X.N[i]? = some x) (hj : X.N[j]? = some y) (hl : X.N[l]? = some z) (hij : i ≠ j) (hil : i ≠ l) (hjl : j ≠ l)
    (hx : X.env.scope.names.lookup x = some .local) (hy : X.env.scope.names.lookup y = some .local) (hz : X.env.scope.names.lookup z = some .local) (ha : QA tb X [a, b, c] fs)
    (hw : swappedStores [.Tuple [.Name x px, .Name y py, .Name z pz] kt pt] (.Tuple [a, b, c] k2 pt2) X.env = pure (some [x, y, z]) := by rfl)
    (hs : swapsWithSole [.Tuple [.Name x px, .Name y py, .Name z pz] kt pt] (.Tuple [a, b, c] k2 pt2) pos.line X.env = pure false := by rfl) :
    QS tb X (.Assign [.Tuple [.Name x px, .Name y py, .Name z pz] kt pt] (.Tuple [a, b, c] k2 pt2) pos) (sPar3 i j l fs) := by
  simp only [QE_is, QT_is, QA_is, QS_is, QB_is, QW_is, QG_is, QGs_is, QI_is, QJ_is, QO_is] at *
  exact FS.s_par3 hc hN hi hj hl hij hil hjl hx hy hz ha hw hs
theorem ev (i : Nat) {x : Str} (hN : X.N[i]? = some x := by rfl) (hv : Vis X.env.scope x := by first | exact Or.inl rfl | exact Or.inr (Or.inl rfl) | exact Or.inr (Or.inr rfl)) (hd : (x == ("__debug__" : Str)) = false := by decide) (hcd : (x == ("__classdict__" : Str)) = false := by decide) : QE tb X (.Name x pos) (fVar i) := by
  simp only [QE_is, QT_is, QA_is, QS_is, QB_is, QW_is, QG_is, QGs_is, QI_is, QJ_is, QO_is] at *
  exact FS.ev i hN hv hd hcd
theorem gn (i : Nat) {x : Str} (hN : X.N.Nodup := by first | decide | decide +kernel) (hi : X.N[i]? = some x := by rfl) (hx : Loc X.env.scope x := by first | exact Or.inl rfl | exact Or.inr rfl) (hf : X.fn x = true ∨ X.env.scope.names.lookup x = some .local := by first | exact .inl rfl | exact .inr rfl) : QG tb X (.Name x pos) (gN i) := by
  simp only [QE_is, QT_is, QA_is, QS_is, QB_is, QW_is, QG_is, QGs_is, QI_is, QJ_is, QO_is] at *
  exact FS.gn i hN hi hx hf
end
section
variable {tb : Tb} {P : Program} {w : World} {K : PySem.W.Frag} {mg : Str → Option Value} {base : Heap}
theorem fnD {x : Str} {st : Stmt} {f : Addr} {ps N : List Str} {k : Nat} {g : FSt} (D : DefD K mg x st f ps) (S : FnScope N ps (defScope st))
    (hbody : ∀ (cdv : Value) (A : Around) (outer : List Env) (s : Shared) (H : Hp) (E : XK), Room k (A.deeper (envOfC x (defScope st) s.heap.objs.size f cdv)) → QB tb (cxOf (CXF P w base) P w K mg base N x (defScope st) f cdv A outer s H E) (defBody st) g) :
    FnD P w K mg base tb (k + 1) x f ps (fun xs => runB g (startT N xs)) := by
  simp only [QE_is, QT_is, QA_is, QS_is, QB_is, QW_is, QG_is, QGs_is, QI_is, QJ_is, QO_is] at *
  exact FS.DefD.fn D S hbody
end
section
variable {tb : Tb} {X : Cx} {pos p : Pos} {x : Str} {e : Expr} {es : List Expr} {fs : FA} {k : Nat} {f : Addr} {ps : List Str} {F : FF}
theorem e_callD (D : FnD X.prog X.w X.K X.mg X.base tb k x f ps F) (hr : Room k X.A) (ha : QA tb X (e :: es) fs) (hg : Gl X x := by rfl) (hdb : (x == ("__debug__" : Str)) = false := by decide) (he : starEach (e :: es) X.env = (false, eval e X.env) :: starEach es X.env := by rfl) (hpl : (backTo pos (starEach es X.env)).any (·.1) = false := by rfl) :
    QE tb X (.Call (.Name x p) (e :: es) [] pos) (fCall F ps.length fs) := by
  simp only [QE_is, QT_is, QA_is, QS_is, QB_is, QW_is, QG_is, QGs_is, QI_is, QJ_is, QO_is] at *
  exact FS.e_callD D hr ha hg hdb he hpl
end
section
variable {tb : Tb} {P : Program} {w : World} {K : PySem.W.Frag} {mg : Str → Option Value} {base : Heap}
theorem fnWD {x : Str} {st : Stmt} {f : Addr} {ps N : List Str} {k : Nat} {g : FSt} (D : DefD K mg x st f ps) (S : FnScope N ps (defScope st))
    (hbody : ∀ (cdv : Value) (A : Around) (outer : List Env) (s : Shared) (H : Hp), RoomW k (A.deeper (envOfC x (defScope st) s.heap.objs.size f cdv)) → QB tb (cxW P w K mg base N x (defScope st) f cdv A outer s H) (defBody st) g) :
    FnWD P w K mg base tb (k + 1) x f ps (fun xs => runB g (startT N xs)) := by
  simp only [QE_is, QT_is, QA_is, QS_is, QB_is, QW_is, QG_is, QGs_is, QI_is, QJ_is, QO_is] at *
  exact FS.DefD.fnW D S hbody
end
section
variable {tb : Tb} {X : Cx} {pos p : Pos} {x : Str} {e : Expr} {es : List Expr} {fs : FA} {k : Nat} {f : Addr} {ps : List Str} {F : FF}
end
end FQ

set_option Elab.async false
set_option linter.all false
set_option maxRecDepth 100000
set_option maxHeartbeats 4000000
namespace FS
open PySem PySem.Spec PyProof.Rows L2 FX
/-! ### the head: a law that is a function of its script and makes lambdas -/
section
variable {P : Program} {w : World} {K : PySem.W.Frag} {mg mb : Str → Option Value} {k : Nat} {fa a : Addr} {fd : FuncData} {x : Str} {F : FF} {s₁ : Shared} {vs : List Value} {ns : List Int} {tb : Tb} {tabs : List Addr}
/-- the script, and the tables of lambdas -/
def hp0 (a : Addr) (vs : List Value) (ns : List Int) (tabs : List Addr) : Hp := fun b => if b = a then some (.frz { cls := .type "list", data := .seq vs.toArray } (.lst (ns.map V.int))) else if b ∈ tabs then some (.tbl #[]) else none
theorem law_callF (KX : K.In s₁.heap) (hns : s₁.heap.Ns mainGlobals mg) (hb : s₁.heap.Ns builtinsNs mb) (hbb : ∀ x : Str, x ≠ "__name__" → mb x = bootBuiltins x) (hlim : s₁.heap.NoLimit) (hg : s₁.gens = #[])
    (hbm : ∃ bm ob, mg "__builtins__" = some (.ref bm) ∧ bm ≠ builtinsNs ∧ s₁.heap.get? bm = some ob ∧ ob.cls = .type "module" ∧ ob.dict = some builtinsNs ∧ ob.data = .plain)
    (ha : s₁.heap.get? a = some { cls := .type "list", data := .seq vs.toArray }) (hi : IntsAre vs ns) (hl : ns.length ≤ sizeLine) (hr : Room k callerA)
    (hT : ∀ Q ∈ tabs, s₁.heap.get? Q = some (PySem.W.tabObj #[]) ∧ isCodeTable s₁.heap Q ∧ K.lookup Q = none) (htb : ∀ c Q q, (c, Q, q) ∈ tb → Q ∈ tabs) (hnl : ∀ o, K.lookup a = some o → o.cls ≠ .type "list")
    (Fn : ∀ base : Heap, K.In base → base.Ns mainGlobals mg → (∀ Q ∈ tabs, base.BuiltinsAt mg Q) → FnF P w K mg base tb k fa fd [x] F) (hbind : ∀ (s : Shared) (u : Value), BindsTo s fd ⟨[u], []⟩ [(x, u)])
    (hF : ∃ vh', F [.ref 0] [.scr ns] = .ok (.bl true) vh') :
    codeAny (model P w) callerA (.call (.ref fa) ⟨[.ref a], []⟩) (fun r s' => r = .ok (.ret (.bool true)) ∧ OldK s₁.heap s'.heap ∧ s'.os = s₁.os ∧ AllBare s'.gens) s₁ := by
  have rv := vals_ints hi
  have hat : a ∉ tabs := fun z => by
    have e := (hT a z).1
    rw [ha] at e; cases e
  have hka : K.lookup a = none := by
    cases e : K.lookup a with
    | none => rfl
    | some o =>
      have q := KX a o e
      rw [ha] at q; cases q
      exact absurd rfl (hnl _ e)
  generalize hH : hp0 a vs ns tabs = H
  have Ha : H a = some (.frz { cls := .type "list", data := .seq vs.toArray } (.lst (ns.map V.int))) := by rw [← hH]; exact if_pos rfl
  have Ht : ∀ Q ∈ tabs, H Q = some (.tbl #[]) := fun Q hQ => by
    rw [← hH]; unfold hp0
    have z : ¬ Q = a := fun z => hat (by rw [← z]; exact hQ)
    rw [if_neg z, if_pos hQ]
  have Hn : ∀ b, b ≠ a → b ∉ tabs → H b = none := fun b h1 h2 => by
    rw [← hH]; unfold hp0
    rw [if_neg h1, if_neg h2]
  have cases3 : ∀ b, b = a ∨ b ∈ tabs ∨ (b ≠ a ∧ b ∉ tabs ∧ H b = none) := fun b => by
    by_cases h1 : b = a
    · exact .inl h1
    · by_cases h2 : b ∈ tabs
      · exact .inr (.inl h2)
      · exact .inr (.inr ⟨h1, h2, Hn b h1 h2⟩)
  have hok : HOk P w H s₁.heap := fun b u z => by
    rcases cases3 b with rfl | h | ⟨_, _, h⟩
    · rw [Ha] at z; cases z
      exact ⟨ha, by rw [List.length_map]; exact hl, vs, _, rv, ha⟩
    · rw [Ht b h] at z; cases z
      exact (hT b h).1
    · rw [h] at z; cases z
  have base_of : ∀ {b : Addr} {o : Obj}, s₁.heap.get? b = some o → H b = none → (hidT s₁.heap H).get? b = some o := fun e n => hidT_get e n
  have noD : ∀ {b : Addr} {o : Obj} {es : Array DictEntry} {ep : Nat}, s₁.heap.get? b = some o → o.data = .dict es ep → H b = none := fun {b o es ep} e d => by
    rcases cases3 b with rfl | h | ⟨_, _, h⟩
    · rw [ha] at e; cases e; cases d
    · rw [(hT b h).1] at e; cases e; cases d
    · exact h
  have nsK : ∀ {b : Addr} {m : Str → Option Value}, s₁.heap.Ns b m → (hidT s₁.heap H).Ns b m := fun {b m} ⟨o, es, ep, e, d, r⟩ => ⟨o, es, ep, base_of e (noD e d), d, r⟩
  have hKb : K.In (hidT s₁.heap H) := fun b o e => base_of (KX b o e) (by
    rcases cases3 b with rfl | h | ⟨_, _, h⟩
    · rw [hka] at e; cases e
    · rw [(hT b h).2.2] at e; cases e
    · exact h)
  have hM : Mod K mg (hidT s₁.heap H) := ⟨hKb, nsK hns, ⟨mb, nsK hb, hbb⟩, let ⟨mc, h1, h2⟩ := hlim; ⟨mc, nsK h1, h2⟩⟩
  have e0 : Env0 P w K mg (hidT s₁.heap H) callerA [] s₁ H := ⟨rfl, hM, fun b o e => of_hidT e, Nat.le_of_eq (hidT_size _ _), trivial, fun b hb => absurd (show b ∈ ([] : List Addr) from hb) (by simp), hok, .of_eq hg⟩
  have hB : ∀ Q ∈ tabs, (hidT s₁.heap H).BuiltinsAt mg Q := fun Q hQ => by
    obtain ⟨bm, ob, b1, b2, b3, b4, b5, b6⟩ := hbm
    have hbG : bm ≠ mainGlobals := fun q => by
      obtain ⟨o, es, ep, e, hd, _⟩ := hns
      rw [← q, b3] at e; cases e; rw [b6] at hd; cases hd
    have hbP : bm ≠ Q := fun q => by
      have e := (hT Q hQ).1
      rw [← q, b3] at e; cases e; cases b4
    refine ⟨bm, ob, b1, b2, hbG, hbP, base_of b3 ?_, b4, b5, b6⟩
    rcases cases3 bm with h | h | ⟨_, _, h⟩
    · rw [h, ha] at b3; cases b3; cases b6
    · have e := (hT bm h).1
      rw [b3] at e; cases e; cases b4
    · exact h
  obtain ⟨vh', hF⟩ := hF
  have S0 : Sim tb [a] [.scr ns] H := by
    refine ⟨fun c Q q hm => ⟨#[], Ht Q (htb c Q q hm), trivial, fun pos cv e => by cases e⟩, by simp, rfl, fun i b o h1 h2 => ?_⟩
    cases i with
    | zero =>
      cases h1; cases h2
      exact ⟨_, Ha⟩
    | succ i => simp at h1
  refine codeAny_mono ((Fn _ hKb (nsK hns) hB).run callerA [] s₁ H ⟨[.ref a], []⟩ [.ref a] [.ref a] (fun v _ => v = .bl true) (fun _ _ _ => False) hr e0 (hbind s₁ (.ref a)) (.cons rfl .nil) ⟨[a], [.scr ns], [.ref 0], rfl, ⟨.ref a, [], rfl, ⟨a, rfl, rfl⟩, rfl⟩, S0, ?_⟩) fun r s' h => ?_
  · rw [hF]
    exact fun ρ' H' w p k S r => r
  · cases r with
    | error e =>
      obtain ⟨_, _, _, _, _, _, _, _, _, _, _, _, _, _, _, _, _, _, _, z⟩ := h
      exact z.elim
    | ok fl =>
      cases fl with
      | next => exact False.elim h
      | brk => exact False.elim h
      | cont => exact False.elim h
      | ret u =>
        obtain ⟨v, H', os, bare, un, hok', r', q⟩ := h
        have q' : v = .bl true := q
        subst q'
        obtain rfl : u = Value.bool true := r'
        have keepN : ∀ b o, s₁.heap.get? b = some o → H b = none → s'.heap.get? b = some o := fun b o e q => un.keep b o e q (by intro z; exact absurd (show b ∈ ([] : List Addr) from z) (by simp)) (by simp)
        refine ⟨rfl, ⟨fun b o e => ?_, fun b o e => ?_⟩, os, bare⟩
        · rcases cases3 b with rfl | h | ⟨_, _, h⟩
          · have z2 := un.frzs b _ _ Ha
            obtain ⟨e1, _⟩ := hok b _ Ha
            obtain ⟨e2, _⟩ := hok' b _ z2
            rw [e] at e1; cases e1
            exact .inl e2
          · obtain ⟨more, hm⟩ := un.tbls b _ (Ht b h)
            have e1 := (hT b h).1
            rw [e] at e1; cases e1
            exact .inr (.inl ⟨(hT b h).2.1, rfl, #[], more, rfl, hok' b _ hm⟩)
          · exact .inl (keepN b o e h)
        · exact un.there b o e (by simp)
end
section
/-- a def with a known code -/
def DefC (K : PySem.W.Frag) (mg : Str → Option Value) (x : Str) (st : Stmt) (f c : Addr) (ps : List Str) : Prop :=
  ∃ (oc : Value) (od : Option Addr) (kV doc pm : Value) (an : Option Addr) (ct : Value) (osl : Array (Option Value)),
    K.lookup f = some ⟨oc, od, .func (PySem.W.fnOf x x (defArgs st) (defBody st) (defScope st) .none kV doc pm an (.ref c) ct), osl⟩ ∧ PySem.W.codeIn K (.ref c) x = true ∧ Binds K (PySem.W.fnOf x x (defArgs st) (defBody st) (defScope st) .none kV doc pm an (.ref c) ct) ps [] ∧ mg x = some (.ref f)
end
section
def listO (o : Obj) : Bool := match o.cls with
  | .type n => n == "list"
  | _ => false
def noLists (K : PySem.W.Frag) : Bool := K.all fun e => !listO e.2
theorem noLists_is : ∀ {K : PySem.W.Frag}, noLists K = true → ∀ {a : Addr} {o : Obj}, K.lookup a = some o → o.cls ≠ .type "list"
  | [], _, _, _, e => by cases e
  | (b, o') :: K, h, a, o, e => fun z => by
    have h' : (!listO o' && noLists K) = true := h
    rw [Bool.and_eq_true] at h'
    rw [List.lookup_cons] at e
    cases hb : a == b with
    | true =>
      rw [hb] at e; cases e
      have h1 := h'.1
      unfold listO at h1
      rw [z] at h1
      simp at h1
    | false => rw [hb] at e; exact noLists_is h'.2 e z
theorem walk_F {l : PySem.W.OpenLaw} {n k : Nat} {q : Program} {loose : List Str} {XP : (Str → Option Value) → Heap → Prop} {YP : World → Heap → Prop} {d : DefRec} {K : Params → PySem.W.Frag} {x : Str} {tb : Tb} {tabs : List Addr} {F : FF}
    (hn : l.most = some n) (hn2 : n ≤ sizeLine) (hdf : d.params.defaults = []) (hr : Room k callerA)
    (hY : ∀ (w : World) (h : Heap), YP w h → (K w.params).In h) (hYt : ∀ (w : World) (h : Heap), YP w h → ∀ Q ∈ tabs, h.get? Q = some (PySem.W.tabObj #[]))
    (hcode : ∀ Q ∈ tabs, ∃ c, ∀ p, PySem.W.codeHdIn (K p) c Q = true) (hlk : ∀ p, ∀ Q ∈ tabs, (K p).lookup Q = none) (hnl : ∀ p, noLists (K p) = true) (htb : ∀ c Q q, (c, Q, q) ∈ tb → Q ∈ tabs)
    (Fn : ∀ (w : World) (mg : Str → Option Value) (fa : Addr) (h : Heap), (K w.params).In h → h.Ns mainGlobals mg → mg d.name = some (.ref fa) →
      ∃ fd : FuncData, (∀ (s : Shared) (u : Value), BindsTo s fd ⟨[u], []⟩ [(x, u)]) ∧
        ∀ base : Heap, (K w.params).In base → base.Ns mainGlobals mg → (∀ Q ∈ tabs, base.BuiltinsAt mg Q) → FnF l.prog w (K w.params) mg base tb k fa fd [x] F)
    (hF : ∀ ns : List Int, ns.length ≤ n → ∃ vh', F [.ref 0] [.scr ns] = .ok (.bl true) vh') :
    PySem.W.WalkO q loose XP YP l.row.toRowW d [] (fun f vs => PySem.call f vs) := by
  refine Att.attach_call hn hdf fun w s₀ s₁ mg mb fa o pm cd doc a vs ns G Y ho hd hcd hmg hobj hints hlen hg => ?_
  have KX := hY w _ Y
  obtain ⟨fd, hb, hf⟩ := Fn w mg fa _ KX G.T.g hmg
  refine law_callF KX G.T.g G.T.b G.T.builtins G.T.nolimit hg G.T.bmain hobj hints (Nat.le_trans hlen hn2) hr (fun Q hQ => ⟨hYt w _ Y Q hQ, ?_, hlk _ Q hQ⟩) htb (fun o e => noLists_is (hnl _) e) hf hb (hF ns hlen)
  obtain ⟨c, hc⟩ := hcode Q hQ
  obtain ⟨o, vs, file, tf, flags, tg, inF, text, tt, e1, e2, e3, e4, _⟩ := PySem.W.codeHd_of_K KX (hc w.params)
  exact ⟨c, o, vs, e1, e2, e3, e4⟩
end
end FS

set_option Elab.async false
set_option linter.all false
set_option maxRecDepth 100000
set_option maxHeartbeats 4000000
namespace FS
open PySem PySem.Spec PyProof.Rows L2 FX
/-! ### what a function tells on every heap that goes on from one: it only adds -/
section
variable {α β : Type} {h0 : VH} {τ τ' τ'' : Tau} {x y z : PV} {xs : List PV} {X : XV}
def Ev (h0 : VH) (m : M α) (v : α) : Prop := ∀ e0, ∃ e, m (h0 ++ e0) = .ok v (h0 ++ e0 ++ e)
def Ex (h0 : VH) (m : M α) (x : XV) : Prop := ∀ e0, ∃ e, m (h0 ++ e0) = .exc x (h0 ++ e0 ++ e)
def Sn (h0 : VH) (f : FSt) (τ τ' : Tau) : Prop := ∀ e0, ∃ e, f τ (h0 ++ e0) = .next τ' (h0 ++ e0 ++ e)
def Sr (h0 : VH) (f : FSt) (τ : Tau) (v : PV) : Prop := ∀ e0, ∃ e, f τ (h0 ++ e0) = .ret v (h0 ++ e0 ++ e)
def Sx (h0 : VH) (f : FSt) (τ : Tau) (x : XV) : Prop := ∀ e0, ∃ e, f τ (h0 ++ e0) = .exc x (h0 ++ e0 ++ e)
theorem Ev.pure {m : M α} {v : α} (h : ∀ h, m h = .ok v h) : Ev h0 m v := fun e0 => ⟨[], by rw [h, List.append_nil]⟩
theorem Ev.on {m : M α} {v : α} (h : ∀ e0, m (h0 ++ e0) = .ok v (h0 ++ e0)) : Ev h0 m v := fun e0 => ⟨[], by rw [h, List.append_nil]⟩
theorem Ex.pure {m : M α} (h : ∀ h, m h = .exc X h) : Ex h0 m X := fun e0 => ⟨[], by rw [h, List.append_nil]⟩
theorem Sn.pure {f : FSt} (h : ∀ h, f τ h = .next τ' h) : Sn h0 f τ τ' := fun e0 => ⟨[], by rw [h, List.append_nil]⟩
theorem Sr.pure {f : FSt} {v : PV} (h : ∀ h, f τ h = .ret v h) : Sr h0 f τ v := fun e0 => ⟨[], by rw [h, List.append_nil]⟩
theorem Ev.bind {m : M α} {k : α → M β} {v : α} {u : β} (h1 : Ev h0 m v) (h2 : Ev h0 (k v) u) : Ev h0 (M.bind m k) u := fun e0 => by
  obtain ⟨e1, q1⟩ := h1 e0
  obtain ⟨e2, q2⟩ := h2 (e0 ++ e1)
  refine ⟨e1 ++ e2, ?_⟩
  unfold M.bind
  rw [q1]
  simpa [List.append_assoc] using q2
theorem Ev.ret {v : α} : Ev h0 (M.ret v) v := .pure fun _ => rfl
theorem Ev.c : Ev h0 (fC x τ) x := .pure fun _ => rfl
theorem Ev.var {i : Nat} (h : τ[i]? = some (some x)) : Ev h0 (fVar i τ) x := .pure fun _ => by unfold fVar; rw [h]
theorem Ev.op {g : G2} {fa fb : FE} (h1 : Ev h0 (fa τ) x) (h2 : Ev h0 (fb τ) y) (h3 : Ev h0 (g x y) z) : Ev h0 (fOp g fa fb τ) z := .bind h1 (.bind h2 h3)
theorem Ev.nil : Ev h0 (aNil τ) [] := .ret
theorem Ev.cons {fe : FE} {fs : FA} (h1 : Ev h0 (fe τ) x) (h2 : Ev h0 (fs τ) xs) : Ev h0 (aCons fe fs τ) (x :: xs) := .bind h1 (.bind h2 .ret)
theorem Ev.tup {fs : FA} (h1 : Ev h0 (fs τ) xs) (hl : xs.length ≤ big) : Ev h0 (fTup fs τ) (.tup xs) := .bind h1 (by rw [if_pos hl]; exact .ret)
theorem Ev.call {F : FF} {n : Nat} {fs : FA} (h1 : Ev h0 (fs τ) xs) (hl : xs.length = n) (h2 : Ev h0 (F xs) x) : Ev h0 (fCall F n fs τ) x := .bind h1 (by rw [if_pos hl]; exact h2)
theorem Ev.cb {g : FF} {fs : FA} (h1 : Ev h0 (fs τ) xs) (h2 : Ev h0 (g xs) x) : Ev h0 (fCB g fs τ) x := .bind h1 h2
theorem Ev.b {fe : FE} {k : Bool} (h1 : Ev h0 (fe τ) (.bl k)) : Ev h0 (fB fe τ) k := .bind h1 .ret
theorem Ev.tnot {t : FT} {k : Bool} (h1 : Ev h0 (t τ) k) : Ev h0 (tNotF t τ) (!k) := .bind h1 .ret
theorem Ev.and {fa fb : FE} {k l : Bool} (h1 : Ev h0 (fa τ) (.bl k)) (h2 : k = true → Ev h0 (fb τ) (.bl l)) : Ev h0 (fAnd fa fb τ) (.bl (k && l)) := .bind h1 (by
  cases k with
  | true => exact h2 rfl
  | false => exact .ret)
theorem Ev.tor {t u : FT} {k l : Bool} (h1 : Ev h0 (t τ) k) (h2 : k = false → Ev h0 (u τ) l) : Ev h0 (tOrF t u τ) (k || l) := .bind h1 (by
  cases k with
  | true => exact .ret
  | false => exact h2 rfl)
theorem Sn.seq {f g : FSt} (h1 : Sn h0 f τ τ') (h2 : Sn h0 g τ' τ'') : Sn h0 (sSeq f g) τ τ'' := fun e0 => by
  obtain ⟨e1, q1⟩ := h1 e0
  obtain ⟨e2, q2⟩ := h2 (e0 ++ e1)
  refine ⟨e1 ++ e2, ?_⟩
  unfold sSeq
  rw [q1]
  simpa [List.append_assoc] using q2
theorem Sr.seq {f g : FSt} {v : PV} (h1 : Sn h0 f τ τ') (h2 : Sr h0 g τ' v) : Sr h0 (sSeq f g) τ v := fun e0 => by
  obtain ⟨e1, q1⟩ := h1 e0
  obtain ⟨e2, q2⟩ := h2 (e0 ++ e1)
  refine ⟨e1 ++ e2, ?_⟩
  unfold sSeq
  rw [q1]
  simpa [List.append_assoc] using q2
theorem Sx.seq {f g : FSt} (h1 : Sn h0 f τ τ') (h2 : Sx h0 g τ' X) : Sx h0 (sSeq f g) τ X := fun e0 => by
  obtain ⟨e1, q1⟩ := h1 e0
  obtain ⟨e2, q2⟩ := h2 (e0 ++ e1)
  refine ⟨e1 ++ e2, ?_⟩
  unfold sSeq
  rw [q1]
  simpa [List.append_assoc] using q2
theorem Sx.seq1 {f g : FSt} (h1 : Sx h0 f τ X) : Sx h0 (sSeq f g) τ X := fun e0 => by
  obtain ⟨e1, q1⟩ := h1 e0
  refine ⟨e1, ?_⟩
  unfold sSeq
  rw [q1]
theorem Sr.seq1 {f g : FSt} {v : PV} (h1 : Sr h0 f τ v) : Sr h0 (sSeq f g) τ v := fun e0 => by
  obtain ⟨e1, q1⟩ := h1 e0
  refine ⟨e1, ?_⟩
  unfold sSeq
  rw [q1]
theorem Sr.ret {fe : FE} (h : Ev h0 (fe τ) x) : Sr h0 (sRet fe) τ x := fun e0 => by
  obtain ⟨e1, q1⟩ := h e0
  refine ⟨e1, ?_⟩
  unfold sRet M.then
  rw [q1]
theorem Sn.iff {t : FT} {f g : FSt} (h : Ev h0 (t τ) false) (h2 : Sn h0 g τ τ') : Sn h0 (sIf t f g) τ τ' := fun e0 => by
  obtain ⟨e1, q1⟩ := h e0
  obtain ⟨e2, q2⟩ := h2 (e0 ++ e1)
  refine ⟨e1 ++ e2, ?_⟩
  unfold sIf M.then
  rw [q1]
  simpa [List.append_assoc] using q2
theorem Sn.nx : Sn h0 sNext τ τ := .pure fun _ => rfl
theorem Sx.ift {t : FT} {f g : FSt} (h : Ev h0 (t τ) true) (h2 : Sx h0 f τ X) : Sx h0 (sIf t f g) τ X := fun e0 => by
  obtain ⟨e1, q1⟩ := h e0
  obtain ⟨e2, q2⟩ := h2 (e0 ++ e1)
  refine ⟨e1 ++ e2, ?_⟩
  unfold sIf M.then
  rw [q1]
  simpa [List.append_assoc] using q2
theorem Sr.ift {t : FT} {f g : FSt} {v : PV} (h : Ev h0 (t τ) true) (h2 : Sr h0 f τ v) : Sr h0 (sIf t f g) τ v := fun e0 => by
  obtain ⟨e1, q1⟩ := h e0
  obtain ⟨e2, q2⟩ := h2 (e0 ++ e1)
  refine ⟨e1 ++ e2, ?_⟩
  unfold sIf M.then
  rw [q1]
  simpa [List.append_assoc] using q2
theorem Ev.run {g : FSt} (h : Sr h0 g τ x) : Ev h0 (runB g τ) x := fun e0 => by
  obtain ⟨e1, q1⟩ := h e0
  exact ⟨e1, by unfold runB; rw [q1]⟩
theorem Ex.run {g : FSt} (h : Sx h0 g τ X) : Ex h0 (runB g τ) X := fun e0 => by
  obtain ⟨e1, q1⟩ := h e0
  exact ⟨e1, by unfold runB; rw [q1]⟩
end
theorem at_end (h : VH) (o : VO) (r : VH) : (h ++ o :: r)[h.length]? = some o := by rw [List.getElem?_append_right (Nat.le_refl _)]; simp
theorem set_end (h : VH) (o u : VO) : (h ++ [o]).set h.length u = h ++ [u] := by rw [List.set_append_right _ _ (Nat.le_refl _)]; simp
theorem at_pre {h : VH} {i : Nat} {o : VO} (e : VH) (q : h[i]? = some o) : (h ++ e)[i]? = some o := by
  rw [List.getElem?_append_left (List.getElem?_eq_some_iff.mp q).1]; exact q
theorem ls_pre {h : VH} {i : Nat} {xs : List PV} (e : VH) (q : lsOf h i = some xs) : lsOf (h ++ e) i = some xs := by
  unfold lsOf at q ⊢
  cases z : h[i]? with
  | none => rw [z] at q; cases q
  | some o => rw [at_pre e z]; rw [z] at q; exact q
/-- a comprehension that is pure -/
theorem compF_map {src : Src} {fe : FE} {vs : List PV} {f : PV → PV} {L : Nat} {h : VH} (hs : ∀ i ys, src i (h ++ [.lst ys]) = some vs[i]?) (hfe : ∀ v ∈ vs, ∀ (τ : Tau) (h : VH), τ.length = L → fe (τ.set 0 (some v)) h = .ok (f v) h) (hb : vs.length ≤ big) :
    ∀ (n i : Nat) (ys : List PV) (τ : Tau), τ.length = L → ys.length = i → vs.length - i < n → compF src (gN 0) tYes fe h.length n i τ (h ++ [.lst ys]) = .ok () (h ++ [.lst (ys ++ (vs.drop i).map f)])
  | 0, i, ys, τ, hτ, hy, hn => by omega
  | n + 1, i, ys, τ, hτ, hy, hn => by
    unfold compF
    rw [hs]
    cases e : vs[i]? with
    | none =>
      have : vs.drop i = [] := List.drop_eq_nil_of_le (List.getElem?_eq_none_iff.mp e)
      simp [this]
    | some v =>
      have hm : v ∈ vs := List.mem_of_getElem? e
      have hi := (List.getElem?_eq_some_iff.mp e).1
      simp only [gN, tYes, M.ret]
      rw [hfe v hm τ _ hτ]
      simp only [at_end, set_end]
      rw [if_pos (by omega), compF_map hs hfe hb n (i + 1) (ys ++ [f v]) (τ.set 0 (some v)) (by simpa using hτ) (by simp [hy]) (by omega)]
      have : vs.drop i = v :: vs.drop (i + 1) := by
        rw [List.drop_eq_getElem_cons hi]
        congr 1
        rw [List.getElem?_eq_getElem hi] at e; exact Option.some.inj e
      rw [this]
      simp
section
variable {α β : Type} {h h1 h2 : VH} {τ τ1 : Tau} {x y z v : PV} {xs : List PV} {fe fa fb : FE} {fs : FA} {f g : FSt} {t u : FT} {n i : Nat}
theorem bind_ok {m : M α} {k : α → M β} {a : α} (e : m h = .ok a h1) : M.bind m k h = k a h1 := by unfold M.bind; rw [e]
theorem then_ok {m : M α} {k : α → VH → Fl} {a : α} (e : m h = .ok a h1) : M.then m k h = k a h1 := by unfold M.then; rw [e]
theorem seq_ok (e : f τ h = .next τ1 h1) : sSeq f g τ h = g τ1 h1 := by unfold sSeq; rw [e]
theorem seq_ret (e : f τ h = .ret v h1) : sSeq f g τ h = .ret v h1 := by unfold sSeq; rw [e]
theorem asgN_ok (e : fe τ h = .ok v h1) : sAsg fe (gN i) τ h = .next (τ.set i (some v)) h1 := by unfold sAsg M.then; rw [e]; rfl
theorem expr_ok (e : fe τ h = .ok v h1) : sExpr fe τ h = .next τ h1 := by unfold sExpr M.then; rw [e]
theorem if_ok {b : Bool} (e : t τ h = .ok b h1) : sIf t f g τ h = if b = true then f τ h1 else g τ h1 := by unfold sIf; rw [then_ok e]
theorem ret_ok (e : fe τ h = .ok v h1) : sRet fe τ h = .ret v h1 := by unfold sRet M.then; rw [e]
theorem var_ok (e : τ[i]? = some (some v)) : fVar i τ h = .ok v h := by unfold fVar; rw [e]
theorem c_ok : fC v τ h = .ok v h := rfl
theorem op_ok {k : G2} (e1 : fa τ h = .ok x h1) (e2 : fb τ h1 = .ok y h2) : fOp k fa fb τ h = k x y h2 := by unfold fOp; rw [bind_ok e1, bind_ok e2]
theorem nil_ok : aNil τ h = .ok [] h := rfl
theorem cons_ok (e1 : fe τ h = .ok x h1) (e2 : fs τ h1 = .ok xs h2) : aCons fe fs τ h = .ok (x :: xs) h2 := by unfold aCons; rw [bind_ok e1, bind_ok e2]; rfl
theorem cb_ok {F : FF} (e : fs τ h = .ok xs h1) : fCB F fs τ h = F xs h1 := by unfold fCB; rw [bind_ok e]
theorem call_ok {F : FF} (e : fs τ h = .ok xs h1) (hl : xs.length = n) : fCall F n fs τ h = F xs h1 := by unfold fCall; rw [bind_ok e, if_pos hl]
theorem lst_ok (e : fs τ h = .ok xs h1) (hl : xs.length ≤ big) : fLst fs τ h = .ok (.ref h1.length) (h1 ++ [.lst xs]) := by unfold fLst; rw [bind_ok e, if_pos hl]; rfl
theorem tup_ok (e : fs τ h = .ok xs h1) (hl : xs.length ≤ big) : fTup fs τ h = .ok (.tup xs) h1 := by unfold fTup; rw [bind_ok e, if_pos hl]; rfl
theorem b_ok {k : Bool} (e : fe τ h = .ok (.bl k) h1) : fB fe τ h = .ok k h1 := by unfold fB; rw [bind_ok e]; rfl
theorem tor_ok2 {k : Bool} (e : t τ h = .ok false h1) (e2 : u τ h1 = .ok k h2) : tOrF t u τ h = .ok k h2 := by unfold tOrF; rw [bind_ok e]; exact e2
theorem run_ret (e : f τ h = .ret v h1) : runB f τ h = .ok v h1 := by unfold runB; rw [e]
theorem ls_at {l : Nat} (e : h[l]? = some (.lst xs)) : lsOf h l = some xs := by unfold lsOf; rw [e]
theorem ix_ok {l : Nat} {k : Int} (e : lsOf h l = some xs) (q : atI xs k = some v) : gIx (.ref l) (.int k) h = .ok v h := by unfold gIx; simp only [e, q]
end
end FS

set_option Elab.async false
set_option linter.all false
set_option maxRecDepth 100000
set_option maxHeartbeats 4000000
namespace K10
open PySem PySem.Spec PyProof.Rows L2 FX FQ
open FS hiding a_cons a_nil b_bad b_cons b_nil b_one e_all e_and e_append e_bl e_bltn e_bms e_callD e_callWD e_chain e_compL e_compR e_compS e_div e_fv e_glob e_ifExp e_in e_index e_int e_intC e_isi e_ix e_join e_len e_list e_lst e_max e_min e_mod e_mul e_non e_one e_plus e_pow e_slice e_str e_sum e_tup ev g_setL g_tup gn gs_cons gs_nil ifs_nil j_cons j_nil o_none o_some s_asg s_bad s_expr s_forL s_if s_par3 s_raise s_ret t_eq t_ge t_isNot t_ne t_not t_val w_or w_or1 w_pt
def top (i : Nat) : Stmt := PySem.Challenge.pw_joinedfolk_k10_whole_names.main.body.getD i (.Pass ⟨0, 0, 0, 0⟩)
theorem hu40 {k : Nat} {A : Around} (hr : Room k A) : A.units + 40 < cLine := by have := hr.un; omega
theorem hu40W {k : Nat} {A : Around} (hr : RoomW k A) : A.units + 40 < cLine := by have := hr.un; omega

def itab : ITab := [(.type "NoneType", .type "str", false), (.type "NoneType", .type "tuple", false), (.type "bool", .type "str", false), (.type "bool", .type "tuple", false), (.type "int", .type "str", false), (.type "int", .type "tuple", false), (.type "str", .type "str", true), (.type "str", .type "tuple", false), (.type "tuple", .type "str", false), (.type "tuple", .type "tuple", true), (.type "list", .type "str", false), (.type "list", .type "tuple", false), (.ref 37, .ref 68, false), (.ref 37, .ref 87, false), (.ref 37, .ref 130, false), (.ref 37, .ref 37, true), (.ref 37, .ref 49, false), (.ref 37, .ref 99, false), (.ref 37, .ref 111, false), (.ref 37, .ref 142, false), (.ref 37, .type "ValueError", true)]
def gtup : GTup := [(145, [.str "one", .str "group"])]
def stab : STab := [(37, 68, false), (37, 87, false), (37, 130, false), (37, 24, true)]
def tb : Tb := [(236, 232, "law.<locals>.<lambda>")]
section
variable {P : Program} {w : World} {K : PySem.W.Frag} {mg : Str → Option Value} {base : Heap}
abbrev s_is_word : Stmt := top 14
def N_is_word : List Str := ["thing"]
abbrev s_is_kind : Stmt := top 15
def N_is_kind : List Str := ["thing"]
abbrev s_is_name : Stmt := top 16
def N_is_name : List Str := ["thing", "kind", "word", "house"]
abbrev s_name_text : Stmt := top 17
def N_name_text : List Str := ["name", "kind", "word", "house", "ahead"]
abbrev s_read_name : Stmt := top 18
def N_read_name : List Str := ["text", "kind", "rest", "word", "between", "house", "name"]
abbrev s__law_cell : Stmt := top 20
def N__law_cell : List Str := ["_law_script", "_law_k"]
abbrev s__law_drawn : Stmt := top 21
def N__law_drawn : List Str := ["_law_cell_here", "_law_k", "_law_more"]
abbrev s__law_roll : Stmt := top 22
def N__law_roll : List Str := ["_law_dice", "_law_many", "_law_told_here"]
abbrev s__law_rounds : Stmt := top 23
def N__law_rounds : List Str := ["_law_script", "_law_most"]
abbrev s__law_word : Stmt := top 24
def N__law_word : List Str := ["_law_e", "_law_flags", "_law_words"]
abbrev s__law_house_of : Stmt := top 26
def N__law_house_of : List Str := ["_law_dice"]
abbrev s__law_word_of : Stmt := top 27
def N__law_word_of : List Str := ["_law_dice"]
abbrev s_law : Stmt := top 28
def N_law : List Str := ["_law_script", "_law_dice", "_law_kind", "_law_term", "_law_house", "_law_name", "_law_text", "_law_bad", "_law_thing", "_law_cases"]
abbrev s__law_told : Stmt := top 25

structure Txt (K : PySem.W.Frag) (mg : Str → Option Value) : Prop where
  isi : TabK K itab
  gt : GtOk K gtup
  st : STabK K stab
  g_SIGNS : ∃ t, mg "SIGNS" = some (.str "abcdefghijklmnopqrstuvwxyz0123456789" t)
  g_MOST_SIGNS : ∃ t, mg "MOST_SIGNS" = some (.int 8 t)
  g_KINDS : mg "KINDS" = some (.ref 145)
  g_RoofError : mg "RoofError" = some (.ref 24)
  g_BadName : mg "BadName" = some (.ref 37)
  g_NoHouse : mg "NoHouse" = some (.ref 49)
  g_NoOne : mg "NoOne" = some (.ref 68)
  g_Taken : mg "Taken" = some (.ref 87)
  g_BadRule : mg "BadRule" = some (.ref 99)
  g_BadTime : mg "BadTime" = some (.ref 111)
  g_BadJournal : mg "BadJournal" = some (.ref 130)
  g_Nothing : mg "Nothing" = some (.ref 142)
  x_BadName : PySem.W.excIn K 37 bmV "ValueError.__new__" = true
  n_isinstance : mg "isinstance" = none
  n_len : mg "len" = none
  n_all : mg "all" = none
  n_sum : mg "sum" = none
  n_max : mg "max" = none
  n_min : mg "min" = none
  n_list : mg "list" = none
  n_int : mg "int" = none
  n_range : mg "range" = none
  n_str : mg "str" = none
  n_tuple : mg "tuple" = none
  n_ValueError : mg "ValueError" = none
  d_is_word : DefD K mg "is_word" s_is_word 150 ["thing"]
  d_is_kind : DefD K mg "is_kind" s_is_kind 157 ["thing"]
  d_is_name : DefD K mg "is_name" s_is_name 164 ["thing"]
  d_name_text : DefD K mg "name_text" s_name_text 171 ["name"]
  d_read_name : DefD K mg "read_name" s_read_name 178 ["text"]
  d__law_cell : DefD K mg "_law_cell" s__law_cell 185 ["_law_script", "_law_k"]
  d__law_drawn : DefD K mg "_law_drawn" s__law_drawn 192 ["_law_cell_here", "_law_k"]
  d__law_roll : DefD K mg "_law_roll" s__law_roll 199 ["_law_dice", "_law_many"]
  d__law_rounds : DefD K mg "_law_rounds" s__law_rounds 204 ["_law_script", "_law_most"]
  d__law_word : DefD K mg "_law_word" s__law_word 209 ["_law_e"]
  d__law_house_of : DefD K mg "_law_house_of" s__law_house_of 223 ["_law_dice"]
  d__law_word_of : DefD K mg "_law_word_of" s__law_word_of 230 ["_law_dice"]
  d_told : DefD K mg "_law_told" s__law_told 216 ["_law_deed"]
def g_is_word : FSt := (sSeq (sIf (tNotF (fB (fCB (gIsi itab) (aCons (fVar 0) (aCons (fC (.ty "str")) aNil))))) (sRet (fC (.bl false))) sNext) (sRet (fAnd (fChain (gI fun i j => decide (i ≤ j)) (gI fun i j => decide (i ≤ j)) (fC (.int 1)) (fCB gLen (aCons (fVar 0) aNil)) (fC (.int 8))) (fCB gAll (aCons (fCompS 1 [] (fVar 0) (gN 0) tYes (fOp (gIn gtup) (fVar 0) (fC (.str "abcdefghijklmnopqrstuvwxyz0123456789")))) aNil)))))
def F_is_word : FF := fun xs => runB g_is_word (startT N_is_word xs)
theorem sc_is_word : FnScope N_is_word ["thing"] (defScope s_is_word) := ⟨rfl, rfl, rfl, by decide +kernel, rfl, by decide +kernel, by decide +kernel⟩
theorem f_is_word (T : Txt K mg) : FnD P w K mg base tb 1 "is_word" 150 ["thing"] F_is_word := by
  refine fnD (T.d_is_word) (g := g_is_word) (N := N_is_word) sc_is_word fun cdv A outer s H E hr => ?_
  exact (b_cons (s_if (t_not (t_val (e_isi T.isi rfl T.n_isinstance (a_cons (ev 0) (a_cons (e_bltn (v := .ty "str") (w := .ty "str") rfl T.n_str (by first | rfl | decide +kernel) rfl fun _ _ => rfl) a_nil st_Name) st_Name)))) (b_one (s_ret e_bl)) b_nil)
    (b_one (s_ret (e_and (e_chain op_le (o_I _) op_le (o_I _) e_int (e_len rfl T.n_len (a_cons (ev 0) a_nil st_Name)) (e_glob (v := (.int 8)) (w := (.int 8)) rfl T.g_MOST_SIGNS.choose_spec (by first | exact ⟨_, rfl⟩ | rfl) fun _ _ => rfl)) (e_one (e_all rfl T.n_all (a_cons (e_compS rfl (own := ["sign"]) (xs := []) (pr := []) rfl trivial trivial (ev 0) (fun _ _ _ => gn 0 (hN := (by decide +kernel : (["sign"] : List Str).Nodup))) (fun _ _ _ => ifs_nil) (fun _ _ _ => (e_in T.gt (ev 0) (e_glob (v := (.str "abcdefghijklmnopqrstuvwxyz0123456789")) (w := (.str "abcdefghijklmnopqrstuvwxyz0123456789")) rfl T.g_SIGNS.choose_spec (by first | exact ⟨_, rfl⟩ | rfl) fun _ _ => rfl)))) a_nil)))))))
def g_is_kind : FSt := (sRet (fAnd (fCB (gIsi itab) (aCons (fVar 0) (aCons (fC (.ty "str")) aNil))) (fOp (gIn gtup) (fVar 0) (fC (.adr 145)))))
def F_is_kind : FF := fun xs => runB g_is_kind (startT N_is_kind xs)
theorem sc_is_kind : FnScope N_is_kind ["thing"] (defScope s_is_kind) := ⟨rfl, rfl, rfl, by decide +kernel, rfl, by decide +kernel, by decide +kernel⟩
theorem f_is_kind (T : Txt K mg) : FnD P w K mg base tb 1 "is_kind" 157 ["thing"] F_is_kind := by
  refine fnD (T.d_is_kind) (g := g_is_kind) (N := N_is_kind) sc_is_kind fun cdv A outer s H E hr => ?_
  exact (b_one (s_ret (e_and (e_isi T.isi rfl T.n_isinstance (a_cons (ev 0) (a_cons (e_bltn (v := .ty "str") (w := .ty "str") rfl T.n_str (by first | rfl | decide +kernel) rfl fun _ _ => rfl) a_nil st_Name) st_Name)) (e_one (e_in T.gt (ev 0) (e_glob (v := (.adr 145)) (w := (.ref 145)) rfl T.g_KINDS (by first | exact ⟨_, rfl⟩ | rfl) fun _ _ => rfl))))))
def g_is_name : FSt := (sSeq (sIf (tOrF (tNotF (fB (fCB (gIsi itab) (aCons (fVar 0) (aCons (fC (.ty "tuple")) aNil))))) (fB (fOp gNe (fCB gLen (aCons (fVar 0) aNil)) (fC (.int 3))))) (sRet (fC (.bl false))) sNext) (sSeq (sAsg (fVar 0) (gT [gN 1, gN 2, gN 3])) (sRet (fAnd (fCall F_is_kind 1 (aCons (fVar 1) aNil)) (fAnd (fCall F_is_word 1 (aCons (fVar 2) aNil)) (fCall F_is_word 1 (aCons (fVar 3) aNil)))))))
def F_is_name : FF := fun xs => runB g_is_name (startT N_is_name xs)
theorem sc_is_name : FnScope N_is_name ["thing"] (defScope s_is_name) := ⟨rfl, rfl, rfl, by decide +kernel, rfl, by decide +kernel, by decide +kernel⟩
theorem f_is_name (T : Txt K mg) : FnD P w K mg base tb 2 "is_name" 164 ["thing"] F_is_name := by
  refine fnD (T.d_is_name) (g := g_is_name) (N := N_is_name) sc_is_name fun cdv A outer s H E hr => ?_
  exact (b_cons (s_if (w_pt (w_or (t_not (t_val (e_isi T.isi rfl T.n_isinstance (a_cons (ev 0) (a_cons (e_bltn (v := .ty "tuple") (w := .ty "tuple") rfl T.n_tuple (by first | rfl | decide +kernel) rfl fun _ _ => rfl) a_nil st_Name) st_Name)))) (w_or1 (t_ne (hu40 hr) (e_len rfl T.n_len (a_cons (ev 0) a_nil st_Name)) e_int)))) (b_one (s_ret e_bl)) b_nil)
    (b_cons (s_asg (ev 0) (g_tup rfl (gs_cons (gn 1 (hN := sc_is_name.nd)) (gs_cons (gn 2 (hN := sc_is_name.nd)) (gs_cons (gn 3 (hN := sc_is_name.nd)) gs_nil)))))
    (b_one (s_ret (e_and (e_callD (f_is_kind T) (hr.mono (by decide)) (a_cons (ev 1) a_nil st_Name)) (e_and (e_callD (f_is_word T) (hr.mono (by decide)) (a_cons (ev 2) a_nil st_Name)) (e_one (e_callD (f_is_word T) (hr.mono (by decide)) (a_cons (ev 3) a_nil st_Name)))))))))
def g_name_text : FSt := (sSeq (sIf (tNotF (fB (fCall F_is_name 1 (aCons (fVar 0) aNil)))) (sRaise 37 (aCons (fC (.str "this is no name")) aNil)) sNext) (sSeq (sAsg (fVar 0) (gT [gN 1, gN 2, gN 3])) (sSeq (sAsg (fIf (fB (fOp gEq (fVar 1) (fC (.str "group")))) (fC (.str "#")) (fC (.str ""))) (gN 4)) (sRet (fJoin (jCons (fStr (fVar 4)) (jCons (fStr (fVar 2)) (jCons (fC (.str "@")) (jCons (fStr (fVar 3)) jNil)))))))))
def F_name_text : FF := fun xs => runB g_name_text (startT N_name_text xs)
theorem sc_name_text : FnScope N_name_text ["name"] (defScope s_name_text) := ⟨rfl, rfl, rfl, by decide +kernel, rfl, by decide +kernel, by decide +kernel⟩
theorem f_name_text (T : Txt K mg) : FnD P w K mg base tb 3 "name_text" 171 ["name"] F_name_text := by
  refine fnD (T.d_name_text) (g := g_name_text) (N := N_name_text) sc_name_text fun cdv A outer s H E hr => ?_
  exact (b_cons (s_if (t_not (t_val (e_callD (f_is_name T) (hr.mono (by decide)) (a_cons (ev 0) a_nil st_Name)))) (b_one (s_raise rfl T.x_BadName rfl T.g_BadName (a_cons e_str a_nil st_Constant))) b_nil)
    (b_cons (s_asg (ev 0) (g_tup rfl (gs_cons (gn 1 (hN := sc_name_text.nd)) (gs_cons (gn 2 (hN := sc_name_text.nd)) (gs_cons (gn 3 (hN := sc_name_text.nd)) gs_nil)))))
    (b_cons (s_asg (e_ifExp (t_eq (hu40 hr) (ev 1) e_str) e_str e_str) (gn 4 (hN := sc_name_text.nd)))
    (b_one (s_ret (e_join (j_cons (e_fv (ev 4)) (j_cons (e_fv (ev 2)) (j_cons e_str (j_cons (e_fv (ev 3)) j_nil))))))))))
def g_read_name : FSt := (sSeq (sIf (tNotF (fB (fCB (gIsi itab) (aCons (fVar 0) (aCons (fC (.ty "str")) aNil))))) (sRaise 37 (aCons (fC (.str "this is no text")) aNil)) sNext) (sSeq (sAsg (fIf (fB (fBMs gSw (fVar 0) (aCons (fC (.str "#")) aNil))) (fTup (aCons (fC (.str "group")) (aCons (fSl (fVar 0) (oSome (fC (.int 1))) oNone) aNil))) (fTup (aCons (fC (.str "one")) (aCons (fVar 0) aNil)))) (gT [gN 1, gN 2])) (sSeq (sAsg (fBMs gPart (fVar 2) (aCons (fC (.str "@")) aNil)) (gT [gN 3, gN 4, gN 5])) (sSeq (sAsg (fTup (aCons (fVar 1) (aCons (fVar 3) (aCons (fVar 5) aNil)))) (gN 6)) (sSeq (sIf (tNotF (fB (fCall F_is_name 1 (aCons (fVar 6) aNil)))) (sRaise 37 (aCons (fC (.str "this is no text of a name")) aNil)) sNext) (sRet (fVar 6)))))))
def F_read_name : FF := fun xs => runB g_read_name (startT N_read_name xs)
theorem sc_read_name : FnScope N_read_name ["text"] (defScope s_read_name) := ⟨rfl, rfl, rfl, by decide +kernel, rfl, by decide +kernel, by decide +kernel⟩
theorem f_read_name (T : Txt K mg) : FnD P w K mg base tb 3 "read_name" 178 ["text"] F_read_name := by
  refine fnD (T.d_read_name) (g := g_read_name) (N := N_read_name) sc_read_name fun cdv A outer s H E hr => ?_
  exact (b_cons (s_if (t_not (t_val (e_isi T.isi rfl T.n_isinstance (a_cons (ev 0) (a_cons (e_bltn (v := .ty "str") (w := .ty "str") rfl T.n_str (by first | rfl | decide +kernel) rfl fun _ _ => rfl) a_nil st_Name) st_Name)))) (b_one (s_raise rfl T.x_BadName rfl T.g_BadName (a_cons e_str a_nil st_Constant))) b_nil)
    (b_cons (s_asg (e_ifExp (t_val (e_bms PySem.F.slot_str_startswith PySem.F.type_str_startswith mt_sw (ev 0) (a_cons e_str a_nil st_Constant))) (e_tup (a_cons e_str (a_cons (e_slice (ev 0) (o_some e_int) o_none) a_nil st_Subscript) st_Constant)) (e_tup (a_cons e_str (a_cons (ev 0) a_nil st_Name) st_Constant))) (g_tup rfl (gs_cons (gn 1 (hN := sc_read_name.nd)) (gs_cons (gn 2 (hN := sc_read_name.nd)) gs_nil))))
    (b_cons (s_asg (e_bms PySem.F.slot_str_partition PySem.F.type_str_partition mt_part (ev 2) (a_cons e_str a_nil st_Constant)) (g_tup rfl (gs_cons (gn 3 (hN := sc_read_name.nd)) (gs_cons (gn 4 (hN := sc_read_name.nd)) (gs_cons (gn 5 (hN := sc_read_name.nd)) gs_nil)))))
    (b_cons (s_asg (e_tup (a_cons (ev 1) (a_cons (ev 3) (a_cons (ev 5) a_nil st_Name) st_Name) st_Name)) (gn 6 (hN := sc_read_name.nd)))
    (b_cons (s_if (t_not (t_val (e_callD (f_is_name T) (hr.mono (by decide)) (a_cons (ev 6) a_nil st_Name)))) (b_one (s_raise rfl T.x_BadName rfl T.g_BadName (a_cons e_str a_nil st_Constant))) b_nil)
    (b_one (s_ret (ev 6))))))))
def g__law_cell : FSt := (sSeq (sIf (fB (fOp gEq (fVar 0) (fLst aNil))) (sRet (fOp gMul (fVar 1) (fC (.int 7919)))) sNext) (sRet (fOp gPlus (fOp gIx (fVar 0) (fOp gMod (fVar 1) (fCB gLen (aCons (fVar 0) aNil)))) (fOp gMul (fOp gDiv (fVar 1) (fCB gLen (aCons (fVar 0) aNil))) (fC (.int 104729))))))
def F__law_cell : FF := fun xs => runB g__law_cell (startT N__law_cell xs)
theorem sc__law_cell : FnScope N__law_cell ["_law_script", "_law_k"] (defScope s__law_cell) := ⟨rfl, rfl, rfl, by decide +kernel, rfl, by decide +kernel, by decide +kernel⟩
theorem f__law_cell (T : Txt K mg) : FnD P w K mg base tb 1 "_law_cell" 185 ["_law_script", "_law_k"] F__law_cell := by
  refine fnD (T.d__law_cell) (g := g__law_cell) (N := N__law_cell) sc__law_cell fun cdv A outer s H E hr => ?_
  exact (b_cons (s_if (t_eq (hu40 hr) (ev 0) (e_lst a_nil)) (b_one (s_ret (e_mul (ev 1) e_int))) b_nil)
    (b_one (s_ret (e_plus (e_ix (ev 0) (e_mod (ev 1) (e_len rfl T.n_len (a_cons (ev 0) a_nil st_Name)))) (e_mul (e_div (ev 1) (e_len rfl T.n_len (a_cons (ev 0) a_nil st_Name))) e_int)))))
def g__law_drawn : FSt := (sSeq (sAsg (fOp gMod (fOp gPlus (fOp gMul (fVar 0) (fC (.int 6364136223846793005))) (fOp gMul (fOp gPlus (fVar 1) (fC (.int 1))) (fC (.int 1442695040888963407)))) (fC (.int 340282366920938463463374607431768211507))) (gN 2)) (sSeq (sAsg (fOp gMod (fOp gMul (fVar 2) (fVar 2)) (fC (.int 340282366920938463463374607431768211297))) (gN 2)) (sSeq (sAsg (fOp gMul (fOp gMul (fOp gPlus (fOp gMod (fVar 2) (fC (.int 18446744073709551557))) (fC (.int 1))) (fOp gPlus (fOp gDiv (fVar 2) (fC (.int 18446744073709551557))) (fC (.int 1)))) (fVar 2)) (gN 2)) (sRet (fOp gMod (fVar 2) (fC (.int 340282366920938463463374607431768211507)))))))
def F__law_drawn : FF := fun xs => runB g__law_drawn (startT N__law_drawn xs)
theorem sc__law_drawn : FnScope N__law_drawn ["_law_cell_here", "_law_k"] (defScope s__law_drawn) := ⟨rfl, rfl, rfl, by decide +kernel, rfl, by decide +kernel, by decide +kernel⟩
theorem f__law_drawn (T : Txt K mg) : FnD P w K mg base tb 1 "_law_drawn" 192 ["_law_cell_here", "_law_k"] F__law_drawn := by
  refine fnD (T.d__law_drawn) (g := g__law_drawn) (N := N__law_drawn) sc__law_drawn fun cdv A outer s H E hr => ?_
  exact (b_cons (s_asg (e_mod (e_plus (e_mul (ev 0) e_int) (e_mul (e_plus (ev 1) e_int) e_int)) e_int) (gn 2 (hN := sc__law_drawn.nd)))
    (b_cons (s_asg (e_mod (e_mul (ev 2) (ev 2)) e_int) (gn 2 (hN := sc__law_drawn.nd)))
    (b_cons (s_asg (e_mul (e_mul (e_plus (e_mod (ev 2) e_int) e_int) (e_plus (e_div (ev 2) e_int) e_int)) (ev 2)) (gn 2 (hN := sc__law_drawn.nd)))
    (b_one (s_ret (e_mod (ev 2) e_int))))))
def g__law_roll : FSt := (sSeq (sIf (fB (fOp (gI fun i j => decide (j ≤ i)) (fOp gIx (fVar 0) (fC (.int 0))) (fOp gPow (fC (.int 10)) (fC (.int 18))))) (sSeq (sAsg (fOp gMod (fOp gIx (fVar 0) (fC (.int 0))) (fVar 1)) (gN 2)) (sSeq (sAsg (fOp gDiv (fOp gIx (fVar 0) (fC (.int 0))) (fVar 1)) (gSetL (fVar 0) (fC (.int 0)))) (sRet (fVar 2)))) sNext) (sSeq (sAsg (fOp gPlus (fOp gIx (fVar 0) (fC (.int 1))) (fC (.int 1))) (gSetL (fVar 0) (fC (.int 1)))) (sRet (fOp gMod (fOp gDiv (fCall F__law_drawn 2 (aCons (fOp gIx (fVar 0) (fC (.int 0))) (aCons (fOp gIx (fVar 0) (fC (.int 1))) aNil))) (fC (.int 8))) (fVar 1)))))
def F__law_roll : FF := fun xs => runB g__law_roll (startT N__law_roll xs)
theorem sc__law_roll : FnScope N__law_roll ["_law_dice", "_law_many"] (defScope s__law_roll) := ⟨rfl, rfl, rfl, by decide +kernel, rfl, by decide +kernel, by decide +kernel⟩
theorem f__law_roll (T : Txt K mg) : FnD P w K mg base tb 2 "_law_roll" 199 ["_law_dice", "_law_many"] F__law_roll := by
  refine fnD (T.d__law_roll) (g := g__law_roll) (N := N__law_roll) sc__law_roll fun cdv A outer s H E hr => ?_
  exact (b_cons (s_if (t_ge (e_ix (ev 0) e_int) (e_pow e_int e_int)) (b_cons (s_asg (e_mod (e_ix (ev 0) e_int) (ev 1)) (gn 2 (hN := sc__law_roll.nd)))
    (b_cons (s_asg (e_div (e_ix (ev 0) e_int) (ev 1)) (g_setL (ev 0) e_int))
    (b_one (s_ret (ev 2))))) b_nil)
    (b_cons (s_asg (e_plus (e_ix (ev 0) e_int) e_int) (g_setL (ev 0) e_int))
    (b_one (s_ret (e_mod (e_div (e_callD (f__law_drawn T) (hr.mono (by decide)) (a_cons (e_ix (ev 0) e_int) (a_cons (e_ix (ev 0) e_int) a_nil st_Subscript) st_Subscript)) e_int) (ev 1))))))
def g__law_rounds : FSt := (sRet (fCompR 1 [0] (aCons (fCB gMax (aCons (fC (.int 1)) (aCons (fCB gMin (aCons (fVar 1) (aCons (fCB gLen (aCons (fVar 0) aNil)) aNil))) aNil))) aNil) (gN 0) tYes (fLst (aCons (fCall F__law_cell 2 (aCons (fVar 1) (aCons (fVar 0) aNil))) (aCons (fC (.int 0)) aNil)))))
def F__law_rounds : FF := fun xs => runB g__law_rounds (startT N__law_rounds xs)
theorem sc__law_rounds : FnScope N__law_rounds ["_law_script", "_law_most"] (defScope s__law_rounds) := ⟨rfl, rfl, rfl, by decide +kernel, rfl, by decide +kernel, by decide +kernel⟩
theorem f__law_rounds (T : Txt K mg) : FnD P w K mg base tb 2 "_law_rounds" 204 ["_law_script", "_law_most"] F__law_rounds := by
  refine fnD (T.d__law_rounds) (g := g__law_rounds) (N := N__law_rounds) sc__law_rounds fun cdv A outer s H E hr => ?_
  exact (b_one (s_ret (e_compR rfl rfl T.n_range (own := ["_law_k"]) (xs := ["_law_script"]) (pr := [0]) rfl ⟨rfl, trivial⟩ ⟨rfl, (by first | exact .inl rfl | exact .inr rfl), ⟨rfl, rfl⟩, trivial⟩ (a_cons (e_max rfl rfl T.n_max (a_cons e_int (a_cons (e_min rfl rfl T.n_min (a_cons (ev 1) (a_cons (e_len rfl T.n_len (a_cons (ev 0) a_nil st_Name)) a_nil st_Call) st_Name)) a_nil st_Call) st_Constant)) a_nil st_Call) (fun _ _ _ => gn 0 (hN := (by decide +kernel : (["_law_k", "_law_script"] : List Str).Nodup))) (fun _ _ _ => ifs_nil) (fun _ _ _ => (e_lst (a_cons (e_callD (f__law_cell T) (hr.mono (by decide)) (a_cons (ev 1) (a_cons (ev 0) a_nil st_Name) st_Name)) (a_cons e_int a_nil st_Constant) st_Call))))))
def g__law_word : FSt := (sSeq (sAsg (fLst (aCons (fCB (gIsi itab) (aCons (fVar 0) (aCons (fC (.adr 68)) aNil))) (aCons (fCB (gIsi itab) (aCons (fVar 0) (aCons (fC (.adr 87)) aNil))) (aCons (fCB (gIsi itab) (aCons (fVar 0) (aCons (fC (.adr 130)) aNil))) (aCons (fCB (gIsi itab) (aCons (fVar 0) (aCons (fC (.adr 37)) aNil))) aNil))))) (gN 1)) (sSeq (sAsg (fOp gPlus (fVar 1) (fLst (aCons (fCB (gIsi itab) (aCons (fVar 0) (aCons (fC (.adr 49)) aNil))) (aCons (fCB (gIsi itab) (aCons (fVar 0) (aCons (fC (.adr 99)) aNil))) (aCons (fCB (gIsi itab) (aCons (fVar 0) (aCons (fC (.adr 111)) aNil))) aNil))))) (gN 1)) (sSeq (sExpr (fBMl gApp (fVar 1) (aCons (fCB (gIsi itab) (aCons (fVar 0) (aCons (fC (.adr 142)) aNil))) aNil))) (sSeq (sAsg (fLst (aCons (fC (.str "NoOne")) (aCons (fC (.str "Taken")) (aCons (fC (.str "BadJournal")) (aCons (fC (.str "BadName")) (aCons (fC (.str "NoHouse")) (aCons (fC (.str "BadRule")) (aCons (fC (.str "BadTime")) (aCons (fC (.str "Nothing")) aNil))))))))) (gN 2)) (sSeq (sIf (tOrF (fB (fOp gNe (fCB gSum (aCons (fCompL 1 [] (fVar 1) (gN 0) tYes (fCB gInt (aCons (fVar 0) aNil))) aNil)) (fC (.int 1)))) (tNotF (fB (fCB (gIsi itab) (aCons (fVar 0) (aCons (fC (.ty "ValueError")) aNil)))))) (sRet (fTup (aCons (fC (.str "refused")) (aCons (fC (.str "other")) aNil)))) sNext) (sRet (fTup (aCons (fC (.str "refused")) (aCons (fOp gIx (fVar 2) (fBMl gIdx (fVar 1) (aCons (fC (.bl true)) aNil))) aNil)))))))))
def F__law_word : FF := fun xs => runB g__law_word (startT N__law_word xs)
theorem sc__law_word : FnScope N__law_word ["_law_e"] (defScope s__law_word) := ⟨rfl, rfl, rfl, by decide +kernel, rfl, by decide +kernel, by decide +kernel⟩
theorem f__law_word (T : Txt K mg) : FnWD P w K mg base tb 1 "_law_word" 209 ["_law_e"] F__law_word := by
  refine fnWD (T.d__law_word) (g := g__law_word) (N := N__law_word) sc__law_word fun cdv A outer s H hr => ?_
  exact (b_cons (s_asg (e_lst (a_cons (e_isi T.isi rfl T.n_isinstance (a_cons (ev 0) (a_cons (e_glob (v := (.adr 68)) (w := (.ref 68)) rfl T.g_NoOne (by first | exact ⟨_, rfl⟩ | rfl) fun _ _ => rfl) a_nil st_Name) st_Name)) (a_cons (e_isi T.isi rfl T.n_isinstance (a_cons (ev 0) (a_cons (e_glob (v := (.adr 87)) (w := (.ref 87)) rfl T.g_Taken (by first | exact ⟨_, rfl⟩ | rfl) fun _ _ => rfl) a_nil st_Name) st_Name)) (a_cons (e_isi T.isi rfl T.n_isinstance (a_cons (ev 0) (a_cons (e_glob (v := (.adr 130)) (w := (.ref 130)) rfl T.g_BadJournal (by first | exact ⟨_, rfl⟩ | rfl) fun _ _ => rfl) a_nil st_Name) st_Name)) (a_cons (e_isi T.isi rfl T.n_isinstance (a_cons (ev 0) (a_cons (e_glob (v := (.adr 37)) (w := (.ref 37)) rfl T.g_BadName (by first | exact ⟨_, rfl⟩ | rfl) fun _ _ => rfl) a_nil st_Name) st_Name)) a_nil st_Call) st_Call) st_Call) st_Call)) (gn 1 (hN := sc__law_word.nd)))
    (b_cons (s_asg (e_plus (ev 1) (e_lst (a_cons (e_isi T.isi rfl T.n_isinstance (a_cons (ev 0) (a_cons (e_glob (v := (.adr 49)) (w := (.ref 49)) rfl T.g_NoHouse (by first | exact ⟨_, rfl⟩ | rfl) fun _ _ => rfl) a_nil st_Name) st_Name)) (a_cons (e_isi T.isi rfl T.n_isinstance (a_cons (ev 0) (a_cons (e_glob (v := (.adr 99)) (w := (.ref 99)) rfl T.g_BadRule (by first | exact ⟨_, rfl⟩ | rfl) fun _ _ => rfl) a_nil st_Name) st_Name)) (a_cons (e_isi T.isi rfl T.n_isinstance (a_cons (ev 0) (a_cons (e_glob (v := (.adr 111)) (w := (.ref 111)) rfl T.g_BadTime (by first | exact ⟨_, rfl⟩ | rfl) fun _ _ => rfl) a_nil st_Name) st_Name)) a_nil st_Call) st_Call) st_Call))) (gn 1 (hN := sc__law_word.nd)))
    (b_cons (s_expr (e_append (ev 1) (a_cons (e_isi T.isi rfl T.n_isinstance (a_cons (ev 0) (a_cons (e_glob (v := (.adr 142)) (w := (.ref 142)) rfl T.g_Nothing (by first | exact ⟨_, rfl⟩ | rfl) fun _ _ => rfl) a_nil st_Name) st_Name)) a_nil st_Call)))
    (b_cons (s_asg (e_lst (a_cons e_str (a_cons e_str (a_cons e_str (a_cons e_str (a_cons e_str (a_cons e_str (a_cons e_str (a_cons e_str a_nil st_Constant) st_Constant) st_Constant) st_Constant) st_Constant) st_Constant) st_Constant) st_Constant)) (gn 2 (hN := sc__law_word.nd)))
    (b_cons (s_if (w_pt (w_or (t_ne (hu40W hr) (e_sum rfl T.n_sum (a_cons (e_compL (own := ["_law_flag"]) (xs := []) (pr := []) rfl trivial trivial (ev 1) (fun _ _ _ => gn 0 (hN := (by decide +kernel : (["_law_flag"] : List Str).Nodup))) (fun _ _ _ => ifs_nil) (fun _ _ _ => (e_intC rfl T.n_int (a_cons (ev 0) a_nil st_Name)))) a_nil)) e_int) (w_or1 (t_not (t_val (e_isi T.isi rfl T.n_isinstance (a_cons (ev 0) (a_cons (e_bltn (v := .ty "ValueError") (w := .ty "ValueError") rfl T.n_ValueError (by first | rfl | decide +kernel) rfl fun _ _ => rfl) a_nil st_Name) st_Name))))))) (b_one (s_ret (e_tup (a_cons e_str (a_cons e_str a_nil st_Constant) st_Constant)))) b_nil)
    (b_one (s_ret (e_tup (a_cons e_str (a_cons (e_ix (ev 2) (e_index (ev 1) (a_cons e_bl a_nil st_Constant))) a_nil st_Subscript) st_Constant)))))))))
def g__law_house_of : FSt := (sRet (fOp gIx (fLst (aCons (fC (.str "oak")) (aCons (fC (.str "elm")) (aCons (fC (.str "ash")) (aCons (fC (.str "x1")) aNil))))) (fCall F__law_roll 2 (aCons (fVar 0) (aCons (fC (.int 4)) aNil)))))
def F__law_house_of : FF := fun xs => runB g__law_house_of (startT N__law_house_of xs)
theorem sc__law_house_of : FnScope N__law_house_of ["_law_dice"] (defScope s__law_house_of) := ⟨rfl, rfl, rfl, by decide +kernel, rfl, by decide +kernel, by decide +kernel⟩
theorem f__law_house_of (T : Txt K mg) : FnD P w K mg base tb 3 "_law_house_of" 223 ["_law_dice"] F__law_house_of := by
  refine fnD (T.d__law_house_of) (g := g__law_house_of) (N := N__law_house_of) sc__law_house_of fun cdv A outer s H E hr => ?_
  exact (b_one (s_ret (e_ix (e_lst (a_cons e_str (a_cons e_str (a_cons e_str (a_cons e_str a_nil st_Constant) st_Constant) st_Constant) st_Constant)) (e_callD (f__law_roll T) (hr.mono (by decide)) (a_cons (ev 0) (a_cons e_int a_nil st_Constant) st_Name)))))
def g__law_word_of : FSt := (sRet (fOp gIx (fLst (aCons (fC (.str "ann")) (aCons (fC (.str "bob")) (aCons (fC (.str "crew")) (aCons (fC (.str "longword")) aNil))))) (fCall F__law_roll 2 (aCons (fVar 0) (aCons (fC (.int 4)) aNil)))))
def F__law_word_of : FF := fun xs => runB g__law_word_of (startT N__law_word_of xs)
theorem sc__law_word_of : FnScope N__law_word_of ["_law_dice"] (defScope s__law_word_of) := ⟨rfl, rfl, rfl, by decide +kernel, rfl, by decide +kernel, by decide +kernel⟩
theorem f__law_word_of (T : Txt K mg) : FnD P w K mg base tb 3 "_law_word_of" 230 ["_law_dice"] F__law_word_of := by
  refine fnD (T.d__law_word_of) (g := g__law_word_of) (N := N__law_word_of) sc__law_word_of fun cdv A outer s H E hr => ?_
  exact (b_one (s_ret (e_ix (e_lst (a_cons e_str (a_cons e_str (a_cons e_str (a_cons e_str a_nil st_Constant) st_Constant) st_Constant) st_Constant)) (e_callD (f__law_roll T) (hr.mono (by decide)) (a_cons (ev 0) (a_cons e_int a_nil st_Constant) st_Name)))))
end
end K10
set_option Elab.async false
set_option linter.all false
set_option maxRecDepth 100000
set_option maxHeartbeats 4000000
namespace K10
open PySem PySem.Spec PyProof.Rows L2 FX FQ
open FS hiding a_cons a_nil b_bad b_cons b_nil b_one e_all e_and e_append e_bl e_bltn e_bms e_callD e_callWD e_chain e_compL e_compR e_compS e_div e_fv e_glob e_ifExp e_in e_index e_int e_intC e_isi e_ix e_join e_len e_list e_lst e_max e_min e_mod e_mul e_non e_one e_plus e_pow e_slice e_str e_sum e_tup ev g_setL g_tup gn gs_cons gs_nil ifs_nil j_cons j_nil o_none o_some s_asg s_bad s_expr s_forL s_if s_par3 s_raise s_ret t_eq t_ge t_isNot t_ne t_not t_val w_or w_or1 w_pt
section
variable {P : Program} {w : World} {K : PySem.W.Frag} {mg : Str → Option Value} {base : Heap}
def N_told : List Str := ["_law_deed", "_law_e"]
theorem sc_told : FnScope N_told ["_law_deed"] (defScope s__law_told) := ⟨rfl, rfl, rfl, by decide +kernel, rfl, by decide +kernel, by decide +kernel⟩
def fh_told : FH := hCons stab 68 1 2 sBad (hCons stab 87 1 2 sBad (hCons stab 130 1 2 sBad (hCons stab 24 1 2 (sRet (fCallW F__law_word 1 (aCons (fVar 1) aNil))) hNil)))

def freeOk (ns : List (Str × NameKind)) (clos : List (Str × Addr)) : Bool := ns.all fun y => match y.2 with
  | .cell => false
  | .local => false
  | .free => (clos.lookup y.1).isSome
  | _ => true
theorem freeOk_is {ns : List (Str × NameKind)} {clos : List (Str × Addr)} (h : freeOk ns clos = true) : ∀ y ∈ ns, y.2 ≠ .cell ∧ y.2 ≠ .local ∧ (y.2 = .free → (clos.lookup y.1).isSome = true) := fun y hy => by
  have := List.all_eq_true.mp h y hy
  cases e : y.2 <;> rw [e] at this <;> simp_all
theorem e_toldD {X : Cx} {params : Arguments} {body : Expr} {scope : Scope} {lpos tp pos : Pos} {clos : List (Str × Addr)} {pr : List Nat} {xs : List Str} {fE : FE} (T : Txt K mg) (hr : Room 5 X.A) (L : LamAt X tb 236 232 "law.<locals>.<lambda>")
    (hcl : closureFor scope X.env = pure clos) (hall : AllC X.env.cells clos) (cap : CapOk X scope clos pr xs)
    (hE : ∀ (A : Around) (stk : List Env) (Lz g : Addr) (c' : Addr) (s : Shared) (H : Hp) (xe : Value → Shared → Prop), Room 3 (A.deeper (lamEnv scope Lz clos (Str.ofString "law.<locals>.<lambda>" ++ ".<locals>.") g (.ref c'))) → EOk tb (cxT P w K mg base A stk xs (lamEnv scope Lz clos (Str.ofString "law.<locals>.<lambda>" ++ ".<locals>.") g (.ref c')) s H xe) body fE)
    (hX : X.prog = P ∧ X.w = w ∧ X.K = K ∧ X.mg = mg ∧ X.base = base := by exact ⟨rfl, rfl, rfl, rfl, rfl⟩) (hq : Str.ofString "law.<locals>.<lambda>" = X.env.qual ++ "<lambda>" := by rfl) (hcalm : X.calm = true := by rfl) (hg : Gl X "_law_told" := by rfl) (hdef : defaultsOf params X.env = ([], []) := by rfl)
    (hbind : ∀ pm' c' ctv, bindArgs (PySem.W.kla_fn "<lambda>" "law.<locals>.<lambda>" params body scope clos pm' (.ref c') ctv) ⟨[], []⟩ = pure [] := by intros; rfl) (hsk : scope.kind = .function := by rfl) (hco : scope.isCoroutine = false := by rfl) (hgen : scope.isGenerator = false := by rfl)
    (hfree : freeOk scope.names clos = true := by rfl) :
    EOk tb X (.Call (.Name "_law_told" tp) [.Lambda params body scope lpos] [] pos) (fTold pr fE fh_told) := by
  obtain ⟨fd, F, hb, hm⟩ := T.d_told
  obtain ⟨oc, od, kV, doc, pm, an, cdv, ct, osl, rfl, lk, hcd⟩ := F.ex
  refine e_told (k := 3) (Nt := N_told) hX hcalm lk hcd sc_told rfl hg hm F.kp hb hr L hq hdef hcl hall cap hbind hsk hco hgen (freeOk_is hfree) (fun A outer s H E hr2 => ?_) hE
  refine hs_cons rfl ⟨rfl, rfl⟩ (fun _ => rfl) T.st rfl T.g_NoOne sc_told.nd (i := 1) rfl rfl (fun _ => FS.b_bad) ?_
  refine hs_cons rfl ⟨rfl, rfl⟩ (fun _ => rfl) T.st rfl T.g_Taken sc_told.nd (i := 1) rfl rfl (fun _ => FS.b_bad) ?_
  refine hs_cons rfl ⟨rfl, rfl⟩ (fun _ => rfl) T.st rfl T.g_BadJournal sc_told.nd (i := 1) rfl rfl (fun _ => FS.b_bad) ?_
  refine hs_cons rfl ⟨rfl, rfl⟩ (fun _ => rfl) T.st rfl T.g_RoofError sc_told.nd (i := 1) rfl rfl (fun _ => ?_) hs_nil
  refine FS.b_one (FS.s_ret ?_)
  refine FS.e_callWD (X := Cx.hold (cxOf (CXF P w base) P w K mg base N_told "_law_told" (defScope s__law_told) 216 cdv A outer s H E) _ _) (f__law_word T) ?_ (FS.a_cons (FS.ev 1) FS.a_nil)
  exact ⟨(hr2.mono (by decide : 1 ≤ 4)).dp, (hr2.mono (by decide : 1 ≤ 4)).un⟩
theorem e_toldQ {X : Cx} {params : Arguments} {body : Expr} {scope : Scope} {lpos tp pos : Pos} {clos : List (Str × Addr)} {pr : List Nat} {xs : List Str} {fE : FE} (T : Txt K mg) (hr : Room 5 X.A) (L : LamAt X tb 236 232 "law.<locals>.<lambda>")
    (hcl : closureFor scope X.env = pure clos) (hall : AllC X.env.cells clos) (cap : CapOk X scope clos pr xs)
    (hE : ∀ (A : Around) (stk : List Env) (Lz g : Addr) (c' : Addr) (s : Shared) (H : Hp) (xe : Value → Shared → Prop), Room 3 (A.deeper (lamEnv scope Lz clos (Str.ofString "law.<locals>.<lambda>" ++ ".<locals>.") g (.ref c'))) → QE tb (cxT P w K mg base A stk xs (lamEnv scope Lz clos (Str.ofString "law.<locals>.<lambda>" ++ ".<locals>.") g (.ref c')) s H xe) body fE)
    (hX : X.prog = P ∧ X.w = w ∧ X.K = K ∧ X.mg = mg ∧ X.base = base := by exact ⟨rfl, rfl, rfl, rfl, rfl⟩) (hq : Str.ofString "law.<locals>.<lambda>" = X.env.qual ++ "<lambda>" := by rfl) (hcalm : X.calm = true := by rfl) (hg : Gl X "_law_told" := by rfl) (hdef : defaultsOf params X.env = ([], []) := by rfl)
    (hbind : ∀ pm' c' ctv, bindArgs (PySem.W.kla_fn "<lambda>" "law.<locals>.<lambda>" params body scope clos pm' (.ref c') ctv) ⟨[], []⟩ = pure [] := by intros; rfl) (hsk : scope.kind = .function := by rfl) (hco : scope.isCoroutine = false := by rfl) (hgen : scope.isGenerator = false := by rfl)
    (hfree : freeOk scope.names clos = true := by rfl) :
    QE tb X (.Call (.Name "_law_told" tp) [.Lambda params body scope lpos] [] pos) (fTold pr fE fh_told) := by
  simp only [QE_is] at *
  exact e_toldD T hr L hcl hall cap hE hX hq hcalm hg hdef hbind hsk hco hgen hfree

theorem sc_law : FnScope N_law ["_law_script"] (defScope s_law) := ⟨rfl, rfl, rfl, by decide +kernel, rfl, by decide +kernel, by decide +kernel⟩
def lawFor : Stmt := (defBody s_law).getD 0 (.Pass ⟨0, 0, 0, 0⟩)
def forOf : Stmt → List Stmt
  | .For _ _ b .. => b
  | _ => []
def lawSt (i : Nat) : Stmt := (forOf lawFor).getD i (.Pass ⟨0, 0, 0, 0⟩)
def g_law_0 : FSt := (sPar3 2 3 4 (aCons (fOp gIx (fLst (aCons (fC (.str "one")) (aCons (fC (.str "group")) aNil))) (fCall F__law_roll 2 (aCons (fVar 1) (aCons (fC (.int 2)) aNil)))) (aCons (fCall F__law_word_of 1 (aCons (fVar 1) aNil)) (aCons (fCall F__law_house_of 1 (aCons (fVar 1) aNil)) aNil))))
def g_law_1 : FSt := (sAsg (fTup (aCons (fVar 2) (aCons (fVar 3) (aCons (fVar 4) aNil)))) (gN 5))
def g_law_2 : FSt := (sAsg (fOp gPlus (fOp gPlus (fOp gPlus (fIf (fB (fOp gEq (fVar 2) (fC (.str "group")))) (fC (.str "#")) (fC (.str ""))) (fVar 3)) (fC (.str "@"))) (fVar 4)) (gN 6))
def g_law_3 : FSt := (sIf (tOrF (fB (fOp gIsNot (fCall F_is_name 1 (aCons (fVar 5) aNil)) (fC (.bl true)))) (tOrF (fB (fOp gNe (fCall F_name_text 1 (aCons (fVar 5) aNil)) (fVar 6))) (fB (fOp gNe (fCall F_read_name 1 (aCons (fVar 6) aNil)) (fVar 5))))) (sRet (fC (.bl false))) sNext)
def g_law_4 : FSt := (sIf (fB (fOp gIsNot (fCall F_is_word 1 (aCons (fVar 3) aNil)) (fC (.bl true)))) (sRet (fC (.bl false))) sNext)
def g_law_5 : FSt := (sAsg (fLst (aCons (fC .non) (aCons (fC (.int 5)) (aCons (fC (.bl true)) (aCons (fC (.str "")) (aCons (fC (.str "A")) (aCons (fC (.str "abcdefghi")) (aCons (fC (.str "a b")) (aCons (fC (.str "a@b")) (aCons (fTup (aCons (fC (.str "a")) aNil)) (aCons (fC (.str "#a")) (aCons (fC (.str "a-b")) aNil)))))))))))) (gN 7))
def g_law_6 : FSt := (sForL (fVar 7) (gN 8) (sSeq (sIf (tOrF (fB (fOp gIsNot (fCall F_is_word 1 (aCons (fVar 8) aNil)) (fC (.bl false)))) (fB (fOp gIsNot (fCall F_is_name 1 (aCons (fTup (aCons (fC (.str "one")) (aCons (fVar 8) (aCons (fVar 4) aNil)))) aNil)) (fC (.bl false))))) (sRet (fC (.bl false))) sNext) (sIf (fB (fOp gIsNot (fCall F_is_name 1 (aCons (fTup (aCons (fVar 2) (aCons (fVar 3) (aCons (fVar 8) aNil)))) aNil)) (fC (.bl false)))) (sRet (fC (.bl false))) sNext)))
def g_law_7 : FSt := (sAsg (fLst (aCons (fC .non) (aCons (fC (.int 5)) (aCons (fVar 6) (aCons (fTup aNil) (aCons (fSl (fVar 5) oNone (oSome (fC (.int 2)))) (aCons (fOp gPlus (fVar 5) (fTup (aCons (fC (.str "a")) aNil))) (aCons (fCB gList (aCons (fVar 5) aNil)) (aCons (fTup (aCons (fC (.str "One")) (aCons (fVar 3) (aCons (fVar 4) aNil)))) aNil))))))))) (gN 9))
def g_law_8 : FSt := (sAsg (fOp gPlus (fVar 9) (fLst (aCons (fTup (aCons (fC .non) (aCons (fVar 3) (aCons (fVar 4) aNil)))) (aCons (fTup (aCons (fC (.str "")) (aCons (fVar 3) (aCons (fVar 4) aNil)))) aNil)))) (gN 9))
def g_law_9 : FSt := (sForL (fVar 9) (gN 8) (sSeq (sIf (fB (fOp gIsNot (fCall F_is_name 1 (aCons (fVar 8) aNil)) (fC (.bl false)))) (sRet (fC (.bl false))) sNext) (sIf (fB (fOp gNe (fTold [8] (fCall F_name_text 1 (aCons (fVar 0) aNil)) fh_told) (fTup (aCons (fC (.str "refused")) (aCons (fC (.str "BadName")) aNil))))) (sRet (fC (.bl false))) sNext)))
def g_law_10 : FSt := (sAsg (fLst (aCons (fC .non) (aCons (fC (.int 5)) (aCons (fC (.str "")) (aCons (fC (.str "ann")) (aCons (fC (.str "@oak")) (aCons (fC (.str "ann@")) (aCons (fC (.str "#@oak")) (aCons (fC (.str "##a@oak")) (aCons (fC (.str "a#b@oak")) (aCons (fC (.str "a@b@c")) aNil))))))))))) (gN 9))
def g_law_11 : FSt := (sAsg (fOp gPlus (fVar 9) (fLst (aCons (fC (.str "Ann@oak")) (aCons (fC (.str "a b@oak")) (aCons (fC (.str " a@oak")) (aCons (fVar 5) aNil)))))) (gN 9))
def g_law_12 : FSt := (sForL (fVar 9) (gN 8) (sIf (fB (fOp gNe (fTold [8] (fCall F_read_name 1 (aCons (fVar 0) aNil)) fh_told) (fTup (aCons (fC (.str "refused")) (aCons (fC (.str "BadName")) aNil))))) (sRet (fC (.bl false))) sNext))
theorem l_law_0 (T : Txt K mg) {A : Around} {outer : List Env} {s : Shared} {H : Hp} {E : XK} (hr : Room 5 (A.deeper (envOfC "law" (defScope s_law) s.heap.objs.size 237 (.ref 236)))) (hL : LamAt ((cxOf (CXF P w base) P w K mg base N_law "law" (defScope s_law) 237 (.ref 236) A outer s H E).nox) tb 236 232 "law.<locals>.<lambda>") : QS tb ((cxOf (CXF P w base) P w K mg base N_law "law" (defScope s_law) 237 (.ref 236) A outer s H E).nox) (lawSt 0) g_law_0 :=
  (s_par3 (i := 2) (j := 3) (l := 4) rfl sc_law.nd rfl rfl rfl (by decide) (by decide) (by decide) rfl rfl rfl (a_cons (e_ix (e_lst (a_cons e_str (a_cons e_str a_nil st_Constant) st_Constant)) (e_callD (f__law_roll T) (hr.mono (by decide)) (a_cons (ev 1) (a_cons e_int a_nil st_Constant) st_Name))) (a_cons (e_callD (f__law_word_of T) (hr.mono (by decide)) (a_cons (ev 1) a_nil st_Name)) (a_cons (e_callD (f__law_house_of T) (hr.mono (by decide)) (a_cons (ev 1) a_nil st_Name)) a_nil st_Call) st_Call) st_Subscript))
theorem l_law_1 (T : Txt K mg) {A : Around} {outer : List Env} {s : Shared} {H : Hp} {E : XK} (hr : Room 5 (A.deeper (envOfC "law" (defScope s_law) s.heap.objs.size 237 (.ref 236)))) (hL : LamAt ((cxOf (CXF P w base) P w K mg base N_law "law" (defScope s_law) 237 (.ref 236) A outer s H E).nox) tb 236 232 "law.<locals>.<lambda>") : QS tb ((cxOf (CXF P w base) P w K mg base N_law "law" (defScope s_law) 237 (.ref 236) A outer s H E).nox) (lawSt 1) g_law_1 :=
  (s_asg (e_tup (a_cons (ev 2) (a_cons (ev 3) (a_cons (ev 4) a_nil st_Name) st_Name) st_Name)) (gn 5 (hN := sc_law.nd)))
theorem l_law_2 (T : Txt K mg) {A : Around} {outer : List Env} {s : Shared} {H : Hp} {E : XK} (hr : Room 5 (A.deeper (envOfC "law" (defScope s_law) s.heap.objs.size 237 (.ref 236)))) (hL : LamAt ((cxOf (CXF P w base) P w K mg base N_law "law" (defScope s_law) 237 (.ref 236) A outer s H E).nox) tb 236 232 "law.<locals>.<lambda>") : QS tb ((cxOf (CXF P w base) P w K mg base N_law "law" (defScope s_law) 237 (.ref 236) A outer s H E).nox) (lawSt 2) g_law_2 :=
  (s_asg (e_plus (e_plus (e_plus (e_ifExp (t_eq (hu40 hr) (ev 2) e_str) e_str e_str) (ev 3)) e_str) (ev 4)) (gn 6 (hN := sc_law.nd)))
theorem l_law_3 (T : Txt K mg) {A : Around} {outer : List Env} {s : Shared} {H : Hp} {E : XK} (hr : Room 5 (A.deeper (envOfC "law" (defScope s_law) s.heap.objs.size 237 (.ref 236)))) (hL : LamAt ((cxOf (CXF P w base) P w K mg base N_law "law" (defScope s_law) 237 (.ref 236) A outer s H E).nox) tb 236 232 "law.<locals>.<lambda>") : QS tb ((cxOf (CXF P w base) P w K mg base N_law "law" (defScope s_law) 237 (.ref 236) A outer s H E).nox) (lawSt 3) g_law_3 :=
  (s_if (w_pt (w_or (t_isNot (e_callD (f_is_name T) (hr.mono (by decide)) (a_cons (ev 5) a_nil st_Name)) e_bl) (w_or (t_ne (hu40 hr) (e_callD (f_name_text T) (hr.mono (by decide)) (a_cons (ev 5) a_nil st_Name)) (ev 6)) (w_or1 (t_ne (hu40 hr) (e_callD (f_read_name T) (hr.mono (by decide)) (a_cons (ev 6) a_nil st_Name)) (ev 5)))))) (b_one (s_ret e_bl)) b_nil)
theorem l_law_4 (T : Txt K mg) {A : Around} {outer : List Env} {s : Shared} {H : Hp} {E : XK} (hr : Room 5 (A.deeper (envOfC "law" (defScope s_law) s.heap.objs.size 237 (.ref 236)))) (hL : LamAt ((cxOf (CXF P w base) P w K mg base N_law "law" (defScope s_law) 237 (.ref 236) A outer s H E).nox) tb 236 232 "law.<locals>.<lambda>") : QS tb ((cxOf (CXF P w base) P w K mg base N_law "law" (defScope s_law) 237 (.ref 236) A outer s H E).nox) (lawSt 4) g_law_4 :=
  (s_if (t_isNot (e_callD (f_is_word T) (hr.mono (by decide)) (a_cons (ev 3) a_nil st_Name)) e_bl) (b_one (s_ret e_bl)) b_nil)
theorem l_law_5 (T : Txt K mg) {A : Around} {outer : List Env} {s : Shared} {H : Hp} {E : XK} (hr : Room 5 (A.deeper (envOfC "law" (defScope s_law) s.heap.objs.size 237 (.ref 236)))) (hL : LamAt ((cxOf (CXF P w base) P w K mg base N_law "law" (defScope s_law) 237 (.ref 236) A outer s H E).nox) tb 236 232 "law.<locals>.<lambda>") : QS tb ((cxOf (CXF P w base) P w K mg base N_law "law" (defScope s_law) 237 (.ref 236) A outer s H E).nox) (lawSt 5) g_law_5 :=
  (s_asg (e_lst (a_cons e_non (a_cons e_int (a_cons e_bl (a_cons e_str (a_cons e_str (a_cons e_str (a_cons e_str (a_cons e_str (a_cons (e_tup (a_cons e_str a_nil st_Constant)) (a_cons e_str (a_cons e_str a_nil st_Constant) st_Constant) st_Tuple) st_Constant) st_Constant) st_Constant) st_Constant) st_Constant) st_Constant) st_Constant) st_Constant)) (gn 7 (hN := sc_law.nd)))
theorem l_law_6 (T : Txt K mg) {A : Around} {outer : List Env} {s : Shared} {H : Hp} {E : XK} (hr : Room 5 (A.deeper (envOfC "law" (defScope s_law) s.heap.objs.size 237 (.ref 236)))) (hL : LamAt ((cxOf (CXF P w base) P w K mg base N_law "law" (defScope s_law) 237 (.ref 236) A outer s H E).nox) tb 236 232 "law.<locals>.<lambda>") : QS tb ((cxOf (CXF P w base) P w K mg base N_law "law" (defScope s_law) 237 (.ref 236) A outer s H E).nox) (lawSt 6) g_law_6 :=
  (s_forL rfl (ev 7) (gn 8 (hN := sc_law.nd)) (b_cons (s_if (w_pt (w_or (t_isNot (e_callD (f_is_word T) (hr.mono (by decide)) (a_cons (ev 8) a_nil st_Name)) e_bl) (w_or1 (t_isNot (e_callD (f_is_name T) (hr.mono (by decide)) (a_cons (e_tup (a_cons e_str (a_cons (ev 8) (a_cons (ev 4) a_nil st_Name) st_Name) st_Constant)) a_nil st_Tuple)) e_bl)))) (b_one (s_ret e_bl)) b_nil)
    (b_one (s_if (t_isNot (e_callD (f_is_name T) (hr.mono (by decide)) (a_cons (e_tup (a_cons (ev 2) (a_cons (ev 3) (a_cons (ev 8) a_nil st_Name) st_Name) st_Name)) a_nil st_Tuple)) e_bl) (b_one (s_ret e_bl)) b_nil))))
theorem l_law_7 (T : Txt K mg) {A : Around} {outer : List Env} {s : Shared} {H : Hp} {E : XK} (hr : Room 5 (A.deeper (envOfC "law" (defScope s_law) s.heap.objs.size 237 (.ref 236)))) (hL : LamAt ((cxOf (CXF P w base) P w K mg base N_law "law" (defScope s_law) 237 (.ref 236) A outer s H E).nox) tb 236 232 "law.<locals>.<lambda>") : QS tb ((cxOf (CXF P w base) P w K mg base N_law "law" (defScope s_law) 237 (.ref 236) A outer s H E).nox) (lawSt 7) g_law_7 :=
  (s_asg (e_lst (a_cons e_non (a_cons e_int (a_cons (ev 6) (a_cons (e_tup a_nil) (a_cons (e_slice (ev 5) o_none (o_some e_int)) (a_cons (e_plus (ev 5) (e_tup (a_cons e_str a_nil st_Constant))) (a_cons (e_list rfl T.n_list (a_cons (ev 5) a_nil st_Name)) (a_cons (e_tup (a_cons e_str (a_cons (ev 3) (a_cons (ev 4) a_nil st_Name) st_Name) st_Constant)) a_nil st_Tuple) st_Call) st_BinOp) st_Subscript) st_Tuple) st_Name) st_Constant) st_Constant)) (gn 9 (hN := sc_law.nd)))
theorem l_law_8 (T : Txt K mg) {A : Around} {outer : List Env} {s : Shared} {H : Hp} {E : XK} (hr : Room 5 (A.deeper (envOfC "law" (defScope s_law) s.heap.objs.size 237 (.ref 236)))) (hL : LamAt ((cxOf (CXF P w base) P w K mg base N_law "law" (defScope s_law) 237 (.ref 236) A outer s H E).nox) tb 236 232 "law.<locals>.<lambda>") : QS tb ((cxOf (CXF P w base) P w K mg base N_law "law" (defScope s_law) 237 (.ref 236) A outer s H E).nox) (lawSt 8) g_law_8 :=
  (s_asg (e_plus (ev 9) (e_lst (a_cons (e_tup (a_cons e_non (a_cons (ev 3) (a_cons (ev 4) a_nil st_Name) st_Name) st_Constant)) (a_cons (e_tup (a_cons e_str (a_cons (ev 3) (a_cons (ev 4) a_nil st_Name) st_Name) st_Constant)) a_nil st_Tuple) st_Tuple))) (gn 9 (hN := sc_law.nd)))
theorem l_law_9 (T : Txt K mg) {A : Around} {outer : List Env} {s : Shared} {H : Hp} {E : XK} (hr : Room 5 (A.deeper (envOfC "law" (defScope s_law) s.heap.objs.size 237 (.ref 236)))) (hL : LamAt ((cxOf (CXF P w base) P w K mg base N_law "law" (defScope s_law) 237 (.ref 236) A outer s H E).nox) tb 236 232 "law.<locals>.<lambda>") : QS tb ((cxOf (CXF P w base) P w K mg base N_law "law" (defScope s_law) 237 (.ref 236) A outer s H E).nox) (lawSt 9) g_law_9 :=
  (s_forL rfl (ev 9) (gn 8 (hN := sc_law.nd)) (b_cons (s_if (t_isNot (e_callD (f_is_name T) (hr.mono (by decide)) (a_cons (ev 8) a_nil st_Name)) e_bl) (b_one (s_ret e_bl)) b_nil)
    (b_one (s_if (t_ne (hu40 hr) (e_toldQ (P := P) (w := w) (base := base) (xs := ["_law_thing"]) (pr := [8]) T (hr.mono (by decide)) hL rfl ⟨rfl, trivial⟩ ⟨rfl, (by first | exact .inl rfl | exact .inr rfl), ⟨rfl, rfl⟩, trivial⟩ (fun A2 stk2 Lz g c2 s3 H3 xe hrz => (e_callD (f_name_text T) (hrz.mono (by decide)) (a_cons (ev 0) a_nil st_Name)))) (e_tup (a_cons e_str (a_cons e_str a_nil st_Constant) st_Constant))) (b_one (s_ret e_bl)) b_nil))))
theorem l_law_10 (T : Txt K mg) {A : Around} {outer : List Env} {s : Shared} {H : Hp} {E : XK} (hr : Room 5 (A.deeper (envOfC "law" (defScope s_law) s.heap.objs.size 237 (.ref 236)))) (hL : LamAt ((cxOf (CXF P w base) P w K mg base N_law "law" (defScope s_law) 237 (.ref 236) A outer s H E).nox) tb 236 232 "law.<locals>.<lambda>") : QS tb ((cxOf (CXF P w base) P w K mg base N_law "law" (defScope s_law) 237 (.ref 236) A outer s H E).nox) (lawSt 10) g_law_10 :=
  (s_asg (e_lst (a_cons e_non (a_cons e_int (a_cons e_str (a_cons e_str (a_cons e_str (a_cons e_str (a_cons e_str (a_cons e_str (a_cons e_str (a_cons e_str a_nil st_Constant) st_Constant) st_Constant) st_Constant) st_Constant) st_Constant) st_Constant) st_Constant) st_Constant) st_Constant)) (gn 9 (hN := sc_law.nd)))
theorem l_law_11 (T : Txt K mg) {A : Around} {outer : List Env} {s : Shared} {H : Hp} {E : XK} (hr : Room 5 (A.deeper (envOfC "law" (defScope s_law) s.heap.objs.size 237 (.ref 236)))) (hL : LamAt ((cxOf (CXF P w base) P w K mg base N_law "law" (defScope s_law) 237 (.ref 236) A outer s H E).nox) tb 236 232 "law.<locals>.<lambda>") : QS tb ((cxOf (CXF P w base) P w K mg base N_law "law" (defScope s_law) 237 (.ref 236) A outer s H E).nox) (lawSt 11) g_law_11 :=
  (s_asg (e_plus (ev 9) (e_lst (a_cons e_str (a_cons e_str (a_cons e_str (a_cons (ev 5) a_nil st_Name) st_Constant) st_Constant) st_Constant))) (gn 9 (hN := sc_law.nd)))
theorem l_law_12 (T : Txt K mg) {A : Around} {outer : List Env} {s : Shared} {H : Hp} {E : XK} (hr : Room 5 (A.deeper (envOfC "law" (defScope s_law) s.heap.objs.size 237 (.ref 236)))) (hL : LamAt ((cxOf (CXF P w base) P w K mg base N_law "law" (defScope s_law) 237 (.ref 236) A outer s H E).nox) tb 236 232 "law.<locals>.<lambda>") : QS tb ((cxOf (CXF P w base) P w K mg base N_law "law" (defScope s_law) 237 (.ref 236) A outer s H E).nox) (lawSt 12) g_law_12 :=
  (s_forL rfl (ev 9) (gn 8 (hN := sc_law.nd)) (b_one (s_if (t_ne (hu40 hr) (e_toldQ (P := P) (w := w) (base := base) (xs := ["_law_thing"]) (pr := [8]) T (hr.mono (by decide)) hL rfl ⟨rfl, trivial⟩ ⟨rfl, (by first | exact .inl rfl | exact .inr rfl), ⟨rfl, rfl⟩, trivial⟩ (fun A2 stk2 Lz g c2 s3 H3 xe hrz => (e_callD (f_read_name T) (hrz.mono (by decide)) (a_cons (ev 0) a_nil st_Name)))) (e_tup (a_cons e_str (a_cons e_str a_nil st_Constant) st_Constant))) (b_one (s_ret e_bl)) b_nil)))
def g_turn : FSt := (sSeq g_law_0 (sSeq g_law_1 (sSeq g_law_2 (sSeq g_law_3 (sSeq g_law_4 (sSeq g_law_5 (sSeq g_law_6 (sSeq g_law_7 (sSeq g_law_8 (sSeq g_law_9 (sSeq g_law_10 (sSeq g_law_11 g_law_12))))))))))))
def g_law : FSt := (sSeq (sForL (fCall F__law_rounds 2 (aCons (fVar 0) (aCons (fC (.int 5)) aNil))) (gN 1) g_turn) (sRet (fC (.bl true))))
theorem b_law (T : Txt K mg) {A : Around} {outer : List Env} {s : Shared} {H : Hp} {E : XK} (hr : Room 5 (A.deeper (envOfC "law" (defScope s_law) s.heap.objs.size 237 (.ref 236)))) (hL : LamAt ((cxOf (CXF P w base) P w K mg base N_law "law" (defScope s_law) 237 (.ref 236) A outer s H E).nox) tb 236 232 "law.<locals>.<lambda>") : QB tb (cxOf (CXF P w base) P w K mg base N_law "law" (defScope s_law) 237 (.ref 236) A outer s H E) (defBody s_law) g_law :=
  b_cons (s_forL rfl (e_callD (f__law_rounds T) (hr.mono (by decide)) (a_cons (ev 0) (a_cons e_int a_nil st_Constant) st_Name)) (gn 1 (hN := sc_law.nd)) (b_cons (l_law_0 T hr hL) (b_cons (l_law_1 T hr hL) (b_cons (l_law_2 T hr hL) (b_cons (l_law_3 T hr hL) (b_cons (l_law_4 T hr hL) (b_cons (l_law_5 T hr hL) (b_cons (l_law_6 T hr hL) (b_cons (l_law_7 T hr hL) (b_cons (l_law_8 T hr hL) (b_cons (l_law_9 T hr hL) (b_cons (l_law_10 T hr hL) (b_cons (l_law_11 T hr hL) (b_one (l_law_12 T hr hL))))))))))))))) (b_one (s_ret e_bl))
def F_law : FF := fun xs => runB g_law (startT N_law xs)
theorem f_law (T : Txt K mg) (D : DefC K mg "law" s_law 237 236 ["_law_script"]) : ∃ fd, (∀ (s : Shared) (u : Value), BindsTo s fd ⟨[u], []⟩ [("_law_script", u)]) ∧ ∀ base : Heap, PySem.W.CodeHd base 236 232 → base.BuiltinsAt mg 232 → FnF P w K mg base tb 6 237 fd ["_law_script"] F_law := by
  obtain ⟨oc, od, kV, doc, pm, an, ct, osl, lk, hcd, b, m⟩ := D
  refine ⟨_, fun s u => .of_eq rfl, fun base hc hB => fn_F lk hcd sc_law (fun A outer s H E hr => QB_is ▸ b_law T hr ?_) (fun _ _ _ => rfl)⟩
  exact ⟨rfl, .head _, fun c' q' h => by simp [tb] at h; exact h.2, hc, by decide, hB⟩
end
end K10
set_option Elab.async false
set_option linter.all false
set_option maxRecDepth 100000
set_option maxHeartbeats 4000000
namespace K10
open PySem PySem.Spec PyProof.Rows L2 FX FS
section
variable {K : PySem.W.Frag} {mg : Str → Option Value} {h : Heap}
theorem tab_mk (h1 : itab.map (fun r => PySem.W.kitOne K r.1 r.2.1) = itab.map (fun r => some r.2.2)) (h2 : XCls K 37) : TabK K itab := fun r hr =>
  ⟨List.map_inj_left.mp h1 r hr, fun C e => by
    have : (match r.1 with | .ref C => C == 37 | _ => true) = true := List.all_eq_true.mp (show itab.all (fun r => match r.1 with | .ref C => C == 37 | _ => true) = true from rfl) r hr
    rw [e] at this
    have : C = 37 := by simpa using this
    subst this; exact h2⟩
def stChk (K : PySem.W.Frag) : Bool := stab.all fun r => match excBm K r.1, excBm K r.2.1 with
  | some b1, some b2 => b2.contains (.type "BaseException") && ((Value.ref r.1 :: b1).contains (.ref r.2.1) == r.2.2)
  | _, _ => false
theorem st_mk (h : stChk K = true) : STabK K stab := fun r hr => by
  have := List.all_eq_true.mp h r hr
  cases e1 : excBm K r.1 with
  | none => rw [e1] at this; cases this
  | some b1 =>
    cases e2 : excBm K r.2.1 with
    | none => rw [e1, e2] at this; cases this
    | some b2 =>
      rw [e1, e2] at this
      simp only [Bool.and_eq_true, beq_iff_eq] at this
      exact ⟨b1, b2, rfl, rfl, this.1, this.2⟩
theorem gt_mk {od : Option Addr} {t1 t2 n : Nat} {sl : Array (Option Value)} (l : K.lookup 145 = some ⟨.type "tuple", od, .seq #[.str "one" t1, .str "group" t2] n, sl⟩) : GtOk K gtup := fun a xs e => by
  unfold gtup at e
  rw [List.lookup_cons] at e
  cases hb : a == 145 with
  | false => rw [hb] at e; cases e
  | true =>
    rw [hb] at e; cases e
    have : a = 145 := by simpa using hb
    subst this
    refine ⟨[.str "one", .str "group"], fun H => .inr ⟨_, _, _, l, rfl, rfl, (show 2 ≤ sizeLine by decide), .cons ⟨_, rfl⟩ (.cons ⟨_, rfl⟩ .nil)⟩, fun ρ H => ⟨_, _, rfl, rfl, _, _, rfl, rfl, rfl⟩⟩

theorem dd_is_word {oc kV dc pm cd ct : Value} {od an : Option Addr} {sl : Array (Option Value)} (X : K.In h) (G : h.Ns mainGlobals mg) (a : PySem.W.nsIn K mainGlobals "is_word" = some (some (.ref 150))) (l : K.lookup 150 = some ⟨oc, od, .func (PySem.W.fnOf "is_word" "is_word" (defArgs s_is_word) (defBody s_is_word) (defScope s_is_word) .none kV dc pm an cd ct), sl⟩) (c : PySem.W.codeIn K cd "is_word" = true) (k : PySem.W.keepIn K (.ref 150) = true) : DefD K mg "is_word" s_is_word 150 ["thing"] :=
  ⟨_, fun_mk l c k, (fun_mk (st := s_is_word) l c k).binds (ps := ["thing"]) (fun _ _ _ _ _ _ us hl => match us, hl with | [_], _ => rfl), PySem.W.mg_of X G a⟩
theorem dd_is_kind {oc kV dc pm cd ct : Value} {od an : Option Addr} {sl : Array (Option Value)} (X : K.In h) (G : h.Ns mainGlobals mg) (a : PySem.W.nsIn K mainGlobals "is_kind" = some (some (.ref 157))) (l : K.lookup 157 = some ⟨oc, od, .func (PySem.W.fnOf "is_kind" "is_kind" (defArgs s_is_kind) (defBody s_is_kind) (defScope s_is_kind) .none kV dc pm an cd ct), sl⟩) (c : PySem.W.codeIn K cd "is_kind" = true) (k : PySem.W.keepIn K (.ref 157) = true) : DefD K mg "is_kind" s_is_kind 157 ["thing"] :=
  ⟨_, fun_mk l c k, (fun_mk (st := s_is_kind) l c k).binds (ps := ["thing"]) (fun _ _ _ _ _ _ us hl => match us, hl with | [_], _ => rfl), PySem.W.mg_of X G a⟩
theorem dd_is_name {oc kV dc pm cd ct : Value} {od an : Option Addr} {sl : Array (Option Value)} (X : K.In h) (G : h.Ns mainGlobals mg) (a : PySem.W.nsIn K mainGlobals "is_name" = some (some (.ref 164))) (l : K.lookup 164 = some ⟨oc, od, .func (PySem.W.fnOf "is_name" "is_name" (defArgs s_is_name) (defBody s_is_name) (defScope s_is_name) .none kV dc pm an cd ct), sl⟩) (c : PySem.W.codeIn K cd "is_name" = true) (k : PySem.W.keepIn K (.ref 164) = true) : DefD K mg "is_name" s_is_name 164 ["thing"] :=
  ⟨_, fun_mk l c k, (fun_mk (st := s_is_name) l c k).binds (ps := ["thing"]) (fun _ _ _ _ _ _ us hl => match us, hl with | [_], _ => rfl), PySem.W.mg_of X G a⟩
theorem dd_name_text {oc kV dc pm cd ct : Value} {od an : Option Addr} {sl : Array (Option Value)} (X : K.In h) (G : h.Ns mainGlobals mg) (a : PySem.W.nsIn K mainGlobals "name_text" = some (some (.ref 171))) (l : K.lookup 171 = some ⟨oc, od, .func (PySem.W.fnOf "name_text" "name_text" (defArgs s_name_text) (defBody s_name_text) (defScope s_name_text) .none kV dc pm an cd ct), sl⟩) (c : PySem.W.codeIn K cd "name_text" = true) (k : PySem.W.keepIn K (.ref 171) = true) : DefD K mg "name_text" s_name_text 171 ["name"] :=
  ⟨_, fun_mk l c k, (fun_mk (st := s_name_text) l c k).binds (ps := ["name"]) (fun _ _ _ _ _ _ us hl => match us, hl with | [_], _ => rfl), PySem.W.mg_of X G a⟩
theorem dd_read_name {oc kV dc pm cd ct : Value} {od an : Option Addr} {sl : Array (Option Value)} (X : K.In h) (G : h.Ns mainGlobals mg) (a : PySem.W.nsIn K mainGlobals "read_name" = some (some (.ref 178))) (l : K.lookup 178 = some ⟨oc, od, .func (PySem.W.fnOf "read_name" "read_name" (defArgs s_read_name) (defBody s_read_name) (defScope s_read_name) .none kV dc pm an cd ct), sl⟩) (c : PySem.W.codeIn K cd "read_name" = true) (k : PySem.W.keepIn K (.ref 178) = true) : DefD K mg "read_name" s_read_name 178 ["text"] :=
  ⟨_, fun_mk l c k, (fun_mk (st := s_read_name) l c k).binds (ps := ["text"]) (fun _ _ _ _ _ _ us hl => match us, hl with | [_], _ => rfl), PySem.W.mg_of X G a⟩
theorem dd__law_cell {oc kV dc pm cd ct : Value} {od an : Option Addr} {sl : Array (Option Value)} (X : K.In h) (G : h.Ns mainGlobals mg) (a : PySem.W.nsIn K mainGlobals "_law_cell" = some (some (.ref 185))) (l : K.lookup 185 = some ⟨oc, od, .func (PySem.W.fnOf "_law_cell" "_law_cell" (defArgs s__law_cell) (defBody s__law_cell) (defScope s__law_cell) .none kV dc pm an cd ct), sl⟩) (c : PySem.W.codeIn K cd "_law_cell" = true) (k : PySem.W.keepIn K (.ref 185) = true) : DefD K mg "_law_cell" s__law_cell 185 ["_law_script", "_law_k"] :=
  ⟨_, fun_mk l c k, (fun_mk (st := s__law_cell) l c k).binds (ps := ["_law_script", "_law_k"]) (fun _ _ _ _ _ _ us hl => match us, hl with | [_, _], _ => rfl), PySem.W.mg_of X G a⟩
theorem dd__law_drawn {oc kV dc pm cd ct : Value} {od an : Option Addr} {sl : Array (Option Value)} (X : K.In h) (G : h.Ns mainGlobals mg) (a : PySem.W.nsIn K mainGlobals "_law_drawn" = some (some (.ref 192))) (l : K.lookup 192 = some ⟨oc, od, .func (PySem.W.fnOf "_law_drawn" "_law_drawn" (defArgs s__law_drawn) (defBody s__law_drawn) (defScope s__law_drawn) .none kV dc pm an cd ct), sl⟩) (c : PySem.W.codeIn K cd "_law_drawn" = true) (k : PySem.W.keepIn K (.ref 192) = true) : DefD K mg "_law_drawn" s__law_drawn 192 ["_law_cell_here", "_law_k"] :=
  ⟨_, fun_mk l c k, (fun_mk (st := s__law_drawn) l c k).binds (ps := ["_law_cell_here", "_law_k"]) (fun _ _ _ _ _ _ us hl => match us, hl with | [_, _], _ => rfl), PySem.W.mg_of X G a⟩
theorem dd__law_roll {oc kV dc pm cd ct : Value} {od an : Option Addr} {sl : Array (Option Value)} (X : K.In h) (G : h.Ns mainGlobals mg) (a : PySem.W.nsIn K mainGlobals "_law_roll" = some (some (.ref 199))) (l : K.lookup 199 = some ⟨oc, od, .func (PySem.W.fnOf "_law_roll" "_law_roll" (defArgs s__law_roll) (defBody s__law_roll) (defScope s__law_roll) .none kV dc pm an cd ct), sl⟩) (c : PySem.W.codeIn K cd "_law_roll" = true) (k : PySem.W.keepIn K (.ref 199) = true) : DefD K mg "_law_roll" s__law_roll 199 ["_law_dice", "_law_many"] :=
  ⟨_, fun_mk l c k, (fun_mk (st := s__law_roll) l c k).binds (ps := ["_law_dice", "_law_many"]) (fun _ _ _ _ _ _ us hl => match us, hl with | [_, _], _ => rfl), PySem.W.mg_of X G a⟩
theorem dd__law_rounds {oc kV dc pm cd ct : Value} {od an : Option Addr} {sl : Array (Option Value)} (X : K.In h) (G : h.Ns mainGlobals mg) (a : PySem.W.nsIn K mainGlobals "_law_rounds" = some (some (.ref 204))) (l : K.lookup 204 = some ⟨oc, od, .func (PySem.W.fnOf "_law_rounds" "_law_rounds" (defArgs s__law_rounds) (defBody s__law_rounds) (defScope s__law_rounds) .none kV dc pm an cd ct), sl⟩) (c : PySem.W.codeIn K cd "_law_rounds" = true) (k : PySem.W.keepIn K (.ref 204) = true) : DefD K mg "_law_rounds" s__law_rounds 204 ["_law_script", "_law_most"] :=
  ⟨_, fun_mk l c k, (fun_mk (st := s__law_rounds) l c k).binds (ps := ["_law_script", "_law_most"]) (fun _ _ _ _ _ _ us hl => match us, hl with | [_, _], _ => rfl), PySem.W.mg_of X G a⟩
theorem dd__law_word {oc kV dc pm cd ct : Value} {od an : Option Addr} {sl : Array (Option Value)} (X : K.In h) (G : h.Ns mainGlobals mg) (a : PySem.W.nsIn K mainGlobals "_law_word" = some (some (.ref 209))) (l : K.lookup 209 = some ⟨oc, od, .func (PySem.W.fnOf "_law_word" "_law_word" (defArgs s__law_word) (defBody s__law_word) (defScope s__law_word) .none kV dc pm an cd ct), sl⟩) (c : PySem.W.codeIn K cd "_law_word" = true) (k : PySem.W.keepIn K (.ref 209) = true) : DefD K mg "_law_word" s__law_word 209 ["_law_e"] :=
  ⟨_, fun_mk l c k, (fun_mk (st := s__law_word) l c k).binds (ps := ["_law_e"]) (fun _ _ _ _ _ _ us hl => match us, hl with | [_], _ => rfl), PySem.W.mg_of X G a⟩
theorem dd__law_house_of {oc kV dc pm cd ct : Value} {od an : Option Addr} {sl : Array (Option Value)} (X : K.In h) (G : h.Ns mainGlobals mg) (a : PySem.W.nsIn K mainGlobals "_law_house_of" = some (some (.ref 223))) (l : K.lookup 223 = some ⟨oc, od, .func (PySem.W.fnOf "_law_house_of" "_law_house_of" (defArgs s__law_house_of) (defBody s__law_house_of) (defScope s__law_house_of) .none kV dc pm an cd ct), sl⟩) (c : PySem.W.codeIn K cd "_law_house_of" = true) (k : PySem.W.keepIn K (.ref 223) = true) : DefD K mg "_law_house_of" s__law_house_of 223 ["_law_dice"] :=
  ⟨_, fun_mk l c k, (fun_mk (st := s__law_house_of) l c k).binds (ps := ["_law_dice"]) (fun _ _ _ _ _ _ us hl => match us, hl with | [_], _ => rfl), PySem.W.mg_of X G a⟩
theorem dd__law_word_of {oc kV dc pm cd ct : Value} {od an : Option Addr} {sl : Array (Option Value)} (X : K.In h) (G : h.Ns mainGlobals mg) (a : PySem.W.nsIn K mainGlobals "_law_word_of" = some (some (.ref 230))) (l : K.lookup 230 = some ⟨oc, od, .func (PySem.W.fnOf "_law_word_of" "_law_word_of" (defArgs s__law_word_of) (defBody s__law_word_of) (defScope s__law_word_of) .none kV dc pm an cd ct), sl⟩) (c : PySem.W.codeIn K cd "_law_word_of" = true) (k : PySem.W.keepIn K (.ref 230) = true) : DefD K mg "_law_word_of" s__law_word_of 230 ["_law_dice"] :=
  ⟨_, fun_mk l c k, (fun_mk (st := s__law_word_of) l c k).binds (ps := ["_law_dice"]) (fun _ _ _ _ _ _ us hl => match us, hl with | [_], _ => rfl), PySem.W.mg_of X G a⟩
theorem dd__law_told {oc kV dc pm cd ct : Value} {od an : Option Addr} {sl : Array (Option Value)} (X : K.In h) (G : h.Ns mainGlobals mg) (a : PySem.W.nsIn K mainGlobals "_law_told" = some (some (.ref 216))) (l : K.lookup 216 = some ⟨oc, od, .func (PySem.W.fnOf "_law_told" "_law_told" (defArgs s__law_told) (defBody s__law_told) (defScope s__law_told) .none kV dc pm an cd ct), sl⟩) (c : PySem.W.codeIn K cd "_law_told" = true) (k : PySem.W.keepIn K (.ref 216) = true) : DefD K mg "_law_told" s__law_told 216 ["_law_deed"] :=
  ⟨_, fun_mk l c k, (fun_mk (st := s__law_told) l c k).binds (ps := ["_law_deed"]) (fun _ _ _ _ _ _ us hl => match us, hl with | [_], _ => rfl), PySem.W.mg_of X G a⟩
theorem dc_law {oc kV dc pm ct : Value} {od an : Option Addr} {sl : Array (Option Value)} (X : K.In h) (G : h.Ns mainGlobals mg) (a : PySem.W.nsIn K mainGlobals "law" = some (some (.ref 237))) (l : K.lookup 237 = some ⟨oc, od, .func (PySem.W.fnOf "law" "law" (defArgs s_law) (defBody s_law) (defScope s_law) .none kV dc pm an (.ref 236) ct), sl⟩) (c : PySem.W.codeIn K (.ref 236) "law" = true) (k : PySem.W.keepIn K (.ref 237) = true) : DefC K mg "law" s_law 237 236 ["_law_script"] :=
  ⟨oc, od, kV, dc, pm, an, ct, sl, l, c, (fun_mk (st := s_law) l c k).binds (ps := ["_law_script"]) (fun _ _ _ _ _ _ us hl => match us, hl with | [_], _ => rfl), PySem.W.mg_of X G a⟩
theorem txt_mk {P : Program} {w : World} {fa : Addr} {tS tM : Nat}
    {odK : Option Addr} {t1 t2 nK : Nat} {slK : Array (Option Value)}
    {oc0 kV0 dc0 pm0 cd0 ct0 : Value} {od0 an0 : Option Addr} {sl0 : Array (Option Value)}
    {oc1 kV1 dc1 pm1 cd1 ct1 : Value} {od1 an1 : Option Addr} {sl1 : Array (Option Value)}
    {oc2 kV2 dc2 pm2 cd2 ct2 : Value} {od2 an2 : Option Addr} {sl2 : Array (Option Value)}
    {oc3 kV3 dc3 pm3 cd3 ct3 : Value} {od3 an3 : Option Addr} {sl3 : Array (Option Value)}
    {oc4 kV4 dc4 pm4 cd4 ct4 : Value} {od4 an4 : Option Addr} {sl4 : Array (Option Value)}
    {oc5 kV5 dc5 pm5 cd5 ct5 : Value} {od5 an5 : Option Addr} {sl5 : Array (Option Value)}
    {oc6 kV6 dc6 pm6 cd6 ct6 : Value} {od6 an6 : Option Addr} {sl6 : Array (Option Value)}
    {oc7 kV7 dc7 pm7 cd7 ct7 : Value} {od7 an7 : Option Addr} {sl7 : Array (Option Value)}
    {oc8 kV8 dc8 pm8 cd8 ct8 : Value} {od8 an8 : Option Addr} {sl8 : Array (Option Value)}
    {oc9 kV9 dc9 pm9 cd9 ct9 : Value} {od9 an9 : Option Addr} {sl9 : Array (Option Value)}
    {oc10 kV10 dc10 pm10 cd10 ct10 : Value} {od10 an10 : Option Addr} {sl10 : Array (Option Value)}
    {oc11 kV11 dc11 pm11 cd11 ct11 : Value} {od11 an11 : Option Addr} {sl11 : Array (Option Value)}
    {oc12 kV12 dc12 pm12 cd12 ct12 : Value} {od12 an12 : Option Addr} {sl12 : Array (Option Value)}
    {oc13 kV13 dc13 pm13  ct13 : Value} {od13 an13 : Option Addr} {sl13 : Array (Option Value)}
    (X : K.In h) (G : h.Ns mainGlobals mg) (hfa : mg "law" = some (.ref fa))
    (n_RoofError : PySem.W.nsIn K mainGlobals "RoofError" = some (some (.ref 24)))
    (n_BadName : PySem.W.nsIn K mainGlobals "BadName" = some (some (.ref 37)))
    (n_NoHouse : PySem.W.nsIn K mainGlobals "NoHouse" = some (some (.ref 49)))
    (n_NoOne : PySem.W.nsIn K mainGlobals "NoOne" = some (some (.ref 68)))
    (n_Taken : PySem.W.nsIn K mainGlobals "Taken" = some (some (.ref 87)))
    (n_BadRule : PySem.W.nsIn K mainGlobals "BadRule" = some (some (.ref 99)))
    (n_BadTime : PySem.W.nsIn K mainGlobals "BadTime" = some (some (.ref 111)))
    (n_BadJournal : PySem.W.nsIn K mainGlobals "BadJournal" = some (some (.ref 130)))
    (n_Nothing : PySem.W.nsIn K mainGlobals "Nothing" = some (some (.ref 142)))
    (n_KINDS : PySem.W.nsIn K mainGlobals "KINDS" = some (some (.ref 145)))
    (n_SIGNS : PySem.W.nsIn K mainGlobals "SIGNS" = some (some (.str "abcdefghijklmnopqrstuvwxyz0123456789" tS)))
    (n_MOST : PySem.W.nsIn K mainGlobals "MOST_SIGNS" = some (some (.int 8 tM)))
    (z_isinstance : PySem.W.nsIn K mainGlobals "isinstance" = some none)
    (z_len : PySem.W.nsIn K mainGlobals "len" = some none)
    (z_all : PySem.W.nsIn K mainGlobals "all" = some none)
    (z_sum : PySem.W.nsIn K mainGlobals "sum" = some none)
    (z_max : PySem.W.nsIn K mainGlobals "max" = some none)
    (z_min : PySem.W.nsIn K mainGlobals "min" = some none)
    (z_list : PySem.W.nsIn K mainGlobals "list" = some none)
    (z_int : PySem.W.nsIn K mainGlobals "int" = some none)
    (z_range : PySem.W.nsIn K mainGlobals "range" = some none)
    (z_str : PySem.W.nsIn K mainGlobals "str" = some none)
    (z_tuple : PySem.W.nsIn K mainGlobals "tuple" = some none)
    (z_ValueError : PySem.W.nsIn K mainGlobals "ValueError" = some none)
    (x37 : PySem.W.excIn K 37 bmV "ValueError.__new__" = true)
    (tabs : itab.map (fun r => PySem.W.kitOne K r.1 r.2.1) = itab.map (fun r => some r.2.2))
    (sts : stChk K = true)
    (x_ga : PySem.W.findIn K (.ref 37) "__getattribute__" = some (some (.builtin "BaseException.__getattribute__")))
    (x_hk : PySem.W.findIn K (.ref 37) "__getattr__" = some none)
    (x_be : PySem.W.mroIn K 37 (.type "BaseException") = some true)
    (x_cl : (PySem.W.clsIn K 37).isSome = true)
    (x_ca : PySem.W.findIn K (.ref 37) "__class__" = some (some (.builtin "object.__class__")))
    (x_ob : PySem.W.mroIn K 37 (.type "object") = some true)
    (x_gt : PySem.W.specialIn K (.builtin "object.__class__") "__get__" = some (some (.builtin "getset_descriptor.__get__")))
    (x_tk : PySem.W.takesIn K (.builtin "object.__class__") = some true)
    (lK : K.lookup 145 = some ⟨.type "tuple", odK, .seq #[.str "one" t1, .str "group" t2] nK, slK⟩)
    (hd : PySem.W.codeHdIn K 236 232 = true)
    (a0 : PySem.W.nsIn K mainGlobals "is_word" = some (some (.ref 150)))
    (l0 : K.lookup 150 = some ⟨oc0, od0, .func (PySem.W.fnOf "is_word" "is_word" (defArgs s_is_word) (defBody s_is_word) (defScope s_is_word) .none kV0 dc0 pm0 an0 cd0 ct0), sl0⟩)
    (c0 : PySem.W.codeIn K cd0 "is_word" = true)
    (k0 : PySem.W.keepIn K (.ref 150) = true)
    (a1 : PySem.W.nsIn K mainGlobals "is_kind" = some (some (.ref 157)))
    (l1 : K.lookup 157 = some ⟨oc1, od1, .func (PySem.W.fnOf "is_kind" "is_kind" (defArgs s_is_kind) (defBody s_is_kind) (defScope s_is_kind) .none kV1 dc1 pm1 an1 cd1 ct1), sl1⟩)
    (c1 : PySem.W.codeIn K cd1 "is_kind" = true)
    (k1 : PySem.W.keepIn K (.ref 157) = true)
    (a2 : PySem.W.nsIn K mainGlobals "is_name" = some (some (.ref 164)))
    (l2 : K.lookup 164 = some ⟨oc2, od2, .func (PySem.W.fnOf "is_name" "is_name" (defArgs s_is_name) (defBody s_is_name) (defScope s_is_name) .none kV2 dc2 pm2 an2 cd2 ct2), sl2⟩)
    (c2 : PySem.W.codeIn K cd2 "is_name" = true)
    (k2 : PySem.W.keepIn K (.ref 164) = true)
    (a3 : PySem.W.nsIn K mainGlobals "name_text" = some (some (.ref 171)))
    (l3 : K.lookup 171 = some ⟨oc3, od3, .func (PySem.W.fnOf "name_text" "name_text" (defArgs s_name_text) (defBody s_name_text) (defScope s_name_text) .none kV3 dc3 pm3 an3 cd3 ct3), sl3⟩)
    (c3 : PySem.W.codeIn K cd3 "name_text" = true)
    (k3 : PySem.W.keepIn K (.ref 171) = true)
    (a4 : PySem.W.nsIn K mainGlobals "read_name" = some (some (.ref 178)))
    (l4 : K.lookup 178 = some ⟨oc4, od4, .func (PySem.W.fnOf "read_name" "read_name" (defArgs s_read_name) (defBody s_read_name) (defScope s_read_name) .none kV4 dc4 pm4 an4 cd4 ct4), sl4⟩)
    (c4 : PySem.W.codeIn K cd4 "read_name" = true)
    (k4 : PySem.W.keepIn K (.ref 178) = true)
    (a5 : PySem.W.nsIn K mainGlobals "_law_cell" = some (some (.ref 185)))
    (l5 : K.lookup 185 = some ⟨oc5, od5, .func (PySem.W.fnOf "_law_cell" "_law_cell" (defArgs s__law_cell) (defBody s__law_cell) (defScope s__law_cell) .none kV5 dc5 pm5 an5 cd5 ct5), sl5⟩)
    (c5 : PySem.W.codeIn K cd5 "_law_cell" = true)
    (k5 : PySem.W.keepIn K (.ref 185) = true)
    (a6 : PySem.W.nsIn K mainGlobals "_law_drawn" = some (some (.ref 192)))
    (l6 : K.lookup 192 = some ⟨oc6, od6, .func (PySem.W.fnOf "_law_drawn" "_law_drawn" (defArgs s__law_drawn) (defBody s__law_drawn) (defScope s__law_drawn) .none kV6 dc6 pm6 an6 cd6 ct6), sl6⟩)
    (c6 : PySem.W.codeIn K cd6 "_law_drawn" = true)
    (k6 : PySem.W.keepIn K (.ref 192) = true)
    (a7 : PySem.W.nsIn K mainGlobals "_law_roll" = some (some (.ref 199)))
    (l7 : K.lookup 199 = some ⟨oc7, od7, .func (PySem.W.fnOf "_law_roll" "_law_roll" (defArgs s__law_roll) (defBody s__law_roll) (defScope s__law_roll) .none kV7 dc7 pm7 an7 cd7 ct7), sl7⟩)
    (c7 : PySem.W.codeIn K cd7 "_law_roll" = true)
    (k7 : PySem.W.keepIn K (.ref 199) = true)
    (a8 : PySem.W.nsIn K mainGlobals "_law_rounds" = some (some (.ref 204)))
    (l8 : K.lookup 204 = some ⟨oc8, od8, .func (PySem.W.fnOf "_law_rounds" "_law_rounds" (defArgs s__law_rounds) (defBody s__law_rounds) (defScope s__law_rounds) .none kV8 dc8 pm8 an8 cd8 ct8), sl8⟩)
    (c8 : PySem.W.codeIn K cd8 "_law_rounds" = true)
    (k8 : PySem.W.keepIn K (.ref 204) = true)
    (a9 : PySem.W.nsIn K mainGlobals "_law_word" = some (some (.ref 209)))
    (l9 : K.lookup 209 = some ⟨oc9, od9, .func (PySem.W.fnOf "_law_word" "_law_word" (defArgs s__law_word) (defBody s__law_word) (defScope s__law_word) .none kV9 dc9 pm9 an9 cd9 ct9), sl9⟩)
    (c9 : PySem.W.codeIn K cd9 "_law_word" = true)
    (k9 : PySem.W.keepIn K (.ref 209) = true)
    (a10 : PySem.W.nsIn K mainGlobals "_law_house_of" = some (some (.ref 223)))
    (l10 : K.lookup 223 = some ⟨oc10, od10, .func (PySem.W.fnOf "_law_house_of" "_law_house_of" (defArgs s__law_house_of) (defBody s__law_house_of) (defScope s__law_house_of) .none kV10 dc10 pm10 an10 cd10 ct10), sl10⟩)
    (c10 : PySem.W.codeIn K cd10 "_law_house_of" = true)
    (k10 : PySem.W.keepIn K (.ref 223) = true)
    (a11 : PySem.W.nsIn K mainGlobals "_law_word_of" = some (some (.ref 230)))
    (l11 : K.lookup 230 = some ⟨oc11, od11, .func (PySem.W.fnOf "_law_word_of" "_law_word_of" (defArgs s__law_word_of) (defBody s__law_word_of) (defScope s__law_word_of) .none kV11 dc11 pm11 an11 cd11 ct11), sl11⟩)
    (c11 : PySem.W.codeIn K cd11 "_law_word_of" = true)
    (k11 : PySem.W.keepIn K (.ref 230) = true)
    (a12 : PySem.W.nsIn K mainGlobals "_law_told" = some (some (.ref 216)))
    (l12 : K.lookup 216 = some ⟨oc12, od12, .func (PySem.W.fnOf "_law_told" "_law_told" (defArgs s__law_told) (defBody s__law_told) (defScope s__law_told) .none kV12 dc12 pm12 an12 cd12 ct12), sl12⟩)
    (c12 : PySem.W.codeIn K cd12 "_law_told" = true)
    (k12 : PySem.W.keepIn K (.ref 216) = true)
    (a13 : PySem.W.nsIn K mainGlobals "law" = some (some (.ref 237)))
    (l13 : K.lookup 237 = some ⟨oc13, od13, .func (PySem.W.fnOf "law" "law" (defArgs s_law) (defBody s_law) (defScope s_law) .none kV13 dc13 pm13 an13 (.ref 236) ct13), sl13⟩)
    (c13 : PySem.W.codeIn K (.ref 236) "law" = true)
    (k13 : PySem.W.keepIn K (.ref 237) = true) :
    ∃ fd : FuncData, (∀ (s : Shared) (u : Value), BindsTo s fd ⟨[u], []⟩ [("_law_script", u)]) ∧ ∀ base : Heap, K.In base → base.Ns mainGlobals mg → (∀ Q ∈ [232], base.BuiltinsAt mg Q) → FnF P w K mg base tb 6 fa fd ["_law_script"] F_law := by
  have e := hfa.symm.trans (PySem.W.mg_of X G a13)
  cases e
  have T : Txt K mg := ⟨(tab_mk tabs ⟨x_ga, x_hk, x_be, x_cl, x_ca, x_ob, x_gt, x_tk⟩), (gt_mk lK), (st_mk sts), ⟨_, (PySem.W.mg_of X G n_SIGNS)⟩, ⟨_, (PySem.W.mg_of X G n_MOST)⟩, (PySem.W.mg_of X G n_KINDS), (PySem.W.mg_of X G n_RoofError), (PySem.W.mg_of X G n_BadName), (PySem.W.mg_of X G n_NoHouse), (PySem.W.mg_of X G n_NoOne), (PySem.W.mg_of X G n_Taken), (PySem.W.mg_of X G n_BadRule), (PySem.W.mg_of X G n_BadTime), (PySem.W.mg_of X G n_BadJournal), (PySem.W.mg_of X G n_Nothing), x37, (PySem.W.mg_none_of X G z_isinstance), (PySem.W.mg_none_of X G z_len), (PySem.W.mg_none_of X G z_all), (PySem.W.mg_none_of X G z_sum), (PySem.W.mg_none_of X G z_max), (PySem.W.mg_none_of X G z_min), (PySem.W.mg_none_of X G z_list), (PySem.W.mg_none_of X G z_int), (PySem.W.mg_none_of X G z_range), (PySem.W.mg_none_of X G z_str), (PySem.W.mg_none_of X G z_tuple), (PySem.W.mg_none_of X G z_ValueError), (dd_is_word X G a0 l0 c0 k0), (dd_is_kind X G a1 l1 c1 k1), (dd_is_name X G a2 l2 c2 k2), (dd_name_text X G a3 l3 c3 k3), (dd_read_name X G a4 l4 c4 k4), (dd__law_cell X G a5 l5 c5 k5), (dd__law_drawn X G a6 l6 c6 k6), (dd__law_roll X G a7 l7 c7 k7), (dd__law_rounds X G a8 l8 c8 k8), (dd__law_word X G a9 l9 c9 k9), (dd__law_house_of X G a10 l10 c10 k10), (dd__law_word_of X G a11 l11 c11 k11), (dd__law_told X G a12 l12 c12 k12)⟩
  obtain ⟨fd, hb, hf⟩ := f_law (P := P) (w := w) T (dc_law X G a13 l13 c13 k13)
  exact ⟨fd, hb, fun base hK hG hB => hf base (PySem.W.codeHd_of_K hK hd) (hB 232 (.head _))⟩
end
end K10
set_option Elab.async false
set_option linter.all false
set_option maxRecDepth 100000
set_option maxHeartbeats 4000000
namespace K10
open PySem PySem.Spec PyProof.Rows L2 FX FS
section
variable {h0 : VH}
abbrev SG : Str := "abcdefghijklmnopqrstuvwxyz0123456789"
def chs (x : Str) : List PV := x.cps.toList.map fun c => .str ⟨#[c]⟩
def inS (v : PV) : PV := match v with
  | .str i => .bl (!(Builtin.Str.occurrences SG i 0 SG.length 1).isEmpty)
  | _ => .non
def isW (x : Str) : Bool := (decide (1 ≤ (x.length : Int)) && decide ((x.length : Int) ≤ 8)) && (List.range ((chs x).map inS).length).all (trP ((chs x).map inS))
theorem W_str {x : Str} (ha : asc x = true) (hb : x.length ≤ big) : Ev h0 (F_is_word [.str x]) (.bl (isW x)) := by
  refine Ev.run (Sr.seq (τ' := [some (.str x)]) (Sn.pure fun h => rfl) (Sr.ret (Ev.and ?_ fun _ => ?_)))
  · refine Ev.pure fun h => ?_
    simp only [fChain, M.bind, fC, M.ret, fCB, aCons, aNil, fVar, gLen, gI, List.getElem?_cons_zero, if_pos hb]
    cases decide (1 ≤ (x.length : Int)) <;> rfl
  · intro e0
    refine ⟨[.lst ((chs x).map inS)], ?_⟩
    have key := compF_map (src := srcS x) (fe := fOp (gIn gtup) (fVar 0) (fC (.str SG))) (vs := chs x) (f := inS) (L := 1) (h := h0 ++ e0) (fun i ys => by
        unfold srcS chs
        simp) (fun v hv τ h hτ => by
        obtain ⟨c, _, rfl⟩ := List.mem_map.mp hv
        match τ, hτ with
        | [t], _ => rfl) (by unfold chs; rw [List.length_map]; exact hb) (x.cps.size + 1) 0 [] [none] rfl rfl (by unfold chs; rw [List.length_map]; simp)
    have ls : lsOf ((h0 ++ e0) ++ [.lst ((chs x).map inS)]) (h0 ++ e0).length = some ((chs x).map inS) := by
      unfold lsOf; rw [at_end]
    have al : ((chs x).map inS).all isBl = true := by
      rw [List.all_eq_true]
      intro y hy
      obtain ⟨v, hv, rfl⟩ := List.mem_map.mp hy
      obtain ⟨c, _, rfl⟩ := List.mem_map.mp hv
      rfl
    simp only [List.drop_zero, List.nil_append] at key
    simp only [fCB, M.bind, aCons, aNil, M.ret, fCompS, fVar, List.getElem?_cons_zero, if_pos ha, startC, List.map_nil, List.append_nil, List.replicate_one, gAll]
    rw [key]
    simp only []
    rw [ls]
    simp only []
    rw [if_pos al]

theorem N_tup {a b c : PV} {p q r : Bool} (ha : Ev h0 (F_is_kind [a]) (.bl p)) (hb : Ev h0 (F_is_word [b]) (.bl q)) (hc : Ev h0 (F_is_word [c]) (.bl r)) : Ev h0 (F_is_name [.tup [a, b, c]]) (.bl (p && (q && r))) :=
  Ev.run (Sr.seq (τ' := [some (.tup [a, b, c]), none, none, none]) (Sn.pure fun h => rfl) (Sr.seq (τ' := [some (.tup [a, b, c]), some a, some b, some c]) (Sn.pure fun h => rfl) (Sr.ret (Ev.and (Ev.call (xs := [a]) (.cons (.var rfl) .nil) rfl ha) fun _ => Ev.and (Ev.call (xs := [b]) (.cons (.var rfl) .nil) rfl hb) fun _ => Ev.call (xs := [c]) (.cons (.var rfl) .nil) rfl hc))))
theorem N_non : Ev h0 (F_is_name [.non]) (.bl false) := .pure fun h => rfl
theorem N_int {i : Int} : Ev h0 (F_is_name [.int i]) (.bl false) := .pure fun h => rfl
theorem N_str {x : Str} : Ev h0 (F_is_name [.str x]) (.bl false) := .pure fun h => rfl
theorem N_t0 : Ev h0 (F_is_name [.tup []]) (.bl false) := .pure fun h => rfl
theorem N_t2 {a b : PV} : Ev h0 (F_is_name [.tup [a, b]]) (.bl false) := .pure fun h => rfl
theorem N_t4 {a b c d : PV} : Ev h0 (F_is_name [.tup [a, b, c, d]]) (.bl false) := .pure fun h => rfl
theorem N_ref {i : Nat} {xs : List PV} (hi : h0[i]? = some (.lst xs)) : Ev h0 (F_is_name [.ref i]) (.bl false) := by
  have gi : Ev h0 (gIsi itab [.ref i, .ty "tuple"]) (.bl false) := .on fun e0 => by
    have e := at_pre e0 hi
    simp only [gIsi, tyP, e, clP]
    rfl
  exact Ev.run (Sr.seq1 (Sr.ift (Ev.tor (k := true) (l := true) (Ev.tnot (k := false) (Ev.b (Ev.cb (xs := [.ref i, .ty "tuple"]) (.cons (.var rfl) (.cons .c .nil)) gi))) (by intro z; cases z)) (Sr.ret .c)))
abbrev BN : XV := ⟨37, [], []⟩
theorem T_bad {v : PV} (h : Ev h0 (F_is_name [v]) (.bl false)) : Ex h0 (F_name_text [v]) BN :=
  Ex.run (Sx.seq1 (Sx.ift (Ev.tnot (k := false) (Ev.b (Ev.call (xs := [v]) (.cons (.var rfl) .nil) rfl h))) fun e0 => ⟨[], by rw [List.append_nil]; rfl⟩))
theorem T_good {a b c t : PV} (h : Ev h0 (F_is_name [.tup [a, b, c]]) (.bl true)) (ht : ∀ h, (sSeq (sAsg (fIf (fB (fOp gEq (fVar 1) (fC (.str "group")))) (fC (.str "#")) (fC (.str ""))) (gN 4)) (sRet (fJoin (jCons (fStr (fVar 4)) (jCons (fStr (fVar 2)) (jCons (fC (.str "@")) (jCons (fStr (fVar 3)) jNil))))))) [some (.tup [a, b, c]), some a, some b, some c, none] h = .ret t h) : Ev h0 (F_name_text [.tup [a, b, c]]) t :=
  Ev.run (Sr.seq (τ' := [some (.tup [a, b, c]), none, none, none, none]) (Sn.iff (Ev.tnot (k := true) (Ev.b (Ev.call (xs := [.tup [a, b, c]]) (.cons (.var rfl) .nil) rfl h))) .nx) (Sr.seq (τ' := [some (.tup [a, b, c]), some a, some b, some c, none]) (Sn.pure fun h => rfl) (Sr.pure ht)))
/-- read_name's rows ahead of its look at the name -/
def rn_pre : FSt := (sSeq (sIf (tNotF (fB (fCB (gIsi itab) (aCons (fVar 0) (aCons (fC (.ty "str")) aNil))))) (sRaise 37 (aCons (fC (.str "this is no text")) aNil)) sNext) (sSeq (sAsg (fIf (fB (fBMs gSw (fVar 0) (aCons (fC (.str "#")) aNil))) (fTup (aCons (fC (.str "group")) (aCons (fSl (fVar 0) (oSome (fC (.int 1))) oNone) aNil))) (fTup (aCons (fC (.str "one")) (aCons (fVar 0) aNil)))) (gT [gN 1, gN 2])) (sSeq (sAsg (fBMs gPart (fVar 2) (aCons (fC (.str "@")) aNil)) (gT [gN 3, gN 4, gN 5])) (sAsg (fTup (aCons (fVar 1) (aCons (fVar 3) (aCons (fVar 5) aNil)))) (gN 6)))))
def rn_post : FSt := (sSeq (sIf (tNotF (fB (fCall F_is_name 1 (aCons (fVar 6) aNil)))) (sRaise 37 (aCons (fC (.str "this is no text of a name")) aNil)) sNext) (sRet (fVar 6)))
theorem seq_assoc {f g k : FSt} : sSeq (sSeq f g) k = sSeq f (sSeq g k) := by
  funext τ h
  unfold sSeq
  cases f τ h <;> rfl
theorem rn_split : g_read_name = sSeq rn_pre rn_post := by
  unfold rn_pre rn_post g_read_name
  rw [seq_assoc, seq_assoc, seq_assoc]
theorem R_good {x : Str} {t1 t2 t3 t4 t5 n : PV} (hp : ∀ h, rn_pre [some (.str x), none, none, none, none, none, none] h = .next [some (.str x), some t1, some t2, some t3, some t4, some t5, some n] h) (hn : Ev h0 (F_is_name [n]) (.bl true)) : Ev h0 (F_read_name [.str x]) n := by
  refine Ev.run ?_
  rw [rn_split]
  exact Sr.seq (Sn.pure hp) (Sr.seq (Sn.iff (Ev.tnot (k := true) (Ev.b (Ev.call (xs := [n]) (.cons (.var rfl) .nil) rfl hn))) .nx) (Sr.ret (.var rfl)))
theorem R_bad {x : Str} {t1 t2 t3 t4 t5 n : PV} (hp : ∀ h, rn_pre [some (.str x), none, none, none, none, none, none] h = .next [some (.str x), some t1, some t2, some t3, some t4, some t5, some n] h) (hn : Ev h0 (F_is_name [n]) (.bl false)) : Ex h0 (F_read_name [.str x]) BN := by
  refine Ex.run ?_
  rw [rn_split]
  exact Sx.seq (Sn.pure hp) (Sx.seq1 (Sx.ift (Ev.tnot (k := false) (Ev.b (Ev.call (xs := [n]) (.cons (.var rfl) .nil) rfl hn))) fun e0 => ⟨[], by rw [List.append_nil]; rfl⟩))
theorem R_non : Ex h0 (F_read_name [.non]) BN := .pure fun h => rfl
theorem R_int {i : Int} : Ex h0 (F_read_name [.int i]) BN := .pure fun h => rfl
theorem R_tup {xs : List PV} : Ex h0 (F_read_name [.tup xs]) BN := .pure fun h => rfl
def lw0 : FSt := (sAsg (fLst (aCons (fCB (gIsi itab) (aCons (fVar 0) (aCons (fC (.adr 68)) aNil))) (aCons (fCB (gIsi itab) (aCons (fVar 0) (aCons (fC (.adr 87)) aNil))) (aCons (fCB (gIsi itab) (aCons (fVar 0) (aCons (fC (.adr 130)) aNil))) (aCons (fCB (gIsi itab) (aCons (fVar 0) (aCons (fC (.adr 37)) aNil))) aNil))))) (gN 1))
def lw1 : FSt := (sAsg (fOp gPlus (fVar 1) (fLst (aCons (fCB (gIsi itab) (aCons (fVar 0) (aCons (fC (.adr 49)) aNil))) (aCons (fCB (gIsi itab) (aCons (fVar 0) (aCons (fC (.adr 99)) aNil))) (aCons (fCB (gIsi itab) (aCons (fVar 0) (aCons (fC (.adr 111)) aNil))) aNil))))) (gN 1))
def lw2 : FSt := (sExpr (fBMl gApp (fVar 1) (aCons (fCB (gIsi itab) (aCons (fVar 0) (aCons (fC (.adr 142)) aNil))) aNil)))
def lw3 : FSt := (sAsg (fLst (aCons (fC (.str "NoOne")) (aCons (fC (.str "Taken")) (aCons (fC (.str "BadJournal")) (aCons (fC (.str "BadName")) (aCons (fC (.str "NoHouse")) (aCons (fC (.str "BadRule")) (aCons (fC (.str "BadTime")) (aCons (fC (.str "Nothing")) aNil))))))))) (gN 2))
def lw4 : FSt := (sIf (tOrF (fB (fOp gNe (fCB gSum (aCons (fCompL 1 [] (fVar 1) (gN 0) tYes (fCB gInt (aCons (fVar 0) aNil))) aNil)) (fC (.int 1)))) (tNotF (fB (fCB (gIsi itab) (aCons (fVar 0) (aCons (fC (.ty "ValueError")) aNil)))))) (sRet (fTup (aCons (fC (.str "refused")) (aCons (fC (.str "other")) aNil)))) sNext)
def lw5 : FSt := (sRet (fTup (aCons (fC (.str "refused")) (aCons (fOp gIx (fVar 2) (fBMl gIdx (fVar 1) (aCons (fC (.bl true)) aNil))) aNil))))
theorem lw_split : g__law_word = sSeq lw0 (sSeq lw1 (sSeq lw2 (sSeq lw3 (sSeq lw4 lw5)))) := rfl
abbrev EB : PV := .exc 37 [] []
abbrev L1 : List PV := [.bl false, .bl false, .bl false, .bl true]
abbrev L2' : List PV := [.bl false, .bl false, .bl false]
abbrev L3 : List PV := [.bl false, .bl false, .bl false, .bl true, .bl false, .bl false, .bl false]
abbrev L4 : List PV := [.bl false, .bl false, .bl false, .bl true, .bl false, .bl false, .bl false, .bl false]
abbrev L5 : List PV := [.str "NoOne", .str "Taken", .str "BadJournal", .str "BadName", .str "NoHouse", .str "BadRule", .str "BadTime", .str "Nothing"]
abbrev L6 : List PV := [.int 0, .int 0, .int 0, .int 1, .int 0, .int 0, .int 0, .int 0]
theorem lw0_is (h : VH) : lw0 [some EB, none, none] h = .next [some EB, some (.ref h.length), none] (h ++ [.lst L1]) := rfl
theorem lw1_is {h : VH} {i : Nat} (hi : h[i]? = some (.lst L1)) : lw1 [some EB, some (.ref i), none] h = .next [some EB, some (.ref (h ++ [VO.lst L2']).length), none] (h ++ [.lst L2'] ++ [.lst L3]) := by
  refine asgN_ok ((op_ok (h1 := h) (h2 := h ++ [.lst L2']) (x := .ref i) (y := .ref h.length) rfl rfl).trans ?_)
  simp only [gPlus, at_pre [VO.lst L2'] hi, at_end h (.lst L2') []]
  rfl
theorem lw2_is {h : VH} : lw2 [some EB, some (.ref h.length), none] (h ++ [.lst L3]) = .next [some EB, some (.ref h.length), none] (h ++ [.lst L4]) := by
  have ls : lsOf (h ++ [.lst L3]) h.length = some L3 := ls_at (at_end _ _ _)
  refine expr_ok (v := .non) ?_
  unfold fBMl
  refine (bind_ok (a := PV.ref h.length) (h1 := h ++ [.lst L3]) rfl).trans ?_
  simp only [ls]
  refine (bind_ok (a := [PV.bl false]) (h1 := h ++ [.lst L3]) rfl).trans ?_
  simp only [gApp, at_end, set_end]
  rfl
theorem lw3_is (h : VH) {t : Option PV} : lw3 [some EB, t, none] h = .next [some EB, t, some (.ref h.length)] (h ++ [.lst L5]) := rfl
theorem lw4_is {h : VH} {i : Nat} {t : Option PV} (hi : h[i]? = some (.lst L4)) : lw4 [some EB, some (.ref i), t] h = .next [some EB, some (.ref i), t] (h ++ [.lst L6]) := by
  have key := compF_map (src := srcL i) (fe := fCB gInt (aCons (fVar 0) aNil)) (vs := L4) (f := fun v => match v with | .bl true => .int 1 | _ => .int 0) (L := 1) (h := h) (fun j ys => by
      unfold srcL
      rw [ls_at (at_pre _ hi)]) (fun v hv τ h hτ => by
      match τ, hτ with
      | [u], _ =>
        simp only [List.mem_cons, List.not_mem_nil, or_false] at hv
        rcases hv with rfl | rfl | rfl | rfl | rfl | rfl | rfl | rfl <;> rfl) (by decide) 9 0 [] [none] rfl rfl (by decide)
  have ln : lenL h i = 8 := by unfold lenL; rw [ls_at hi]; rfl
  have c : fCompL 1 [] (fVar 1) (gN 0) tYes (fCB gInt (aCons (fVar 0) aNil)) [some EB, some (.ref i), t] h = .ok (.ref h.length) (h ++ [.lst L6]) := by
    unfold fCompL
    refine (bind_ok (a := PV.ref i) (h1 := h) rfl).trans ?_
    simp only [ln]
    have e : startC 1 [] [some EB, some (.ref i), t] = [none] := rfl
    rw [e, key]
    rfl
  have sm : gSum [.ref h.length] (h ++ [.lst L6]) = .ok (.int 1) (h ++ [.lst L6]) := by
    unfold gSum
    simp only [ls_at (at_end h (.lst L6) [])]
    rfl
  have te : (tOrF (fB (fOp gNe (fCB gSum (aCons (fCompL 1 [] (fVar 1) (gN 0) tYes (fCB gInt (aCons (fVar 0) aNil))) aNil)) (fC (.int 1)))) (tNotF (fB (fCB (gIsi itab) (aCons (fVar 0) (aCons (fC (.ty "ValueError")) aNil)))))) [some EB, some (.ref i), t] h = .ok false (h ++ [.lst L6]) :=
    tor_ok2 (b_ok ((op_ok ((cb_ok (cons_ok c nil_ok)).trans sm) c_ok).trans rfl)) rfl
  exact (if_ok te).trans rfl
theorem lw5_is {h : VH} {i j : Nat} (hi : h[i]? = some (.lst L4)) (hj : h[j]? = some (.lst L5)) : lw5 [some EB, some (.ref i), some (.ref j)] h = .ret (.tup [.str "refused", .str "BadName"]) h := by
  refine ret_ok (tup_ok (cons_ok c_ok (cons_ok ((op_ok (h1 := h) (h2 := h) (x := .ref j) (y := .int 3) rfl ?_).trans (ix_ok (ls_at hj) rfl)) nil_ok)) (by decide))
  unfold fBMl
  refine (bind_ok (a := PV.ref i) (h1 := h) rfl).trans ?_
  simp only [ls_at hi]
  refine (bind_ok (a := [PV.bl true]) (h1 := h) rfl).trans ?_
  simp only [gIdx, ls_at hi]
  rfl
theorem LW : Ev h0 (F__law_word [EB]) (.tup [.str "refused", .str "BadName"]) := fun e0 => by
  refine ⟨[.lst L1, .lst L2', .lst L4, .lst L5, .lst L6], run_ret ?_⟩
  generalize h0 ++ e0 = h
  rw [lw_split]
  refine (seq_ok (lw0_is h)).trans ((seq_ok (lw1_is (at_end h _ []))).trans ((seq_ok lw2_is).trans ((seq_ok (lw3_is _)).trans ((seq_ok (lw4_is ?_)).trans ((lw5_is ?_ ?_).trans ?_)))))
  · exact at_pre _ (at_end _ _ _)
  · exact at_pre _ (at_pre _ (at_end _ _ _))
  · exact at_pre _ (at_end _ _ _)
  · simp [List.append_assoc]
theorem told_bad {F : FF} {τ : Tau} {v : PV} (hv : τ[8]? = some (some v)) (h : Ex h0 (F [v]) BN) : Ev h0 (fTold [8] (fCall F 1 (aCons (fVar 0) aNil)) fh_told τ) (.tup [.str "refused", .str "BadName"]) := fun e0 => by
  obtain ⟨e1, q1⟩ := h e0
  obtain ⟨e2, q2⟩ := LW (h0 := h0) (e0 ++ e1)
  refine ⟨e1 ++ e2, ?_⟩
  have st : startC 0 [8] τ = [some v] := by unfold startC; simp [hv]
  have c : fCall F 1 (aCons (fVar 0) aNil) (startC 0 [8] τ) (h0 ++ e0) = .exc BN (h0 ++ e0 ++ e1) := by
    rw [st]
    exact (call_ok (xs := [v]) (h1 := h0 ++ e0) rfl rfl).trans q1
  unfold fTold
  rw [c]
  have hh : fh_told BN (h0 ++ e0 ++ e1) = .ret (.tup [.str "refused", .str "BadName"]) (h0 ++ e0 ++ (e1 ++ e2)) := by
    have q3 : F__law_word [EB] (h0 ++ e0 ++ e1) = .ok (.tup [.str "refused", .str "BadName"]) (h0 ++ e0 ++ (e1 ++ e2)) := by simpa [List.append_assoc] using q2
    have w : (sRet (fCallW F__law_word 1 (aCons (fVar 1) aNil))) [none, some EB] (h0 ++ e0 ++ e1) = .ret (.tup [.str "refused", .str "BadName"]) (h0 ++ e0 ++ (e1 ++ e2)) := by
      refine ret_ok ?_
      unfold fCallW
      refine (bind_ok (a := [EB]) (h1 := h0 ++ e0 ++ e1) rfl).trans ?_
      simp only [List.length_cons, List.length_nil]
      rw [q3]
      rfl
    have e : fh_told BN (h0 ++ e0 ++ e1) = (match (sRet (fCallW F__law_word 1 (aCons (fVar 1) aNil))) [none, some EB] (h0 ++ e0 ++ e1) with
      | .ret v h' => .ret v h'
      | _ => .bad) := by
      unfold fh_told hCons
      simp only [show subOf stab BN.cls 68 = some false from rfl, show subOf stab BN.cls 87 = some false from rfl, show subOf stab BN.cls 130 = some false from rfl, show subOf stab BN.cls 24 = some true from rfl]
      rfl
    rw [e, w]
  simp only [hh]
end
end K10

set_option Elab.async false
set_option linter.all false
set_option maxRecDepth 100000
set_option maxHeartbeats 4000000
set_option exponentiation.threshold 500
namespace K10
open PySem PySem.Spec PyProof.Rows L2 FX FS
section
variable {h h1 h2 : VH} {τ : Tau}
theorem mul_c {i j : Int} (hj : -(2 ^ 64) < j ∧ j < 2 ^ 64) : gMul (.int i) (.int j) h = .ok (.int (i * j)) h := by
  unfold gMul; simp only []; rw [if_pos (.inr (.inl hj))]; rfl
theorem mul_n {i j : Int} (hi : i.natAbs < 2 ^ 400) (hj : j.natAbs < 2 ^ 400) : gMul (.int i) (.int j) h = .ok (.int (i * j)) h := by
  unfold gMul; simp only []; rw [if_pos (.inr (.inr ⟨hi, hj⟩))]; rfl
theorem mod_p {i j : Int} (hj : 0 < j) : gMod (.int i) (.int j) h = .ok (.int (i % j)) h := by
  unfold gMod; simp only []; rw [if_pos hj]; rfl
theorem div_p {i j : Int} (hj : 0 < j ∧ j < 2 ^ 400) : gDiv (.int i) (.int j) h = .ok (.int (i / j)) h := by
  unfold gDiv; simp only []; rw [if_pos hj]; rfl
theorem nb {m M : Int} (h0 : 0 ≤ m) (h1 : m ≤ M) (hM : M < 2 ^ 400) : m.natAbs < 2 ^ 400 := by
  have e : (m.natAbs : Int) = m := Int.natAbs_of_nonneg h0
  have : (m.natAbs : Int) < 2 ^ 400 := by rw [e]; exact Int.lt_of_le_of_lt h1 hM
  exact_mod_cast this
abbrev M1 : Int := 340282366920938463463374607431768211507
abbrev M2 : Int := 340282366920938463463374607431768211297
abbrev P0 : Int := 18446744073709551557
theorem drawn_ok (c j : Int) : ∃ r, 0 ≤ r ∧ ∀ h, F__law_drawn [.int c, .int j] h = .ok (.int r) h := by
  have b1 : 0 ≤ (c * 6364136223846793005 + (j + 1) * 1442695040888963407) % M1 := Int.emod_nonneg _ (by decide)
  have b2 : (c * 6364136223846793005 + (j + 1) * 1442695040888963407) % M1 < M1 := Int.emod_lt_of_pos _ (by decide)
  generalize hm1 : (c * 6364136223846793005 + (j + 1) * 1442695040888963407) % M1 = m1 at b1 b2
  have n1 := nb b1 (Int.le_of_lt b2) (by decide)
  have b3 : 0 ≤ m1 * m1 % M2 := Int.emod_nonneg _ (by decide)
  have b4 : m1 * m1 % M2 < M2 := Int.emod_lt_of_pos _ (by decide)
  generalize hm2 : m1 * m1 % M2 = m2 at b3 b4
  have n2 := nb b3 (Int.le_of_lt b4) (by decide)
  have b5 : 0 ≤ m2 % P0 := Int.emod_nonneg _ (by decide)
  have b6 : m2 % P0 < P0 := Int.emod_lt_of_pos _ (by decide)
  have b7 : 0 ≤ m2 / P0 := Int.ediv_nonneg b3 (by decide)
  have b8 : m2 / P0 ≤ m2 := Int.ediv_le_self _ b3
  have c1 : 0 ≤ m2 % P0 + 1 := by omega
  have c2 : m2 % P0 + 1 ≤ P0 := by omega
  have c3 : 0 ≤ m2 / P0 + 1 := by omega
  have c4 : m2 / P0 + 1 ≤ M2 := by omega
  have n3 := nb c1 c2 (by decide)
  have n4 := nb c3 c4 (by decide)
  have n5 : ((m2 % P0 + 1) * (m2 / P0 + 1)).natAbs < 2 ^ 400 := nb (Int.mul_nonneg c1 c3) (Int.mul_le_mul c2 c4 c3 (by decide)) (by decide)
  refine ⟨(m2 % P0 + 1) * (m2 / P0 + 1) * m2 % M1, Int.emod_nonneg _ (by decide), fun h => run_ret ?_⟩
  unfold g__law_drawn
  have s1 : (sAsg (fOp gMod (fOp gPlus (fOp gMul (fVar 0) (fC (.int 6364136223846793005))) (fOp gMul (fOp gPlus (fVar 1) (fC (.int 1))) (fC (.int 1442695040888963407)))) (fC (.int 340282366920938463463374607431768211507))) (gN 2)) [some (.int c), some (.int j), none] h = .next [some (.int c), some (.int j), some (.int m1)] h := by
    refine asgN_ok ((op_ok ((op_ok ((op_ok rfl rfl).trans (mul_c (by decide))) ((op_ok (x := .int (j + 1)) rfl rfl).trans (mul_c (by decide)))).trans rfl) rfl).trans ((mod_p (by decide)).trans ?_))
    rw [hm1]
  have s2 : (sAsg (fOp gMod (fOp gMul (fVar 2) (fVar 2)) (fC (.int 340282366920938463463374607431768211297))) (gN 2)) [some (.int c), some (.int j), some (.int m1)] h = .next [some (.int c), some (.int j), some (.int m2)] h := by
    refine asgN_ok ((op_ok ((op_ok rfl rfl).trans (mul_n n1 n1)) rfl).trans ((mod_p (by decide)).trans ?_))
    rw [hm2]
  have s3 : (sAsg (fOp gMul (fOp gMul (fOp gPlus (fOp gMod (fVar 2) (fC (.int 18446744073709551557))) (fC (.int 1))) (fOp gPlus (fOp gDiv (fVar 2) (fC (.int 18446744073709551557))) (fC (.int 1)))) (fVar 2)) (gN 2)) [some (.int c), some (.int j), some (.int m2)] h = .next [some (.int c), some (.int j), some (.int ((m2 % P0 + 1) * (m2 / P0 + 1) * m2))] h := by
    have q1 : (fOp gPlus (fOp gMod (fVar 2) (fC (.int 18446744073709551557))) (fC (.int 1))) [some (.int c), some (.int j), some (.int m2)] h = .ok (.int (m2 % P0 + 1)) h := (op_ok ((op_ok rfl rfl).trans (mod_p (j := P0) (by decide))) rfl).trans rfl
    have q2 : (fOp gPlus (fOp gDiv (fVar 2) (fC (.int 18446744073709551557))) (fC (.int 1))) [some (.int c), some (.int j), some (.int m2)] h = .ok (.int (m2 / P0 + 1)) h := (op_ok ((op_ok rfl rfl).trans (div_p (j := P0) (by decide))) rfl).trans rfl
    exact asgN_ok ((op_ok ((op_ok q1 q2).trans (mul_n n3 n4)) rfl).trans (mul_n n5 n2))
  refine (seq_ok s1).trans ((seq_ok s2).trans ((seq_ok s3).trans (ret_ok ((op_ok rfl rfl).trans (mod_p (by decide))))))
theorem set_at {h : VH} {d : Nat} {o u : VO} (e : h[d]? = some o) : (h.set d u)[d]? = some u := by
  rw [List.getElem?_set_self (List.getElem?_eq_some_iff.mp e).1]
theorem asgS_ok {fe fo fi : FE} {v : PV} {l j : Nat} {k : Int} {xs : List PV} (e1 : fe τ h = .ok v h1) (e2 : fo τ h1 = .ok (.ref l) h1) (e3 : fi τ h1 = .ok (.int k) h1) (e4 : h1[l]? = some (.lst xs)) (e5 : ixN xs.length k = some j) : sAsg fe (gSetL fo fi) τ h = .next τ (h1.set l (.lst (xs.set j v))) := by
  unfold sAsg
  rw [then_ok e1]
  simp only [gSetL, e2, e3, e4, e5]
theorem roll_ok {d : Nat} {c j m : Int} (hd : h[d]? = some (.lst [.int c, .int j])) (hm : 0 < m ∧ m < 2 ^ 400) : ∃ c' j' r, 0 ≤ r ∧ r < m ∧ F__law_roll [.ref d, .int m] h = .ok (.int r) (h.set d (.lst [.int c', .int j'])) := by
  have i0 : (fOp gIx (fVar 0) (fC (.int 0))) [some (.ref d), some (.int m), none] h = .ok (.int c) h := (op_ok rfl rfl).trans (ix_ok (ls_at hd) rfl)
  have te : (fB (fOp (gI fun i j => decide (j ≤ i)) (fOp gIx (fVar 0) (fC (.int 0))) (fOp gPow (fC (.int 10)) (fC (.int 18))))) [some (.ref d), some (.int m), none] h = .ok (decide ((10 : Int) ^ 18 ≤ c)) h := b_ok ((op_ok i0 (y := .int (10 ^ 18)) (h2 := h) rfl).trans rfl)
  by_cases hc : (10 : Int) ^ 18 ≤ c
  · refine ⟨c / m, j, c % m, Int.emod_nonneg _ (by omega), Int.emod_lt_of_pos _ hm.1, run_ret ?_⟩
    unfold g__law_roll
    refine seq_ret ((if_ok te).trans ?_)
    rw [if_pos (decide_eq_true hc)]
    have i0' : (fOp gIx (fVar 0) (fC (.int 0))) [some (.ref d), some (.int m), some (.int (c % m))] h = .ok (.int c) h := (op_ok rfl rfl).trans (ix_ok (ls_at hd) rfl)
    refine (seq_ok (asgN_ok ((op_ok i0 rfl).trans (mod_p hm.1)))).trans ((seq_ok (asgS_ok (xs := [.int c, .int j]) (j := 0) (k := 0) ((op_ok i0' rfl).trans (div_p hm)) rfl rfl hd rfl)).trans rfl)
  · obtain ⟨r, r0, hr⟩ := drawn_ok c (j + 1)
    refine ⟨c, j + 1, r / 8 % m, Int.emod_nonneg _ (by omega), Int.emod_lt_of_pos _ hm.1, run_ret ?_⟩
    unfold g__law_roll
    have hn : (sIf (fB (fOp (gI fun i j => decide (j ≤ i)) (fOp gIx (fVar 0) (fC (.int 0))) (fOp gPow (fC (.int 10)) (fC (.int 18))))) (sSeq (sAsg (fOp gMod (fOp gIx (fVar 0) (fC (.int 0))) (fVar 1)) (gN 2)) (sSeq (sAsg (fOp gDiv (fOp gIx (fVar 0) (fC (.int 0))) (fVar 1)) (gSetL (fVar 0) (fC (.int 0)))) (sRet (fVar 2)))) sNext) [some (.ref d), some (.int m), none] h = .next [some (.ref d), some (.int m), none] h := by
      refine (if_ok te).trans ?_
      rw [if_neg (by simpa using hc)]
      rfl
    have i1 : (fOp gIx (fVar 0) (fC (.int 1))) [some (.ref d), some (.int m), none] h = .ok (.int j) h := (op_ok rfl rfl).trans (ix_ok (ls_at hd) rfl)
    have hs := set_at (u := .lst [.int c, .int (j + 1)]) hd
    have s2 : (sAsg (fOp gPlus (fOp gIx (fVar 0) (fC (.int 1))) (fC (.int 1))) (gSetL (fVar 0) (fC (.int 1)))) [some (.ref d), some (.int m), none] h = .next [some (.ref d), some (.int m), none] (h.set d (.lst [.int c, .int (j + 1)])) := asgS_ok (xs := [.int c, .int j]) (j := 1) (k := 1) ((op_ok i1 rfl).trans rfl) rfl rfl hd rfl
    have j0 : (fOp gIx (fVar 0) (fC (.int 0))) [some (.ref d), some (.int m), none] (h.set d (.lst [.int c, .int (j + 1)])) = .ok (.int c) (h.set d (.lst [.int c, .int (j + 1)])) := (op_ok rfl rfl).trans (ix_ok (ls_at hs) rfl)
    have j1 : (fOp gIx (fVar 0) (fC (.int 1))) [some (.ref d), some (.int m), none] (h.set d (.lst [.int c, .int (j + 1)])) = .ok (.int (j + 1)) (h.set d (.lst [.int c, .int (j + 1)])) := (op_ok rfl rfl).trans (ix_ok (ls_at hs) rfl)
    refine (seq_ok hn).trans ((seq_ok s2).trans (ret_ok ((op_ok ((op_ok ((call_ok (cons_ok j0 (cons_ok j1 nil_ok)) rfl).trans (hr _)) rfl).trans (div_p (by decide))) rfl).trans (mod_p hm.1))))
end
end K10

set_option Elab.async false
set_option linter.all false
set_option maxRecDepth 100000
set_option maxHeartbeats 4000000
set_option exponentiation.threshold 500
namespace K10
open PySem PySem.Spec PyProof.Rows L2 FX FS
section
variable {h h1 h2 : VH} {τ : Tau}
/-- all but the dice at d stays -/
def FrD (d : Nat) (h h' : VH) : Prop := (∀ i o, i ≠ d → h[i]? = some o → h'[i]? = some o) ∧ ∃ c j, h'[d]? = some (.lst [.int c, .int j])
theorem FrD.trans {d : Nat} {h h1 h2 : VH} (a : FrD d h h1) (b : FrD d h1 h2) : FrD d h h2 := ⟨fun i o ne e => b.1 i o ne (a.1 i o ne e), b.2⟩
theorem pick {d i : Nat} {c j m : Int} {fs : FA} {ws : List PV} (hτ : τ[i]? = some (some (.ref d))) (hd : h[d]? = some (.lst [.int c, .int j])) (hfs : fs τ h = .ok ws h) (hw : (ws.length : Int) = m) (hw0 : 0 < ws.length) (hb : ws.length ≤ 1000) :
    ∃ v h', v ∈ ws ∧ FrD d h h' ∧ fOp gIx (fLst fs) (fCall F__law_roll 2 (aCons (fVar i) (aCons (fC (.int m)) aNil))) τ h = .ok v h' := by
  have hd' := at_pre [VO.lst ws] hd
  have hlt := (List.getElem?_eq_some_iff.mp hd).1
  have hm : 0 < m ∧ m < 2 ^ 400 := ⟨by omega, Int.lt_of_le_of_lt (show m ≤ 1000 by omega) (by decide)⟩
  obtain ⟨c', j', r, r0, r1, hr⟩ := roll_ok (m := m) hd' hm
  have hl : ((h ++ [VO.lst ws]).set d (.lst [.int c', .int j']))[h.length]? = some (.lst ws) := by
    rw [List.getElem?_set_ne (by omega)]; exact at_end h _ []
  have hix : atI ws r = some (ws[r.toNat]'(by omega)) := by
    unfold atI ixN
    rw [if_pos r0, if_pos (by omega)]
    simp
  refine ⟨ws[r.toNat]'(by omega), (h ++ [VO.lst ws]).set d (.lst [.int c', .int j']), List.getElem_mem _, ⟨fun i o ne e => ?_, c', j', set_at hd'⟩, ?_⟩
  · rw [List.getElem?_set_ne (fun z => ne z.symm)]; exact at_pre _ e
  · exact (op_ok (lst_ok hfs (by unfold big; omega)) ((call_ok (cons_ok (var_ok hτ) (cons_ok c_ok nil_ok)) rfl).trans hr)).trans (ix_ok (ls_at hl) hix)
abbrev wsK : List PV := [.str "one", .str "group"]
abbrev wsT : List PV := [.str "ann", .str "bob", .str "crew", .str "longword"]
abbrev wsH : List PV := [.str "oak", .str "elm", .str "ash", .str "x1"]
theorem word_of_ok {d : Nat} {c j : Int} (hd : h[d]? = some (.lst [.int c, .int j])) : ∃ v h', v ∈ wsT ∧ FrD d h h' ∧ F__law_word_of [.ref d] h = .ok v h' := by
  obtain ⟨v, h', hv, fr, e⟩ := pick (τ := [some (.ref d)]) (i := 0) (m := 4) (fs := (aCons (fC (.str "ann")) (aCons (fC (.str "bob")) (aCons (fC (.str "crew")) (aCons (fC (.str "longword")) aNil))))) (ws := wsT) rfl hd rfl rfl (by decide) (by decide)
  exact ⟨v, h', hv, fr, run_ret (ret_ok e)⟩
theorem house_of_ok {d : Nat} {c j : Int} (hd : h[d]? = some (.lst [.int c, .int j])) : ∃ v h', v ∈ wsH ∧ FrD d h h' ∧ F__law_house_of [.ref d] h = .ok v h' := by
  obtain ⟨v, h', hv, fr, e⟩ := pick (τ := [some (.ref d)]) (i := 0) (m := 4) (fs := (aCons (fC (.str "oak")) (aCons (fC (.str "elm")) (aCons (fC (.str "ash")) (aCons (fC (.str "x1")) aNil))))) (ws := wsH) rfl hd rfl rfl (by decide) (by decide)
  exact ⟨v, h', hv, fr, run_ret (ret_ok e)⟩
theorem law0_ok {d : Nat} {c j : Int} {s0 x2 x3 x4 x5 x6 x7 x8 x9 : Option PV} (hd : h[d]? = some (.lst [.int c, .int j])) :
    ∃ k t o h', k ∈ wsK ∧ t ∈ wsT ∧ o ∈ wsH ∧ FrD d h h' ∧ g_law_0 [s0, some (.ref d), x2, x3, x4, x5, x6, x7, x8, x9] h = .next [s0, some (.ref d), some k, some t, some o, x5, x6, x7, x8, x9] h' := by
  obtain ⟨k, h1, hk, f1, e1⟩ := pick (τ := [s0, some (.ref d), x2, x3, x4, x5, x6, x7, x8, x9]) (i := 1) (m := 2) (fs := (aCons (fC (.str "one")) (aCons (fC (.str "group")) aNil))) (ws := wsK) rfl hd rfl rfl (by decide) (by decide)
  obtain ⟨c1, j1, q1⟩ := f1.2
  obtain ⟨t, h2, ht, f2, e2⟩ := word_of_ok q1
  obtain ⟨c2, j2, q2⟩ := f2.2
  obtain ⟨o, h3, ho, f3, e3⟩ := house_of_ok q2
  refine ⟨k, t, o, h3, hk, ht, ho, (f1.trans f2).trans f3, ?_⟩
  have e : (aCons (fOp gIx (fLst (aCons (fC (.str "one")) (aCons (fC (.str "group")) aNil))) (fCall F__law_roll 2 (aCons (fVar 1) (aCons (fC (.int 2)) aNil)))) (aCons (fCall F__law_word_of 1 (aCons (fVar 1) aNil)) (aCons (fCall F__law_house_of 1 (aCons (fVar 1) aNil)) aNil))) [s0, some (.ref d), x2, x3, x4, x5, x6, x7, x8, x9] h = .ok [k, t, o] h3 :=
    cons_ok e1 (cons_ok ((call_ok (cons_ok (var_ok rfl) nil_ok) rfl).trans e2) (cons_ok ((call_ok (cons_ok (var_ok rfl) nil_ok) rfl).trans e3) nil_ok))
  unfold g_law_0 sPar3
  rw [then_ok e]
  rfl
/-! ### the rounds -/
theorem cell_ok {ns : List Int} {k : Nat} (hk : k < 5) (hl : ns.length ≤ 63) (h0 : h[0]? = some (.scr ns)) : ∃ c, F__law_cell [.ref 0, .int k] h = .ok (.int c) (h ++ [.lst []]) := by
  have l0 : lsOf (h ++ [.lst []]) 0 = some (ns.map PV.int) := by unfold lsOf; rw [at_pre _ h0]
  have l1 : lsOf (h ++ [.lst []]) h.length = some [] := ls_at (at_end h _ [])
  have gl : gLen [.ref 0] (h ++ [.lst []]) = .ok (.int ns.length) (h ++ [.lst []]) := by
    unfold gLen; simp only [l0, List.length_map]
  have te : ∀ b, eqF (h ++ [.lst []]) 40 (.ref 0) (.ref h.length) = some b → (fB (fOp gEq (fVar 0) (fLst aNil))) [some (.ref 0), some (.int k)] h = .ok b (h ++ [.lst []]) := fun b hb => b_ok ((op_ok rfl (lst_ok nil_ok (by decide))).trans (by unfold gEq; rw [hb]))
  cases ns with
  | nil =>
    have hb : eqF (h ++ [.lst []]) 40 (.ref 0) (.ref h.length) = some true := by
      unfold eqF
      simp only [kd, l0, l1]
      rfl
    refine ⟨k * 7919, run_ret (seq_ret ((if_ok (te _ hb)).trans ?_))⟩
    exact ret_ok ((op_ok rfl rfl).trans (mul_c (by decide)))
  | cons n t =>
    have hb : eqF (h ++ [.lst []]) 40 (.ref 0) (.ref h.length) = some false := by
      unfold eqF
      simp only [kd, l0, l1]
      rfl
    have p0 : (0 : Int) < ((n :: t).length : Int) := by simp
    have p1 : ((n :: t).length : Int) < 2 ^ 400 := Int.lt_of_le_of_lt (show ((n :: t).length : Int) ≤ 63 by omega) (by decide)
    have q0 : 0 ≤ (k : Int) % ((n :: t).length : Int) := Int.emod_nonneg _ (by omega)
    have q1 : (k : Int) % ((n :: t).length : Int) < ((n :: t).length : Int) := Int.emod_lt_of_pos _ p0
    obtain ⟨v, hv⟩ : ∃ v, atI ((n :: t).map PV.int) ((k : Int) % ((n :: t).length : Int)) = some (.int v) := by
      unfold atI ixN
      rw [if_pos q0, List.length_map, if_pos q1]
      refine ⟨(n :: t)[((k : Int) % ((n :: t).length : Int)).toNat]'(by omega), ?_⟩
      simp only [Option.bind_some, List.getElem?_map]
      rw [List.getElem?_eq_getElem (by omega)]
      rfl
    refine ⟨v + (k : Int) / ((n :: t).length : Int) * 104729, run_ret ((seq_ok (τ1 := [some (.ref 0), some (.int k)]) (h1 := h ++ [.lst []]) ((if_ok (te _ hb)).trans rfl)).trans ?_)⟩
    have ll : (fCB gLen (aCons (fVar 0) aNil)) [some (.ref 0), some (.int k)] (h ++ [.lst []]) = .ok (.int (n :: t).length) (h ++ [.lst []]) := (cb_ok (cons_ok (var_ok rfl) nil_ok)).trans gl
    refine ret_ok ((op_ok ((op_ok (var_ok rfl) ((op_ok (var_ok rfl) ll).trans (mod_p p0))).trans (ix_ok l0 hv)) ((op_ok ((op_ok (var_ok rfl) ll).trans (div_p ⟨p0, p1⟩)) c_ok).trans (mul_c (by decide)))).trans rfl)
/-- the dice of the rounds lie on the heap -/
def Dice (ds : List Nat) (h : VH) : Prop := h[1]? = some (.lst (ds.map PV.ref)) ∧ ∀ d ∈ ds, d ≠ 1 ∧ ∃ c j, h[d]? = some (.lst [.int c, .int j])
theorem Dice.ext {ds : List Nat} (D : Dice ds h) (e : VH) : Dice ds (h ++ e) := ⟨at_pre e D.1, fun d hd => ⟨(D.2 d hd).1, let ⟨c, j, q⟩ := (D.2 d hd).2; ⟨c, j, at_pre e q⟩⟩⟩
theorem Dice.fr {ds : List Nat} {d : Nat} {h h' : VH} (D : Dice ds h) (hd : d ∈ ds) (F : FrD d h h') : Dice ds h' := by
  refine ⟨F.1 1 _ (fun z => (D.2 d hd).1 z.symm) D.1, fun e he => ⟨(D.2 e he).1, ?_⟩⟩
  by_cases q : e = d
  · subst q; exact F.2
  · obtain ⟨c, j, z⟩ := (D.2 e he).2
    exact ⟨c, j, F.1 e _ q z⟩
theorem rounds_comp {ns : List Int} {n : Nat} (hn : n ≤ 5) (hl : ns.length ≤ 63) : ∀ (m i : Nat) (ds : List Nat) (τ : Tau) (h : VH), n - i < m → ds.length = i → (∃ t, τ = [t, some (.ref 0)]) → h[0]? = some (.scr ns) → Dice ds h →
    ∃ ds' h', ds'.length = max n i ∧ Dice ds' h' ∧ compF (srcR 0 n) (gN 0) tYes (fLst (aCons (fCall F__law_cell 2 (aCons (fVar 1) (aCons (fVar 0) aNil))) (aCons (fC (.int 0)) aNil))) 1 m i τ h = .ok () h'
  | 0, i, ds, τ, h, hm, _, _, _, _ => by omega
  | m + 1, i, ds, τ, h, hm, hd, hτ, h0, D => by
    obtain ⟨t, rfl⟩ := hτ
    unfold compF
    have hsrc : srcR 0 n i h = some (if i < n then some (.int (0 + i)) else none) := rfl
    rw [hsrc]
    by_cases hi : i < n
    · simp only [if_pos hi, gN, tYes, M.ret, List.set_cons_zero, Int.zero_add]
      obtain ⟨c, hc⟩ := cell_ok (k := i) (by omega) hl h0
      have e : (fLst (aCons (fCall F__law_cell 2 (aCons (fVar 1) (aCons (fVar 0) aNil))) (aCons (fC (.int 0)) aNil))) [some (.int i), some (.ref 0)] h = .ok (.ref (h ++ [VO.lst []]).length) (h ++ [.lst []] ++ [.lst [.int c, .int 0]]) :=
        lst_ok (cons_ok ((call_ok (cons_ok (var_ok rfl) (cons_ok (var_ok rfl) nil_ok)) rfl).trans hc) (cons_ok c_ok nil_ok)) (show 2 ≤ big by decide)
      rw [e]
      have D1 : Dice ds (h ++ [.lst []] ++ [.lst [.int c, .int 0]]) := (D.ext _).ext _
      simp only [D1.1]
      have hlt : 1 < h.length := (List.getElem?_eq_some_iff.mp D.1).1
      rw [if_pos (by rw [List.length_map, hd]; unfold big; omega)]
      generalize hH : h ++ [VO.lst []] ++ [VO.lst [.int c, .int 0]] = H at *
      have hlen : (h ++ [VO.lst []]).length < H.length := by rw [← hH]; simp
      have hat : H[(h ++ [VO.lst []]).length]? = some (.lst [.int c, .int 0]) := by rw [← hH]; exact at_end _ _ []
      have hne : (h ++ [VO.lst []]).length ≠ 1 := by rw [List.length_append]; show h.length + 1 ≠ 1; omega
      have D2 : Dice (ds ++ [(h ++ [VO.lst []]).length]) (H.set 1 (.lst (ds.map PV.ref ++ [.ref (h ++ [VO.lst []]).length]))) := by
        refine ⟨by rw [set_at D1.1]; simp, fun d hd => ?_⟩
        rw [List.mem_append] at hd
        rcases hd with hd | hd
        · obtain ⟨n1, c', j', q⟩ := D1.2 d hd
          exact ⟨n1, c', j', by rw [List.getElem?_set_ne (fun z => n1 z.symm)]; exact q⟩
        · rw [List.mem_singleton] at hd
          subst hd
          exact ⟨hne, c, 0, by rw [List.getElem?_set_ne (fun z => hne z.symm)]; exact hat⟩
      have h0' : (H.set 1 (.lst (ds.map PV.ref ++ [.ref (h ++ [VO.lst []]).length])))[0]? = some (.scr ns) := by
        rw [List.getElem?_set_ne (by decide), ← hH]; exact at_pre _ (at_pre _ h0)
      obtain ⟨ds', h', l', D', e'⟩ := rounds_comp hn hl m (i + 1) (ds ++ [(h ++ [VO.lst []]).length]) [some (.int i), some (.ref 0)] _ (by omega) (by simp [hd]) ⟨_, rfl⟩ h0' D2
      exact ⟨ds', h', by omega, D', e'⟩
    · simp only [if_neg hi]
      exact ⟨ds, h, by omega, D, rfl⟩
theorem rounds_ok {ns : List Int} (hl : ns.length ≤ 63) : ∃ ds h', ds.length ≤ 5 ∧ Dice ds h' ∧ F__law_rounds [.ref 0, .int 5] [.scr ns] = .ok (.ref 1) h' := by
  have hmn : ∃ n : Nat, n ≤ 5 ∧ (fCB gMax (aCons (fC (.int 1)) (aCons (fCB gMin (aCons (fVar 1) (aCons (fCB gLen (aCons (fVar 0) aNil)) aNil))) aNil))) [some (.ref 0), some (.int 5)] [.scr ns] = .ok (.int n) [.scr ns] := by
    have gl : gLen [.ref 0] [.scr ns] = .ok (.int ns.length) [.scr ns] := by
      unfold gLen; simp only [show lsOf [.scr ns] 0 = some (ns.map PV.int) from rfl, List.length_map]
    have e : (fCB gMax (aCons (fC (.int 1)) (aCons (fCB gMin (aCons (fVar 1) (aCons (fCB gLen (aCons (fVar 0) aNil)) aNil))) aNil))) [some (.ref 0), some (.int 5)] [.scr ns] = .ok (.int (if (if (ns.length : Int) < 5 then (ns.length : Int) else 5) > 1 then (if (ns.length : Int) < 5 then (ns.length : Int) else 5) else 1)) [.scr ns] :=
      (cb_ok (cons_ok c_ok (cons_ok ((cb_ok (cons_ok (var_ok rfl) (cons_ok ((cb_ok (cons_ok (var_ok rfl) nil_ok)).trans gl) nil_ok))).trans rfl) nil_ok))).trans rfl
    refine ⟨(if (if (ns.length : Int) < 5 then (ns.length : Int) else 5) > 1 then (if (ns.length : Int) < 5 then (ns.length : Int) else 5) else 1).toNat, ?_, ?_⟩
    · split <;> split <;> omega
    · rw [e]
      congr 2
      split <;> split <;> omega
  obtain ⟨n, hn, e⟩ := hmn
  obtain ⟨ds, h', l', D', e'⟩ := rounds_comp (n := n) hn hl (n + 1) 0 [] [none, some (.ref 0)] [.scr ns, .lst []] (by omega) rfl ⟨_, rfl⟩ rfl ⟨rfl, fun d hd => by cases hd⟩
  refine ⟨ds, h', by omega, D', run_ret (ret_ok ?_)⟩
  unfold fCompR
  refine (bind_ok (cons_ok e nil_ok)).trans ?_
  simp only []
  rw [if_pos (by constructor <;> omega)]
  have e2 : startC 1 [0] (FS.startT N__law_rounds [.ref 0, .int 5]) = [none, some (.ref 0)] := rfl
  rw [e2]
  simp only [Int.toNat_natCast]
  have e3 : ([.scr ns] : VH).length = 1 := rfl
  rw [e3]
  have e4 : ([VO.scr ns] ++ [VO.lst []] : VH) = [.scr ns, .lst []] := rfl
  rw [e4]
  rw [e']
end
end K10

set_option Elab.async false
set_option linter.all false
set_option maxRecDepth 100000
set_option maxHeartbeats 4000000
set_option exponentiation.threshold 500
namespace K10
open PySem PySem.Spec PyProof.Rows L2 FX FS
section
variable {h0 h : VH} {τ : Tau}
/-- a text, as far as is_word looks -/
def okS (x : Str) : Prop := asc x = true ∧ x.length ≤ big
theorem W_of {x : Str} {b : Bool} (h : okS x) (e : isW x = b) : Ev h0 (F_is_word [.str x]) (.bl b) := by rw [← e]; exact W_str h.1 h.2
abbrev st0 (s0 dd : Option PV) (k t o : Str) (x5 x6 x7 x8 x9 : Option PV) : Tau := [s0, dd, some (.str k), some (.str t), some (.str o), x5, x6, x7, x8, x9]
abbrev nm (k t o : Str) : PV := .tup [.str k, .str t, .str o]
structure Nm (k t o x : Str) : Prop where
  kd : ∀ h, F_is_kind [.str k] h = .ok (.bl true) h
  st : okS t
  wt : isW t = true
  so : okS o
  wo : isW o = true
  tx : ∀ (s0 dd x5 x6 x7 x8 x9 : Option PV) (h : VH), g_law_2 (st0 s0 dd k t o x5 x6 x7 x8 x9) h = .next (st0 s0 dd k t o x5 (some (.str x)) x7 x8 x9) h
  nt : ∀ h, (sSeq (sAsg (fIf (fB (fOp gEq (fVar 1) (fC (.str "group")))) (fC (.str "#")) (fC (.str ""))) (gN 4)) (sRet (fJoin (jCons (fStr (fVar 4)) (jCons (fStr (fVar 2)) (jCons (fC (.str "@")) (jCons (fStr (fVar 3)) jNil))))))) [some (nm k t o), some (.str k), some (.str t), some (.str o), none] h = .ret (.str x) h
  rn : ∃ r, ∀ h, rn_pre [some (.str x), none, none, none, none, none, none] h = .next [some (.str x), some (.str k), some (.str r), some (.str t), some (.str "@"), some (.str o), some (nm k t o)] h
theorem n_one_ann_oak : Nm "one" "ann" "oak" "ann@oak" := ⟨fun h => by kernel_rfl, ⟨by decide +kernel, by decide +kernel⟩, by decide +kernel, ⟨by decide +kernel, by decide +kernel⟩, by decide +kernel, fun s0 dd x5 x6 x7 x8 x9 h => by kernel_rfl, fun h => by kernel_rfl, "ann@oak", fun h => by kernel_rfl⟩
theorem n_one_ann_elm : Nm "one" "ann" "elm" "ann@elm" := ⟨fun h => by kernel_rfl, ⟨by decide +kernel, by decide +kernel⟩, by decide +kernel, ⟨by decide +kernel, by decide +kernel⟩, by decide +kernel, fun s0 dd x5 x6 x7 x8 x9 h => by kernel_rfl, fun h => by kernel_rfl, "ann@elm", fun h => by kernel_rfl⟩
theorem n_one_ann_ash : Nm "one" "ann" "ash" "ann@ash" := ⟨fun h => by kernel_rfl, ⟨by decide +kernel, by decide +kernel⟩, by decide +kernel, ⟨by decide +kernel, by decide +kernel⟩, by decide +kernel, fun s0 dd x5 x6 x7 x8 x9 h => by kernel_rfl, fun h => by kernel_rfl, "ann@ash", fun h => by kernel_rfl⟩
theorem n_one_ann_x1 : Nm "one" "ann" "x1" "ann@x1" := ⟨fun h => by kernel_rfl, ⟨by decide +kernel, by decide +kernel⟩, by decide +kernel, ⟨by decide +kernel, by decide +kernel⟩, by decide +kernel, fun s0 dd x5 x6 x7 x8 x9 h => by kernel_rfl, fun h => by kernel_rfl, "ann@x1", fun h => by kernel_rfl⟩
theorem n_one_bob_oak : Nm "one" "bob" "oak" "bob@oak" := ⟨fun h => by kernel_rfl, ⟨by decide +kernel, by decide +kernel⟩, by decide +kernel, ⟨by decide +kernel, by decide +kernel⟩, by decide +kernel, fun s0 dd x5 x6 x7 x8 x9 h => by kernel_rfl, fun h => by kernel_rfl, "bob@oak", fun h => by kernel_rfl⟩
theorem n_one_bob_elm : Nm "one" "bob" "elm" "bob@elm" := ⟨fun h => by kernel_rfl, ⟨by decide +kernel, by decide +kernel⟩, by decide +kernel, ⟨by decide +kernel, by decide +kernel⟩, by decide +kernel, fun s0 dd x5 x6 x7 x8 x9 h => by kernel_rfl, fun h => by kernel_rfl, "bob@elm", fun h => by kernel_rfl⟩
theorem n_one_bob_ash : Nm "one" "bob" "ash" "bob@ash" := ⟨fun h => by kernel_rfl, ⟨by decide +kernel, by decide +kernel⟩, by decide +kernel, ⟨by decide +kernel, by decide +kernel⟩, by decide +kernel, fun s0 dd x5 x6 x7 x8 x9 h => by kernel_rfl, fun h => by kernel_rfl, "bob@ash", fun h => by kernel_rfl⟩
theorem n_one_bob_x1 : Nm "one" "bob" "x1" "bob@x1" := ⟨fun h => by kernel_rfl, ⟨by decide +kernel, by decide +kernel⟩, by decide +kernel, ⟨by decide +kernel, by decide +kernel⟩, by decide +kernel, fun s0 dd x5 x6 x7 x8 x9 h => by kernel_rfl, fun h => by kernel_rfl, "bob@x1", fun h => by kernel_rfl⟩
theorem n_one_crew_oak : Nm "one" "crew" "oak" "crew@oak" := ⟨fun h => by kernel_rfl, ⟨by decide +kernel, by decide +kernel⟩, by decide +kernel, ⟨by decide +kernel, by decide +kernel⟩, by decide +kernel, fun s0 dd x5 x6 x7 x8 x9 h => by kernel_rfl, fun h => by kernel_rfl, "crew@oak", fun h => by kernel_rfl⟩
theorem n_one_crew_elm : Nm "one" "crew" "elm" "crew@elm" := ⟨fun h => by kernel_rfl, ⟨by decide +kernel, by decide +kernel⟩, by decide +kernel, ⟨by decide +kernel, by decide +kernel⟩, by decide +kernel, fun s0 dd x5 x6 x7 x8 x9 h => by kernel_rfl, fun h => by kernel_rfl, "crew@elm", fun h => by kernel_rfl⟩
theorem n_one_crew_ash : Nm "one" "crew" "ash" "crew@ash" := ⟨fun h => by kernel_rfl, ⟨by decide +kernel, by decide +kernel⟩, by decide +kernel, ⟨by decide +kernel, by decide +kernel⟩, by decide +kernel, fun s0 dd x5 x6 x7 x8 x9 h => by kernel_rfl, fun h => by kernel_rfl, "crew@ash", fun h => by kernel_rfl⟩
theorem n_one_crew_x1 : Nm "one" "crew" "x1" "crew@x1" := ⟨fun h => by kernel_rfl, ⟨by decide +kernel, by decide +kernel⟩, by decide +kernel, ⟨by decide +kernel, by decide +kernel⟩, by decide +kernel, fun s0 dd x5 x6 x7 x8 x9 h => by kernel_rfl, fun h => by kernel_rfl, "crew@x1", fun h => by kernel_rfl⟩
theorem n_one_longword_oak : Nm "one" "longword" "oak" "longword@oak" := ⟨fun h => by kernel_rfl, ⟨by decide +kernel, by decide +kernel⟩, by decide +kernel, ⟨by decide +kernel, by decide +kernel⟩, by decide +kernel, fun s0 dd x5 x6 x7 x8 x9 h => by kernel_rfl, fun h => by kernel_rfl, "longword@oak", fun h => by kernel_rfl⟩
theorem n_one_longword_elm : Nm "one" "longword" "elm" "longword@elm" := ⟨fun h => by kernel_rfl, ⟨by decide +kernel, by decide +kernel⟩, by decide +kernel, ⟨by decide +kernel, by decide +kernel⟩, by decide +kernel, fun s0 dd x5 x6 x7 x8 x9 h => by kernel_rfl, fun h => by kernel_rfl, "longword@elm", fun h => by kernel_rfl⟩
theorem n_one_longword_ash : Nm "one" "longword" "ash" "longword@ash" := ⟨fun h => by kernel_rfl, ⟨by decide +kernel, by decide +kernel⟩, by decide +kernel, ⟨by decide +kernel, by decide +kernel⟩, by decide +kernel, fun s0 dd x5 x6 x7 x8 x9 h => by kernel_rfl, fun h => by kernel_rfl, "longword@ash", fun h => by kernel_rfl⟩
theorem n_one_longword_x1 : Nm "one" "longword" "x1" "longword@x1" := ⟨fun h => by kernel_rfl, ⟨by decide +kernel, by decide +kernel⟩, by decide +kernel, ⟨by decide +kernel, by decide +kernel⟩, by decide +kernel, fun s0 dd x5 x6 x7 x8 x9 h => by kernel_rfl, fun h => by kernel_rfl, "longword@x1", fun h => by kernel_rfl⟩
theorem n_group_ann_oak : Nm "group" "ann" "oak" "#ann@oak" := ⟨fun h => by kernel_rfl, ⟨by decide +kernel, by decide +kernel⟩, by decide +kernel, ⟨by decide +kernel, by decide +kernel⟩, by decide +kernel, fun s0 dd x5 x6 x7 x8 x9 h => by kernel_rfl, fun h => by kernel_rfl, "ann@oak", fun h => by kernel_rfl⟩
theorem n_group_ann_elm : Nm "group" "ann" "elm" "#ann@elm" := ⟨fun h => by kernel_rfl, ⟨by decide +kernel, by decide +kernel⟩, by decide +kernel, ⟨by decide +kernel, by decide +kernel⟩, by decide +kernel, fun s0 dd x5 x6 x7 x8 x9 h => by kernel_rfl, fun h => by kernel_rfl, "ann@elm", fun h => by kernel_rfl⟩
theorem n_group_ann_ash : Nm "group" "ann" "ash" "#ann@ash" := ⟨fun h => by kernel_rfl, ⟨by decide +kernel, by decide +kernel⟩, by decide +kernel, ⟨by decide +kernel, by decide +kernel⟩, by decide +kernel, fun s0 dd x5 x6 x7 x8 x9 h => by kernel_rfl, fun h => by kernel_rfl, "ann@ash", fun h => by kernel_rfl⟩
theorem n_group_ann_x1 : Nm "group" "ann" "x1" "#ann@x1" := ⟨fun h => by kernel_rfl, ⟨by decide +kernel, by decide +kernel⟩, by decide +kernel, ⟨by decide +kernel, by decide +kernel⟩, by decide +kernel, fun s0 dd x5 x6 x7 x8 x9 h => by kernel_rfl, fun h => by kernel_rfl, "ann@x1", fun h => by kernel_rfl⟩
theorem n_group_bob_oak : Nm "group" "bob" "oak" "#bob@oak" := ⟨fun h => by kernel_rfl, ⟨by decide +kernel, by decide +kernel⟩, by decide +kernel, ⟨by decide +kernel, by decide +kernel⟩, by decide +kernel, fun s0 dd x5 x6 x7 x8 x9 h => by kernel_rfl, fun h => by kernel_rfl, "bob@oak", fun h => by kernel_rfl⟩
theorem n_group_bob_elm : Nm "group" "bob" "elm" "#bob@elm" := ⟨fun h => by kernel_rfl, ⟨by decide +kernel, by decide +kernel⟩, by decide +kernel, ⟨by decide +kernel, by decide +kernel⟩, by decide +kernel, fun s0 dd x5 x6 x7 x8 x9 h => by kernel_rfl, fun h => by kernel_rfl, "bob@elm", fun h => by kernel_rfl⟩
theorem n_group_bob_ash : Nm "group" "bob" "ash" "#bob@ash" := ⟨fun h => by kernel_rfl, ⟨by decide +kernel, by decide +kernel⟩, by decide +kernel, ⟨by decide +kernel, by decide +kernel⟩, by decide +kernel, fun s0 dd x5 x6 x7 x8 x9 h => by kernel_rfl, fun h => by kernel_rfl, "bob@ash", fun h => by kernel_rfl⟩
theorem n_group_bob_x1 : Nm "group" "bob" "x1" "#bob@x1" := ⟨fun h => by kernel_rfl, ⟨by decide +kernel, by decide +kernel⟩, by decide +kernel, ⟨by decide +kernel, by decide +kernel⟩, by decide +kernel, fun s0 dd x5 x6 x7 x8 x9 h => by kernel_rfl, fun h => by kernel_rfl, "bob@x1", fun h => by kernel_rfl⟩
theorem n_group_crew_oak : Nm "group" "crew" "oak" "#crew@oak" := ⟨fun h => by kernel_rfl, ⟨by decide +kernel, by decide +kernel⟩, by decide +kernel, ⟨by decide +kernel, by decide +kernel⟩, by decide +kernel, fun s0 dd x5 x6 x7 x8 x9 h => by kernel_rfl, fun h => by kernel_rfl, "crew@oak", fun h => by kernel_rfl⟩
theorem n_group_crew_elm : Nm "group" "crew" "elm" "#crew@elm" := ⟨fun h => by kernel_rfl, ⟨by decide +kernel, by decide +kernel⟩, by decide +kernel, ⟨by decide +kernel, by decide +kernel⟩, by decide +kernel, fun s0 dd x5 x6 x7 x8 x9 h => by kernel_rfl, fun h => by kernel_rfl, "crew@elm", fun h => by kernel_rfl⟩
theorem n_group_crew_ash : Nm "group" "crew" "ash" "#crew@ash" := ⟨fun h => by kernel_rfl, ⟨by decide +kernel, by decide +kernel⟩, by decide +kernel, ⟨by decide +kernel, by decide +kernel⟩, by decide +kernel, fun s0 dd x5 x6 x7 x8 x9 h => by kernel_rfl, fun h => by kernel_rfl, "crew@ash", fun h => by kernel_rfl⟩
theorem n_group_crew_x1 : Nm "group" "crew" "x1" "#crew@x1" := ⟨fun h => by kernel_rfl, ⟨by decide +kernel, by decide +kernel⟩, by decide +kernel, ⟨by decide +kernel, by decide +kernel⟩, by decide +kernel, fun s0 dd x5 x6 x7 x8 x9 h => by kernel_rfl, fun h => by kernel_rfl, "crew@x1", fun h => by kernel_rfl⟩
theorem n_group_longword_oak : Nm "group" "longword" "oak" "#longword@oak" := ⟨fun h => by kernel_rfl, ⟨by decide +kernel, by decide +kernel⟩, by decide +kernel, ⟨by decide +kernel, by decide +kernel⟩, by decide +kernel, fun s0 dd x5 x6 x7 x8 x9 h => by kernel_rfl, fun h => by kernel_rfl, "longword@oak", fun h => by kernel_rfl⟩
theorem n_group_longword_elm : Nm "group" "longword" "elm" "#longword@elm" := ⟨fun h => by kernel_rfl, ⟨by decide +kernel, by decide +kernel⟩, by decide +kernel, ⟨by decide +kernel, by decide +kernel⟩, by decide +kernel, fun s0 dd x5 x6 x7 x8 x9 h => by kernel_rfl, fun h => by kernel_rfl, "longword@elm", fun h => by kernel_rfl⟩
theorem n_group_longword_ash : Nm "group" "longword" "ash" "#longword@ash" := ⟨fun h => by kernel_rfl, ⟨by decide +kernel, by decide +kernel⟩, by decide +kernel, ⟨by decide +kernel, by decide +kernel⟩, by decide +kernel, fun s0 dd x5 x6 x7 x8 x9 h => by kernel_rfl, fun h => by kernel_rfl, "longword@ash", fun h => by kernel_rfl⟩
theorem n_group_longword_x1 : Nm "group" "longword" "x1" "#longword@x1" := ⟨fun h => by kernel_rfl, ⟨by decide +kernel, by decide +kernel⟩, by decide +kernel, ⟨by decide +kernel, by decide +kernel⟩, by decide +kernel, fun s0 dd x5 x6 x7 x8 x9 h => by kernel_rfl, fun h => by kernel_rfl, "longword@x1", fun h => by kernel_rfl⟩
theorem nm_of {k t o : PV} (hk : k ∈ wsK) (ht : t ∈ wsT) (ho : o ∈ wsH) : ∃ k' t' o' x, k = .str k' ∧ t = .str t' ∧ o = .str o' ∧ Nm k' t' o' x := by
  simp only [wsK, wsT, wsH, List.mem_cons, List.not_mem_nil, or_false] at hk ht ho
  rcases hk with rfl | rfl <;> rcases ht with rfl | rfl | rfl | rfl <;> rcases ho with rfl | rfl | rfl | rfl
  · exact ⟨_, _, _, _, rfl, rfl, rfl, n_one_ann_oak⟩
  · exact ⟨_, _, _, _, rfl, rfl, rfl, n_one_ann_elm⟩
  · exact ⟨_, _, _, _, rfl, rfl, rfl, n_one_ann_ash⟩
  · exact ⟨_, _, _, _, rfl, rfl, rfl, n_one_ann_x1⟩
  · exact ⟨_, _, _, _, rfl, rfl, rfl, n_one_bob_oak⟩
  · exact ⟨_, _, _, _, rfl, rfl, rfl, n_one_bob_elm⟩
  · exact ⟨_, _, _, _, rfl, rfl, rfl, n_one_bob_ash⟩
  · exact ⟨_, _, _, _, rfl, rfl, rfl, n_one_bob_x1⟩
  · exact ⟨_, _, _, _, rfl, rfl, rfl, n_one_crew_oak⟩
  · exact ⟨_, _, _, _, rfl, rfl, rfl, n_one_crew_elm⟩
  · exact ⟨_, _, _, _, rfl, rfl, rfl, n_one_crew_ash⟩
  · exact ⟨_, _, _, _, rfl, rfl, rfl, n_one_crew_x1⟩
  · exact ⟨_, _, _, _, rfl, rfl, rfl, n_one_longword_oak⟩
  · exact ⟨_, _, _, _, rfl, rfl, rfl, n_one_longword_elm⟩
  · exact ⟨_, _, _, _, rfl, rfl, rfl, n_one_longword_ash⟩
  · exact ⟨_, _, _, _, rfl, rfl, rfl, n_one_longword_x1⟩
  · exact ⟨_, _, _, _, rfl, rfl, rfl, n_group_ann_oak⟩
  · exact ⟨_, _, _, _, rfl, rfl, rfl, n_group_ann_elm⟩
  · exact ⟨_, _, _, _, rfl, rfl, rfl, n_group_ann_ash⟩
  · exact ⟨_, _, _, _, rfl, rfl, rfl, n_group_ann_x1⟩
  · exact ⟨_, _, _, _, rfl, rfl, rfl, n_group_bob_oak⟩
  · exact ⟨_, _, _, _, rfl, rfl, rfl, n_group_bob_elm⟩
  · exact ⟨_, _, _, _, rfl, rfl, rfl, n_group_bob_ash⟩
  · exact ⟨_, _, _, _, rfl, rfl, rfl, n_group_bob_x1⟩
  · exact ⟨_, _, _, _, rfl, rfl, rfl, n_group_crew_oak⟩
  · exact ⟨_, _, _, _, rfl, rfl, rfl, n_group_crew_elm⟩
  · exact ⟨_, _, _, _, rfl, rfl, rfl, n_group_crew_ash⟩
  · exact ⟨_, _, _, _, rfl, rfl, rfl, n_group_crew_x1⟩
  · exact ⟨_, _, _, _, rfl, rfl, rfl, n_group_longword_oak⟩
  · exact ⟨_, _, _, _, rfl, rfl, rfl, n_group_longword_elm⟩
  · exact ⟨_, _, _, _, rfl, rfl, rfl, n_group_longword_ash⟩
  · exact ⟨_, _, _, _, rfl, rfl, rfl, n_group_longword_x1⟩
end
end K10

set_option Elab.async false
set_option linter.all false
set_option maxRecDepth 100000
set_option maxHeartbeats 4000000
set_option exponentiation.threshold 500
namespace K10
open PySem PySem.Spec PyProof.Rows L2 FX FS
section
variable {h0 h : VH} {τ : Tau}
theorem N_good {k t o x : Str} (N : Nm k t o x) : Ev h0 (F_is_name [nm k t o]) (.bl true) := N_tup (p := true) (q := true) (r := true) (.pure N.kd) (W_of N.st N.wt) (W_of N.so N.wo)
theorem ne_str {x : Str} : Ev h0 (gNe (.str x) (.str x)) (.bl false) := .pure fun h => by
  unfold gNe eqF
  simp only [kd, feq, beq_self_eq_true]
  rfl
theorem ne_nm {k t o : Str} : Ev h0 (gNe (nm k t o) (nm k t o)) (.bl false) := .pure fun h => by
  unfold gNe
  simp only [eqF, eqsF, kd, feq, beq_self_eq_true]
  rfl
theorem isNot {a b : Bool} : Ev h0 (gIsNot (.bl a) (.bl b)) (.bl (a != b)) := .pure fun h => rfl
section
variable {s0 dd x5 x6 x7 x8 x9 : Option PV} {k t o x : Str}
theorem law3_ok (N : Nm k t o x) : Sn h0 g_law_3 (st0 s0 dd k t o (some (nm k t o)) (some (.str x)) x7 x8 x9) (st0 s0 dd k t o (some (nm k t o)) (some (.str x)) x7 x8 x9) := by
  obtain ⟨r, hr⟩ := N.rn
  exact Sn.iff (Ev.tor (k := false) (l := false) (Ev.b (Ev.op (Ev.call (.cons (.var rfl) .nil) rfl (N_good N)) .c isNot)) fun _ => Ev.tor (k := false) (l := false) (Ev.b (Ev.op (Ev.call (.cons (.var rfl) .nil) rfl (T_good (N_good N) N.nt)) (.var rfl) ne_str)) fun _ => Ev.b (Ev.op (Ev.call (.cons (.var rfl) .nil) rfl (R_good hr (N_good N))) (.var rfl) ne_nm)) .nx
theorem law4_ok (N : Nm k t o x) : Sn h0 g_law_4 (st0 s0 dd k t o x5 x6 x7 x8 x9) (st0 s0 dd k t o x5 x6 x7 x8 x9) :=
  Sn.iff (Ev.b (Ev.op (Ev.call (.cons (.var rfl) .nil) rfl (W_of N.st N.wt)) .c isNot)) .nx
end
/-- a loop whose turns tell nothing and only add -/
theorem loop_all {l : Nat} {xs : List PV} {body : FSt} {T : Option PV → Tau} (hT : ∀ w v, (T w).set 8 (some v) = T (some v)) (hx : lsOf h0 l = some xs) (hb : ∀ v ∈ xs, Sn h0 body (T (some v)) (T (some v))) :
    ∀ (n i : Nat) (w : Option PV) (e0 : VH), xs.length - i < n → ∃ e w', loopF (srcL l) (gN 8) body n i (T w) (h0 ++ e0) = .next (T w') (h0 ++ e0 ++ e)
  | 0, i, w, e0, hn => by omega
  | n + 1, i, w, e0, hn => by
    unfold loopF
    have hs : srcL l i (h0 ++ e0) = some xs[i]? := by unfold srcL; rw [ls_pre e0 hx]
    rw [hs]
    cases e : xs[i]? with
    | none => exact ⟨[], w, by simp⟩
    | some v =>
      obtain ⟨e1, q1⟩ := hb v (List.mem_of_getElem? e) e0
      have hi := (List.getElem?_eq_some_iff.mp e).1
      simp only [gN, hT]
      rw [q1]
      obtain ⟨e2, w', q2⟩ := loop_all hT hx hb n (i + 1) (some v) (e0 ++ e1) (by omega)
      refine ⟨e1 ++ e2, w', ?_⟩
      simpa [List.append_assoc] using q2
theorem for_all {l m : Nat} {xs : List PV} {body : FSt} {T : Option PV → Tau} (hT : ∀ w v, (T w).set 8 (some v) = T (some v)) (hx : lsOf h0 l = some xs) (hm : ∀ w, (T w)[m]? = some (some (.ref l))) (hb : ∀ v ∈ xs, Sn h0 body (T (some v)) (T (some v))) (w : Option PV) :
    ∃ e w', sForL (fVar m) (gN 8) body (T w) h0 = .next (T w') (h0 ++ e) := by
  have ln : lenL h0 l = xs.length := by unfold lenL; rw [hx]
  obtain ⟨e, w', q⟩ := loop_all hT hx hb (xs.length + 1) 0 w [] (by omega)
  refine ⟨e, w', ?_⟩
  unfold sForL
  rw [var_ok (hm w)]
  simp only [ln]
  simpa using q
abbrev badL : List PV := [.non, .int 5, .bl true, .str "", .str "A", .str "abcdefghi", .str "a b", .str "a@b", .tup [.str "a"], .str "#a", .str "a-b"]
theorem bad_word : ∀ v ∈ badL, Ev h0 (F_is_word [v]) (.bl false) := by
  intro v hv
  simp only [badL, List.mem_cons, List.not_mem_nil, or_false] at hv
  rcases hv with rfl | rfl | rfl | rfl | rfl | rfl | rfl | rfl | rfl | rfl | rfl
  · exact .pure fun h => rfl
  · exact .pure fun h => rfl
  · exact .pure fun h => rfl
  · exact W_of ⟨by decide +kernel, by decide +kernel⟩ (by decide +kernel)
  · exact W_of ⟨by decide +kernel, by decide +kernel⟩ (by decide +kernel)
  · exact W_of ⟨by decide +kernel, by decide +kernel⟩ (by decide +kernel)
  · exact W_of ⟨by decide +kernel, by decide +kernel⟩ (by decide +kernel)
  · exact W_of ⟨by decide +kernel, by decide +kernel⟩ (by decide +kernel)
  · exact .pure fun h => rfl
  · exact W_of ⟨by decide +kernel, by decide +kernel⟩ (by decide +kernel)
  · exact W_of ⟨by decide +kernel, by decide +kernel⟩ (by decide +kernel)
section
variable {s0 dd : Option PV} {k t o x : Str}
theorem kd_one : Ev h0 (F_is_kind [.str "one"]) (.bl true) := .pure fun h => by kernel_rfl
theorem kd_group : Ev h0 (F_is_kind [.str "group"]) (.bl true) := .pure fun h => by kernel_rfl
theorem kd_One : Ev h0 (F_is_kind [.str "One"]) (.bl false) := .pure fun h => by kernel_rfl
theorem kd_nil : Ev h0 (F_is_kind [.str ""]) (.bl false) := .pure fun h => by kernel_rfl
theorem kd_non : Ev h0 (F_is_kind [.non]) (.bl false) := .pure fun h => by kernel_rfl
theorem law5_ok {x5 x6 x7 x8 x9 : Option PV} : g_law_5 (st0 s0 dd k t o x5 x6 x7 x8 x9) h = .next (st0 s0 dd k t o x5 x6 (some (.ref h.length)) x8 x9) (h ++ [.lst badL]) := rfl
theorem law6_ok (N : Nm k t o x) {l : Nat} {x5 x6 x9 : Option PV} (hl : h0[l]? = some (.lst badL)) (w : Option PV) : ∃ e w', g_law_6 (st0 s0 dd k t o x5 x6 (some (.ref l)) w x9) h0 = .next (st0 s0 dd k t o x5 x6 (some (.ref l)) w' x9) (h0 ++ e) :=
  for_all (T := fun w => st0 s0 dd k t o x5 x6 (some (.ref l)) w x9) (fun _ _ => rfl) (ls_at hl) (fun _ => rfl) (fun v hv => Sn.seq
    (Sn.iff (Ev.tor (k := false) (l := false) (Ev.b (Ev.op (Ev.call (xs := [v]) (.cons (.var rfl) .nil) rfl (bad_word v hv)) .c (isNot (a := false) (b := false)))) fun _ => Ev.b (Ev.op (Ev.call (xs := [.tup [.str "one", v, .str o]]) (.cons (.tup (.cons .c (.cons (.var rfl) (.cons (.var rfl) .nil))) (show 3 ≤ big by decide)) .nil) rfl (N_tup (p := true) (q := false) (r := true) kd_one (bad_word v hv) (W_of N.so N.wo))) .c (isNot (a := false) (b := false)))) .nx)
    (Sn.iff (Ev.b (Ev.op (Ev.call (xs := [.tup [.str k, .str t, v]]) (.cons (.tup (.cons (.var rfl) (.cons (.var rfl) (.cons (.var rfl) .nil))) (show 3 ≤ big by decide)) .nil) rfl (N_tup (p := true) (q := true) (r := false) (.pure N.kd) (W_of N.st N.wt) (bad_word v hv))) .c (isNot (a := false) (b := false)))) .nx)) w
abbrev cs1 (k t o x : Str) (p : Nat) : List PV := [.non, .int 5, .str x, .tup [], .tup [.str k, .str t], .tup [.str k, .str t, .str o, .str "a"], .ref p, .tup [.str "One", .str t, .str o]]
abbrev cs2 (k t o x : Str) (p : Nat) : List PV := [.non, .int 5, .str x, .tup [], .tup [.str k, .str t], .tup [.str k, .str t, .str o, .str "a"], .ref p, .tup [.str "One", .str t, .str o], .tup [.non, .str t, .str o], .tup [.str "", .str t, .str o]]
theorem law7_ok {x7 x8 x9 : Option PV} : g_law_7 (st0 s0 dd k t o (some (nm k t o)) (some (.str x)) x7 x8 x9) h = .next (st0 s0 dd k t o (some (nm k t o)) (some (.str x)) x7 x8 (some (.ref (h ++ [VO.lst [.str k, .str t, .str o]]).length))) (h ++ [.lst [.str k, .str t, .str o]] ++ [.lst (cs1 k t o x h.length)]) := rfl
theorem cat_ok {i : Nat} {xs ys : List PV} (hi : h[i]? = some (.lst xs)) (hb : xs.length + ys.length ≤ big) : gPlus (.ref i) (.ref h.length) (h ++ [.lst ys]) = .ok (.ref (h ++ [VO.lst ys]).length) (h ++ [.lst ys] ++ [.lst (xs ++ ys)]) := by
  simp only [gPlus, at_pre [VO.lst ys] hi, at_end h (.lst ys) []]
  rw [if_pos hb]
  rfl
theorem law8_ok {p i : Nat} {x5 x6 x7 x8 : Option PV} (hi : h[i]? = some (.lst (cs1 k t o x p))) : g_law_8 (st0 s0 dd k t o x5 x6 x7 x8 (some (.ref i))) h = .next (st0 s0 dd k t o x5 x6 x7 x8 (some (.ref (h ++ [VO.lst [.tup [.non, .str t, .str o], .tup [.str "", .str t, .str o]]]).length))) (h ++ [.lst [.tup [.non, .str t, .str o], .tup [.str "", .str t, .str o]]] ++ [.lst (cs2 k t o x p)]) :=
  asgN_ok ((op_ok (h1 := h) (h2 := h ++ [.lst [.tup [.non, .str t, .str o], .tup [.str "", .str t, .str o]]]) (x := .ref i) (y := .ref h.length) rfl rfl).trans (cat_ok (ys := [.tup [.non, .str t, .str o], .tup [.str "", .str t, .str o]]) hi (show 8 + 2 ≤ big by decide)))
theorem ne_ref : Ev h0 (gNe (.tup [.str "refused", .str "BadName"]) (.tup [.str "refused", .str "BadName"])) (.bl false) := .pure fun h => by kernel_rfl
theorem ev_ref : Ev h0 ((fTup (aCons (fC (.str "refused")) (aCons (fC (.str "BadName")) aNil))) τ) (.tup [.str "refused", .str "BadName"]) := .tup (.cons .c (.cons .c .nil)) (show 2 ≤ big by decide)
theorem cs2_bad (N : Nm k t o x) {p : Nat} {xs : List PV} (hp : h0[p]? = some (.lst xs)) : ∀ v ∈ cs2 k t o x p, Ev h0 (F_is_name [v]) (.bl false) := by
  intro v hv
  simp only [cs2, List.mem_cons, List.not_mem_nil, or_false] at hv
  rcases hv with rfl | rfl | rfl | rfl | rfl | rfl | rfl | rfl | rfl | rfl
  · exact N_non
  · exact N_int
  · exact N_str
  · exact N_t0
  · exact N_t2
  · exact N_t4
  · exact N_ref hp
  · exact N_tup (p := false) (q := true) (r := true) kd_One (W_of N.st N.wt) (W_of N.so N.wo)
  · exact N_tup (p := false) (q := true) (r := true) kd_non (W_of N.st N.wt) (W_of N.so N.wo)
  · exact N_tup (p := false) (q := true) (r := true) kd_nil (W_of N.st N.wt) (W_of N.so N.wo)
theorem law9_ok (N : Nm k t o x) {l p : Nat} {xs : List PV} {x5 x6 x7 : Option PV} (hl : h0[l]? = some (.lst (cs2 k t o x p))) (hp : h0[p]? = some (.lst xs)) (w : Option PV) : ∃ e w', g_law_9 (st0 s0 dd k t o x5 x6 x7 w (some (.ref l))) h0 = .next (st0 s0 dd k t o x5 x6 x7 w' (some (.ref l))) (h0 ++ e) :=
  for_all (T := fun w => st0 s0 dd k t o x5 x6 x7 w (some (.ref l))) (fun _ _ => rfl) (ls_at hl) (fun _ => rfl) (fun v hv => Sn.seq
    (Sn.iff (Ev.b (Ev.op (Ev.call (xs := [v]) (.cons (.var rfl) .nil) rfl (cs2_bad N hp v hv)) .c (isNot (a := false) (b := false)))) .nx)
    (Sn.iff (Ev.b (Ev.op (told_bad (v := v) rfl (T_bad (cs2_bad N hp v hv))) ev_ref ne_ref)) .nx)) w
abbrev ds1 : List PV := [.non, .int 5, .str "", .str "ann", .str "@oak", .str "ann@", .str "#@oak", .str "##a@oak", .str "a#b@oak", .str "a@b@c"]
abbrev ds2 (k t o : Str) : List PV := [.str "Ann@oak", .str "a b@oak", .str " a@oak", nm k t o]
abbrev ds3 (k t o : Str) : List PV := [.non, .int 5, .str "", .str "ann", .str "@oak", .str "ann@", .str "#@oak", .str "##a@oak", .str "a#b@oak", .str "a@b@c", .str "Ann@oak", .str "a b@oak", .str " a@oak", nm k t o]
theorem rb_0 : Ex h0 (F_read_name [.str ""]) BN := R_bad (t1 := .str "one") (t2 := .str "") (t3 := .str "") (t4 := .str "") (t5 := .str "") (n := nm "one" "" "") (fun h => by kernel_rfl) (by
  have := N_tup (h0 := h0) (a := .str "one") (b := .str "") (c := .str "") kd_one (W_of (b := isW "") ⟨by decide +kernel, by decide +kernel⟩ rfl) (W_of (b := isW "") ⟨by decide +kernel, by decide +kernel⟩ rfl)
  rwa [show (true && (isW "" && isW "")) = false by decide +kernel] at this)
theorem rb_1 : Ex h0 (F_read_name [.str "ann"]) BN := R_bad (t1 := .str "one") (t2 := .str "ann") (t3 := .str "ann") (t4 := .str "") (t5 := .str "") (n := nm "one" "ann" "") (fun h => by kernel_rfl) (by
  have := N_tup (h0 := h0) (a := .str "one") (b := .str "ann") (c := .str "") kd_one (W_of (b := isW "ann") ⟨by decide +kernel, by decide +kernel⟩ rfl) (W_of (b := isW "") ⟨by decide +kernel, by decide +kernel⟩ rfl)
  rwa [show (true && (isW "ann" && isW "")) = false by decide +kernel] at this)
theorem rb_2 : Ex h0 (F_read_name [.str "@oak"]) BN := R_bad (t1 := .str "one") (t2 := .str "@oak") (t3 := .str "") (t4 := .str "@") (t5 := .str "oak") (n := nm "one" "" "oak") (fun h => by kernel_rfl) (by
  have := N_tup (h0 := h0) (a := .str "one") (b := .str "") (c := .str "oak") kd_one (W_of (b := isW "") ⟨by decide +kernel, by decide +kernel⟩ rfl) (W_of (b := isW "oak") ⟨by decide +kernel, by decide +kernel⟩ rfl)
  rwa [show (true && (isW "" && isW "oak")) = false by decide +kernel] at this)
theorem rb_3 : Ex h0 (F_read_name [.str "ann@"]) BN := R_bad (t1 := .str "one") (t2 := .str "ann@") (t3 := .str "ann") (t4 := .str "@") (t5 := .str "") (n := nm "one" "ann" "") (fun h => by kernel_rfl) (by
  have := N_tup (h0 := h0) (a := .str "one") (b := .str "ann") (c := .str "") kd_one (W_of (b := isW "ann") ⟨by decide +kernel, by decide +kernel⟩ rfl) (W_of (b := isW "") ⟨by decide +kernel, by decide +kernel⟩ rfl)
  rwa [show (true && (isW "ann" && isW "")) = false by decide +kernel] at this)
theorem rb_4 : Ex h0 (F_read_name [.str "#@oak"]) BN := R_bad (t1 := .str "group") (t2 := .str "@oak") (t3 := .str "") (t4 := .str "@") (t5 := .str "oak") (n := nm "group" "" "oak") (fun h => by kernel_rfl) (by
  have := N_tup (h0 := h0) (a := .str "group") (b := .str "") (c := .str "oak") kd_group (W_of (b := isW "") ⟨by decide +kernel, by decide +kernel⟩ rfl) (W_of (b := isW "oak") ⟨by decide +kernel, by decide +kernel⟩ rfl)
  rwa [show (true && (isW "" && isW "oak")) = false by decide +kernel] at this)
theorem rb_5 : Ex h0 (F_read_name [.str "##a@oak"]) BN := R_bad (t1 := .str "group") (t2 := .str "#a@oak") (t3 := .str "#a") (t4 := .str "@") (t5 := .str "oak") (n := nm "group" "#a" "oak") (fun h => by kernel_rfl) (by
  have := N_tup (h0 := h0) (a := .str "group") (b := .str "#a") (c := .str "oak") kd_group (W_of (b := isW "#a") ⟨by decide +kernel, by decide +kernel⟩ rfl) (W_of (b := isW "oak") ⟨by decide +kernel, by decide +kernel⟩ rfl)
  rwa [show (true && (isW "#a" && isW "oak")) = false by decide +kernel] at this)
theorem rb_6 : Ex h0 (F_read_name [.str "a#b@oak"]) BN := R_bad (t1 := .str "one") (t2 := .str "a#b@oak") (t3 := .str "a#b") (t4 := .str "@") (t5 := .str "oak") (n := nm "one" "a#b" "oak") (fun h => by kernel_rfl) (by
  have := N_tup (h0 := h0) (a := .str "one") (b := .str "a#b") (c := .str "oak") kd_one (W_of (b := isW "a#b") ⟨by decide +kernel, by decide +kernel⟩ rfl) (W_of (b := isW "oak") ⟨by decide +kernel, by decide +kernel⟩ rfl)
  rwa [show (true && (isW "a#b" && isW "oak")) = false by decide +kernel] at this)
theorem rb_7 : Ex h0 (F_read_name [.str "a@b@c"]) BN := R_bad (t1 := .str "one") (t2 := .str "a@b@c") (t3 := .str "a") (t4 := .str "@") (t5 := .str "b@c") (n := nm "one" "a" "b@c") (fun h => by kernel_rfl) (by
  have := N_tup (h0 := h0) (a := .str "one") (b := .str "a") (c := .str "b@c") kd_one (W_of (b := isW "a") ⟨by decide +kernel, by decide +kernel⟩ rfl) (W_of (b := isW "b@c") ⟨by decide +kernel, by decide +kernel⟩ rfl)
  rwa [show (true && (isW "a" && isW "b@c")) = false by decide +kernel] at this)
theorem rb_8 : Ex h0 (F_read_name [.str "Ann@oak"]) BN := R_bad (t1 := .str "one") (t2 := .str "Ann@oak") (t3 := .str "Ann") (t4 := .str "@") (t5 := .str "oak") (n := nm "one" "Ann" "oak") (fun h => by kernel_rfl) (by
  have := N_tup (h0 := h0) (a := .str "one") (b := .str "Ann") (c := .str "oak") kd_one (W_of (b := isW "Ann") ⟨by decide +kernel, by decide +kernel⟩ rfl) (W_of (b := isW "oak") ⟨by decide +kernel, by decide +kernel⟩ rfl)
  rwa [show (true && (isW "Ann" && isW "oak")) = false by decide +kernel] at this)
theorem rb_9 : Ex h0 (F_read_name [.str "a b@oak"]) BN := R_bad (t1 := .str "one") (t2 := .str "a b@oak") (t3 := .str "a b") (t4 := .str "@") (t5 := .str "oak") (n := nm "one" "a b" "oak") (fun h => by kernel_rfl) (by
  have := N_tup (h0 := h0) (a := .str "one") (b := .str "a b") (c := .str "oak") kd_one (W_of (b := isW "a b") ⟨by decide +kernel, by decide +kernel⟩ rfl) (W_of (b := isW "oak") ⟨by decide +kernel, by decide +kernel⟩ rfl)
  rwa [show (true && (isW "a b" && isW "oak")) = false by decide +kernel] at this)
theorem rb_10 : Ex h0 (F_read_name [.str " a@oak"]) BN := R_bad (t1 := .str "one") (t2 := .str " a@oak") (t3 := .str " a") (t4 := .str "@") (t5 := .str "oak") (n := nm "one" " a" "oak") (fun h => by kernel_rfl) (by
  have := N_tup (h0 := h0) (a := .str "one") (b := .str " a") (c := .str "oak") kd_one (W_of (b := isW " a") ⟨by decide +kernel, by decide +kernel⟩ rfl) (W_of (b := isW "oak") ⟨by decide +kernel, by decide +kernel⟩ rfl)
  rwa [show (true && (isW " a" && isW "oak")) = false by decide +kernel] at this)
theorem ds3_bad : ∀ v ∈ ds3 k t o, Ex h0 (F_read_name [v]) BN := by
  intro v hv
  simp only [ds3, List.mem_cons, List.not_mem_nil, or_false] at hv
  rcases hv with rfl | rfl | rfl | rfl | rfl | rfl | rfl | rfl | rfl | rfl | rfl | rfl | rfl | rfl
  · exact R_non
  · exact R_int
  · exact rb_0
  · exact rb_1
  · exact rb_2
  · exact rb_3
  · exact rb_4
  · exact rb_5
  · exact rb_6
  · exact rb_7
  · exact rb_8
  · exact rb_9
  · exact rb_10
  · exact R_tup
theorem law10_ok {x5 x6 x7 x8 x9 : Option PV} : g_law_10 (st0 s0 dd k t o x5 x6 x7 x8 x9) h = .next (st0 s0 dd k t o x5 x6 x7 x8 (some (.ref h.length))) (h ++ [.lst ds1]) := rfl
theorem law11_ok {i : Nat} {x6 x7 x8 : Option PV} (hi : h[i]? = some (.lst ds1)) : g_law_11 (st0 s0 dd k t o (some (nm k t o)) x6 x7 x8 (some (.ref i))) h = .next (st0 s0 dd k t o (some (nm k t o)) x6 x7 x8 (some (.ref (h ++ [VO.lst (ds2 k t o)]).length))) (h ++ [.lst (ds2 k t o)] ++ [.lst (ds3 k t o)]) :=
  asgN_ok ((op_ok (h1 := h) (h2 := h ++ [.lst (ds2 k t o)]) (x := .ref i) (y := .ref h.length) rfl rfl).trans (cat_ok (ys := ds2 k t o) hi (show 10 + 4 ≤ big by decide)))
theorem law12_ok {l : Nat} {x5 x6 x7 : Option PV} (hl : h0[l]? = some (.lst (ds3 k t o))) (w : Option PV) : ∃ e w', g_law_12 (st0 s0 dd k t o x5 x6 x7 w (some (.ref l))) h0 = .next (st0 s0 dd k t o x5 x6 x7 w' (some (.ref l))) (h0 ++ e) :=
  for_all (T := fun w => st0 s0 dd k t o x5 x6 x7 w (some (.ref l))) (fun _ _ => rfl) (ls_at hl) (fun _ => rfl) (fun v hv => Sn.iff (Ev.b (Ev.op (told_bad (v := v) rfl (ds3_bad v hv)) ev_ref ne_ref)) .nx) w
end
end
end K10

set_option Elab.async false
set_option linter.all false
set_option maxRecDepth 100000
set_option maxHeartbeats 4000000
namespace K10
open PySem PySem.Spec PyProof.Rows L2 FX FS
section
variable {h : VH} {τ : Tau}
def Ten (τ : Tau) : Prop := ∃ a0 a1 a2 a3 a4 a5 a6 a7 a8 a9 : Option PV, τ = [a0, a1, a2, a3, a4, a5, a6, a7, a8, a9]
theorem rest_ok {s0 dd x5 x6 x7 x8 x9 : Option PV} {k t o x : Str} (N : Nm k t o x) : ∃ τ' e, Ten τ' ∧ (sSeq g_law_1 (sSeq g_law_2 (sSeq g_law_3 (sSeq g_law_4 (sSeq g_law_5 (sSeq g_law_6 (sSeq g_law_7 (sSeq g_law_8 (sSeq g_law_9 (sSeq g_law_10 (sSeq g_law_11 g_law_12))))))))))) (st0 s0 dd k t o x5 x6 x7 x8 x9) h = .next τ' (h ++ e) := by
  have e1 : g_law_1 (st0 s0 dd k t o x5 x6 x7 x8 x9) h = .next (st0 s0 dd k t o (some (nm k t o)) x6 x7 x8 x9) h := rfl
  have e2 := N.tx s0 dd (some (nm k t o)) x6 x7 x8 x9 h
  obtain ⟨d3, e3⟩ := law3_ok (h0 := h) (s0 := s0) (dd := dd) (x7 := x7) (x8 := x8) (x9 := x9) N []
  obtain ⟨d4, e4⟩ := law4_ok (h0 := h) (s0 := s0) (dd := dd) (x5 := some (nm k t o)) (x6 := some (.str x)) (x7 := x7) (x8 := x8) (x9 := x9) N ([] ++ d3)
  rw [List.append_nil] at e3
  rw [List.nil_append] at e4
  generalize hA : h ++ d3 ++ d4 = A at *
  have e5 := law5_ok (h := A) (s0 := s0) (dd := dd) (k := k) (t := t) (o := o) (x5 := some (nm k t o)) (x6 := some (.str x)) (x7 := x7) (x8 := x8) (x9 := x9)
  obtain ⟨d6, w6, e6⟩ := law6_ok (s0 := s0) (dd := dd) (x5 := some (nm k t o)) (x6 := some (.str x)) (x9 := x9) N (at_end A (.lst badL) []) x8
  generalize hB : A ++ [VO.lst badL] ++ d6 = B at *
  have e7 := law7_ok (h := B) (s0 := s0) (dd := dd) (k := k) (t := t) (o := o) (x := x) (x7 := some (.ref A.length)) (x8 := w6) (x9 := x9)
  have hp : (B ++ [VO.lst [.str k, .str t, .str o]] ++ [VO.lst (cs1 k t o x B.length)])[B.length]? = some (.lst [.str k, .str t, .str o]) := at_pre _ (at_end _ _ _)
  have e8 := law8_ok (s0 := s0) (dd := dd) (x5 := some (nm k t o)) (x6 := some (.str x)) (x7 := some (.ref A.length)) (x8 := w6) (at_end (B ++ [VO.lst [.str k, .str t, .str o]]) (.lst (cs1 k t o x B.length)) [])
  generalize hC : B ++ [VO.lst [.str k, .str t, .str o]] ++ [VO.lst (cs1 k t o x B.length)] = C at *
  obtain ⟨d9, w9, e9⟩ := law9_ok (s0 := s0) (dd := dd) (x5 := some (nm k t o)) (x6 := some (.str x)) (x7 := some (.ref A.length)) N (at_end (C ++ [VO.lst [.tup [.non, .str t, .str o], .tup [.str "", .str t, .str o]]]) (.lst (cs2 k t o x B.length)) []) (at_pre _ (at_pre _ hp)) w6
  generalize hD : C ++ [VO.lst [.tup [.non, .str t, .str o], .tup [.str "", .str t, .str o]]] ++ [VO.lst (cs2 k t o x B.length)] ++ d9 = D at *
  have e10 := law10_ok (h := D) (s0 := s0) (dd := dd) (k := k) (t := t) (o := o) (x5 := some (nm k t o)) (x6 := some (.str x)) (x7 := some (.ref A.length)) (x8 := w9) (x9 := some (.ref (C ++ [VO.lst [.tup [.non, .str t, .str o], .tup [.str "", .str t, .str o]]]).length))
  have e11 := law11_ok (s0 := s0) (dd := dd) (k := k) (t := t) (o := o) (x6 := some (.str x)) (x7 := some (.ref A.length)) (x8 := w9) (at_end D (.lst ds1) [])
  obtain ⟨d12, w12, e12⟩ := law12_ok (s0 := s0) (dd := dd) (x5 := some (nm k t o)) (x6 := some (.str x)) (x7 := some (.ref A.length)) (at_end (D ++ [VO.lst ds1] ++ [VO.lst (ds2 k t o)]) (.lst (ds3 k t o)) []) w9
  have fin := (seq_ok e1).trans ((seq_ok e2).trans ((seq_ok e3).trans ((seq_ok e4).trans ((seq_ok e5).trans ((seq_ok e6).trans ((seq_ok e7).trans ((seq_ok e8).trans ((seq_ok e9).trans ((seq_ok e10).trans ((seq_ok e11).trans e12))))))))))
  have pre : ∃ e, D ++ [VO.lst ds1] ++ [VO.lst (ds2 k t o)] ++ [VO.lst (ds3 k t o)] ++ d12 = h ++ e := by
    rw [← hD, ← hC, ← hB, ← hA]
    simp only [List.append_assoc]
    exact ⟨_, rfl⟩
  obtain ⟨e, he⟩ := pre
  rw [he] at fin
  exact ⟨_, e, ⟨_, _, _, _, _, _, _, _, _, _, rfl⟩, fin⟩
theorem turn_ok {ds : List Nat} {d : Nat} (hd : d ∈ ds) (D : Dice ds h) {s0 x2 x3 x4 x5 x6 x7 x8 x9 : Option PV} : ∃ τ' h', Ten τ' ∧ Dice ds h' ∧ g_turn [s0, some (.ref d), x2, x3, x4, x5, x6, x7, x8, x9] h = .next τ' h' := by
  obtain ⟨_, c, j, q⟩ := D.2 d hd
  obtain ⟨k, t, o, h1, hk, ht, ho, F, e0⟩ := law0_ok (s0 := s0) (x2 := x2) (x3 := x3) (x4 := x4) (x5 := x5) (x6 := x6) (x7 := x7) (x8 := x8) (x9 := x9) q
  obtain ⟨k', t', o', x, rfl, rfl, rfl, N⟩ := nm_of hk ht ho
  obtain ⟨τ', e, T, er⟩ := rest_ok (h := h1) (s0 := s0) (dd := some (.ref d)) (x5 := x5) (x6 := x6) (x7 := x7) (x8 := x8) (x9 := x9) N
  exact ⟨τ', h1 ++ e, T, (D.fr hd F).ext e, (seq_ok e0).trans er⟩
theorem turns_ok {ds : List Nat} : ∀ (n i : Nat) (τ : Tau) (h : VH), Dice ds h → Ten τ → ds.length - i < n → ∃ τ' h', loopF (srcL 1) (gN 1) g_turn n i τ h = .next τ' h'
  | 0, i, τ, h, D, T, hn => by omega
  | n + 1, i, τ, h, D, T, hn => by
    unfold loopF
    have hs : srcL 1 i h = some (ds.map PV.ref)[i]? := by unfold srcL; rw [ls_at D.1]
    rw [hs]
    cases e : ds[i]? with
    | none =>
      rw [List.getElem?_map, e]
      exact ⟨τ, h, rfl⟩
    | some d =>
      rw [List.getElem?_map, e]
      have hi := (List.getElem?_eq_some_iff.mp e).1
      obtain ⟨a0, a1, a2, a3, a4, a5, a6, a7, a8, a9, rfl⟩ := T
      obtain ⟨τ', h', T', D', er⟩ := turn_ok (List.mem_of_getElem? e) D (s0 := a0) (x2 := a2) (x3 := a3) (x4 := a4) (x5 := a5) (x6 := a6) (x7 := a7) (x8 := a8) (x9 := a9)
      simp only [Option.map_some, gN, List.set_cons_succ, List.set_cons_zero]
      rw [er]
      exact turns_ok n (i + 1) τ' h' D' T' (by omega)
theorem law_true (ns : List Int) (hl : ns.length ≤ 63) : ∃ vh', F_law [.ref 0] [.scr ns] = .ok (.bl true) vh' := by
  obtain ⟨ds, h1, l5, D, e⟩ := rounds_ok hl
  obtain ⟨τ', h', er⟩ := turns_ok (ds.length + 1) 0 [some (.ref 0), none, none, none, none, none, none, none, none, none] h1 D ⟨_, _, _, _, _, _, _, _, _, _, rfl⟩ (by omega)
  have ln : lenL h1 1 = ds.length := by unfold lenL; rw [ls_at D.1]; exact List.length_map _
  have ec : (fCall F__law_rounds 2 (aCons (fVar 0) (aCons (fC (.int 5)) aNil))) [some (.ref 0), none, none, none, none, none, none, none, none, none] [.scr ns] = .ok (.ref 1) h1 := (call_ok (cons_ok (var_ok rfl) (cons_ok c_ok nil_ok)) rfl).trans e
  have ef : (sForL (fCall F__law_rounds 2 (aCons (fVar 0) (aCons (fC (.int 5)) aNil))) (gN 1) g_turn) [some (.ref 0), none, none, none, none, none, none, none, none, none] [.scr ns] = .next τ' h' := by
    unfold sForL
    rw [ec]
    simp only [ln]
    exact er
  exact ⟨h', run_ret ((seq_ok ef).trans (ret_ok c_ok))⟩
end
end K10

set_option Elab.async false
open PySem PySem.W PyProof.Rows
set_option maxRecDepth 100000 in
set_option maxHeartbeats 0 in
theorem PySem.Challenge.cw_joinedfolk_k10_whole_names_holds : PySem.Challenge.rw_joinedfolk_k10_whole_names.Holds := by
  w_on; o_law; k_head; (case hw => w_witness2)
  k_fill
  refine FS.walk_F (l := PySem.Challenge.rw_joinedfolk_k10_whole_names) (n := 63) (k := 6) (x := "_law_script") (tb := K10.tb) (tabs := [232]) (F := K10.F_law) rfl (by decide) rfl ⟨rfl, by decide, by decide⟩ (fun w h Y => PySem.W.km_in_of Y) (fun w h Y => PySem.W.km_tabs_of Y) ?hcode ?hlk ?hnl ?htb ?Fn K10.law_true
  case hcode => exact fun Q hQ => ⟨236, fun p => by obtain rfl := List.mem_singleton.mp hQ; kernel_rfl⟩
  case hlk => exact fun p Q hQ => by obtain rfl := List.mem_singleton.mp hQ; kernel_rfl
  case hnl => exact fun p => by kernel_rfl
  case htb => exact fun c Q q h => by simp [K10.tb] at h; simp [h.2.1]
  case Fn =>
    intro w mg fa h KX G hmg
    refine' K10.txt_mk KX G hmg ?n_RoofError ?n_BadName ?n_NoHouse ?n_NoOne ?n_Taken ?n_BadRule ?n_BadTime ?n_BadJournal ?n_Nothing ?n_KINDS ?n_SIGNS ?n_MOST ?z_isinstance ?z_len ?z_all ?z_sum ?z_max ?z_min ?z_list ?z_int ?z_range ?z_str ?z_tuple ?z_ValueError ?x37 ?tabs ?sts ?x_ga ?x_hk ?x_be ?x_cl ?x_ca ?x_ob ?x_gt ?x_tk ?lK ?hd ?a0 ?l0 ?c0 ?k0 ?a1 ?l1 ?c1 ?k1 ?a2 ?l2 ?c2 ?k2 ?a3 ?l3 ?c3 ?k3 ?a4 ?l4 ?c4 ?k4 ?a5 ?l5 ?c5 ?k5 ?a6 ?l6 ?c6 ?k6 ?a7 ?l7 ?c7 ?k7 ?a8 ?l8 ?c8 ?k8 ?a9 ?l9 ?c9 ?k9 ?a10 ?l10 ?c10 ?k10 ?a11 ?l11 ?c11 ?k11 ?a12 ?l12 ?c12 ?k12 ?a13 ?l13 ?c13 ?k13
    (case n_RoofError => kernel_rfl)
    (case n_BadName => kernel_rfl)
    (case n_NoHouse => kernel_rfl)
    (case n_NoOne => kernel_rfl)
    (case n_Taken => kernel_rfl)
    (case n_BadRule => kernel_rfl)
    (case n_BadTime => kernel_rfl)
    (case n_BadJournal => kernel_rfl)
    (case n_Nothing => kernel_rfl)
    (case n_KINDS => kernel_rfl)
    (case n_SIGNS => k_is)
    (case n_MOST => k_is)
    (case z_isinstance => kernel_rfl)
    (case z_len => kernel_rfl)
    (case z_all => kernel_rfl)
    (case z_sum => kernel_rfl)
    (case z_max => kernel_rfl)
    (case z_min => kernel_rfl)
    (case z_list => kernel_rfl)
    (case z_int => kernel_rfl)
    (case z_range => kernel_rfl)
    (case z_str => kernel_rfl)
    (case z_tuple => kernel_rfl)
    (case z_ValueError => kernel_rfl)
    (case x37 => k_exc)
    (case tabs => kernel_rfl)
    (case sts => kernel_rfl)
    (case x_ga => kernel_rfl)
    (case x_hk => kernel_rfl)
    (case x_be => kernel_rfl)
    (case x_cl => kernel_rfl)
    (case x_ca => kernel_rfl)
    (case x_ob => kernel_rfl)
    (case x_gt => kernel_rfl)
    (case x_tk => kernel_rfl)
    (case lK => k_is)
    (case hd => kernel_rfl)
    (case a0 => kernel_rfl)
    (case l0 => k_is)
    (case c0 => k_is)
    (case k0 => kernel_rfl)
    (case a1 => kernel_rfl)
    (case l1 => k_is)
    (case c1 => k_is)
    (case k1 => kernel_rfl)
    (case a2 => kernel_rfl)
    (case l2 => k_is)
    (case c2 => k_is)
    (case k2 => kernel_rfl)
    (case a3 => kernel_rfl)
    (case l3 => k_is)
    (case c3 => k_is)
    (case k3 => kernel_rfl)
    (case a4 => kernel_rfl)
    (case l4 => k_is)
    (case c4 => k_is)
    (case k4 => kernel_rfl)
    (case a5 => kernel_rfl)
    (case l5 => k_is)
    (case c5 => k_is)
    (case k5 => kernel_rfl)
    (case a6 => kernel_rfl)
    (case l6 => k_is)
    (case c6 => k_is)
    (case k6 => kernel_rfl)
    (case a7 => kernel_rfl)
    (case l7 => k_is)
    (case c7 => k_is)
    (case k7 => kernel_rfl)
    (case a8 => kernel_rfl)
    (case l8 => k_is)
    (case c8 => k_is)
    (case k8 => kernel_rfl)
    (case a9 => kernel_rfl)
    (case l9 => k_is)
    (case c9 => k_is)
    (case k9 => kernel_rfl)
    (case a10 => kernel_rfl)
    (case l10 => k_is)
    (case c10 => k_is)
    (case k10 => kernel_rfl)
    (case a11 => kernel_rfl)
    (case l11 => k_is)
    (case c11 => k_is)
    (case k11 => kernel_rfl)
    (case a12 => kernel_rfl)
    (case l12 => k_is)
    (case c12 => k_is)
    (case k12 => kernel_rfl)
    (case a13 => kernel_rfl)
    (case l13 => k_is)
    (case c13 => k_is)
    (case k13 => kernel_rfl)
