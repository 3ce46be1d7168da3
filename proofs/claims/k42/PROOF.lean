import PyProof.Rows.All
import Wide.All
import OpenK.AllK
import Wide.FinOn
import Lean
import PyProof.EqAt
import PyProof.EqKinds
import PyProof.TupleCall
import PyProof.NeKinds
import Wide.Seal
import KE.KDictList
import KE.KSortTup
import KE.KDictOf
import KE.KTryMore
import PyProof.CompUse
import PyProof.AttrMissHeap
import PyProof.Rows.TupTab
import PyProof.ZipIter
import PyProof.Rows.ZipGen
import PyProof.LayNew
import KE.KRevSl
import PyProof.SumWalk
import PyProof.EnumMake
import PyProof.EnumFor
import PyProof.Rows.EnumRows
import PyProof.ListRange
import PySem.Challenge.RW_bothfaces_k42_stitches
set_option Elab.async false
set_option linter.all false
set_option maxRecDepth 100000
set_option maxHeartbeats 4000000
/-! THE HAND LAYER, for ints, bools, texts, own classes, LISTS and tuples (index, slices, in, append, pop ..), calls, loops. Paste it whole ahead of your own text; what your proof does not reach may be deleted. -/
namespace L2
open PySem PySem.Spec PyProof.Rows

/-- a key: an int or a str -/
abbrev Key := Sum Int Str
def keyIs : Key → Value → Bool
  | .inl k, v => Value.isInt k v
  | .inr x, v => Value.isStrOf x v
def keyH (w : World) : Key → Int
  | .inl k => hashInt k
  | .inr x => hashStr w x
theorem keyIs_shape : ∀ {k : Key} {v : Value}, keyIs k v = true → (∃ i t, k = Sum.inl i ∧ v = Value.int i t) ∨ (∃ x t, k = Sum.inr x ∧ v = Value.str x t)
  | .inl i, v, h => by
    obtain ⟨t, e⟩ := Value.isInt_shape (k := i) (v := v) h
    exact .inl ⟨i, t, rfl, e⟩
  | .inr x, v, h => by
    obtain ⟨t, e⟩ := Value.isStrOf_shape (x := x) (v := v) h
    exact .inr ⟨x, t, rfl, e⟩
theorem key_ll (a b : Int) : decide ((Sum.inl a : Key) = Sum.inl b) = (a == b) := by
  by_cases e : a = b
  · subst e; simp
  · have h : ¬ (Sum.inl a : Key) = Sum.inl b := fun q => e (Sum.inl.inj q)
    rw [decide_eq_false h]
    exact (beq_eq_false_iff_ne.mpr e).symm
theorem key_rr (a b : Str) : decide ((Sum.inr a : Key) = Sum.inr b) = decide (a = b) := by
  by_cases e : a = b
  · subst e; simp
  · have h : ¬ (Sum.inr a : Key) = Sum.inr b := fun q => e (Sum.inr.inj q)
    rw [decide_eq_false h, decide_eq_false e]
theorem key_lr (a : Int) (b : Str) : decide ((Sum.inl a : Key) = Sum.inr b) = false := decide_eq_false (fun q => nomatch q)
theorem key_rl (a : Str) (b : Int) : decide ((Sum.inr a : Key) = Sum.inl b) = false := decide_eq_false (fun q => nomatch q)

def mixKind (prog : Program) (w : World) : PySem.KeyKind prog w Key where
  is := keyIs
  hash := keyH w
  inj := fun v a b ha hb => by
    rcases keyIs_shape ha with ⟨i, t, rfl, rfl⟩ | ⟨x, t, rfl, rfl⟩
    · rcases keyIs_shape hb with ⟨j, u, rfl, e⟩ | ⟨y, u, rfl, e⟩
      · injection e with e1 _; rw [e1]
      · exact nomatch e
    · rcases keyIs_shape hb with ⟨j, u, rfl, e⟩ | ⟨y, u, rfl, e⟩
      · exact nomatch e
      · injection e with e1 _; rw [e1]
  byValue := fun k v h => by
    rcases keyIs_shape h with ⟨i, t, rfl, rfl⟩ | ⟨x, t, rfl, rfl⟩ <;> rfl
  pyHash := fun hv h => by
    rcases keyIs_shape hv with ⟨i, t, rfl, rfl⟩ | ⟨x, t, rfl, rfl⟩
    · exact wpAny_pyHash_int h
    · exact wpAny_pyHash_str h
  eqBool := fun hu hv h => by
    rcases keyIs_shape hu with ⟨i, t, rfl, rfl⟩ | ⟨x, t, rfl, rfl⟩
    · rcases keyIs_shape hv with ⟨j, u, rfl, rfl⟩ | ⟨y, u, rfl, rfl⟩
      · rw [key_ll] at h; exact wpAny_eqBool_int h
      · rw [key_lr] at h; exact SeqAt.EqAt.int_str i t y u _ _ _ _ h
    · rcases keyIs_shape hv with ⟨j, u, rfl, rfl⟩ | ⟨y, u, rfl, rfl⟩
      · rw [key_rl] at h; exact SeqAt.EqAt.str_int x t j u _ _ _ _ h
      · rw [key_rr] at h; exact wpAny_eqBool_str h
  «strs» := fun k x t v h => by
    rcases keyIs_shape h with ⟨i, u, rfl, e⟩ | ⟨y, u, rfl, e⟩
    · exact nomatch e
    · injection e with e1 _
      subst e1
      cases v <;> rfl

end L2

namespace L2
open PySem PySem.Spec PyProof.Rows

/-- a value, without the heap -/
inductive V where
  | non | bl (b : Bool) | int (i : Int) | str (x : Str) | byt (b : Array UInt8) | flt (b : UInt64) | ref (a : Addr) | ty (n : String)
  deriving DecidableEq

def RelV : V → Value → Prop
  | .non, u => u = Value.none
  | .bl b, u => u = Value.bool b
  | .int i, u => ∃ t, u = Value.int i t
  | .str x, u => ∃ t, u = Value.str x t
  | .byt b, u => ∃ t, u = Value.bytes b t
  | .flt b, u => ∃ t, u = Value.float b t
  | .ref a, u => u = Value.ref a
  | .ty n, u => u = Value.type n

abbrev Vals : List V → List Value → Prop := Paired RelV
theorem Vals.length {xs : List V} {us : List Value} (r : Vals xs us) : xs.length = us.length := Paired.length r
theorem Vals.get : ∀ {xs : List V} {us : List Value} {i : Nat} {x : V}, Vals xs us → xs[i]? = some x → ∃ u, us[i]? = some u ∧ RelV x u
  | _, _, _, _, .nil, e => by simp at e
  | _, _, 0, _, .cons r _, e => by simp at e; subst e; exact ⟨_, rfl, r⟩
  | _, _, i + 1, x, .cons _ t, e => by
    obtain ⟨u, h1, h2⟩ := Vals.get (i := i) (x := x) t (by simpa using e)
    exact ⟨u, by simpa using h1, h2⟩
theorem Vals.append : ∀ {xs ys : List V} {us ws : List Value}, Vals xs us → Vals ys ws → Vals (xs ++ ys) (us ++ ws)
  | _, _, _, _, .nil, s => s
  | _, _, _, _, .cons r t, s => .cons r (Vals.append t s)
theorem Vals.take : ∀ {xs : List V} {us : List Value} (n : Nat), Vals xs us → Vals (xs.take n) (us.take n)
  | _, _, 0, _ => .nil
  | _, _, _ + 1, .nil => .nil
  | _, _, n + 1, .cons r t => .cons r (Vals.take n t)
theorem Vals.drop : ∀ {xs : List V} {us : List Value} (n : Nat), Vals xs us → Vals (xs.drop n) (us.drop n)
  | _, _, 0, r => r
  | _, _, _ + 1, .nil => .nil
  | _, _, n + 1, .cons _ t => Vals.drop n t

def RelO : Option V → Option Value → Prop
  | some v, some u => RelV v u
  | none, none => True
  | _, _ => False
def KV {κ : Type} : List (κ × V) → List (κ × Value) → Prop := Paired fun (p : κ × V) (q : κ × Value) => p.1 = q.1 ∧ RelV p.2 q.2

/-- a key of a dict (00_mix): an int or a text -/
def kV : Key → V
  | .inl i => .int i
  | .inr x => .str x

/-- what stands at a tracked address -/
inductive HO where
  /-- a list -/
  | lst (xs : List V)
  /-- a tuple (never changes) -/
  | tup (xs : List V)
  /-- a dict whose keys are ints and texts; one whose keys are tuples of ints and texts (the empty one is both) -/
  | dK (kvs : List (Key × V)) | dT (kvs : List (List Key × V))
  /-- a set of ints: its members, its size -/
  | set (S : Int → Bool) (n : Nat)
  /-- an instance of the class at C, its dict at dx, its attributes -/
  | ins (C dx : Addr) (fs : List (Str × V))
  /-- the dict of the instance at x -/
  | own (x : Addr)
  /-- the dict of an exception -/
  | xd (fs : List (Str × V))
  /-- a bound method, f of x -/
  | met (f x : Addr)
  /-- a range object lo, lo + 1, .. below hi -/
  | rng (lo hi : Int)
  /-- a thing that is known to the object (the script; a dict while a loop walks it): read, never written while it is so -/
  | frz (o : Obj) (u : HO)
  /-- a code object's table -/
  | tbl (ps : Array Value)
  /-- any other thing, by what is true of its one object (a def of one's own: SetO a S n := HO.ext fun h => ..) -/
  | ext (φ : Heap → Prop)

abbrev Hp := Addr → Option HO
def upd (H : Hp) (a : Addr) (o : HO) : Hp := fun b => if b = a then some o else H b
theorem upd_same {H : Hp} {a : Addr} {o : HO} : upd H a o a = some o := by unfold upd; rw [if_pos rfl]
theorem upd_ne {H : Hp} {a b : Addr} {o : HO} (h : b ≠ a) : upd H a o b = H b := by unfold upd; rw [if_neg h]
theorem ne_of_none {H : Hp} {a b : Addr} {o : HO} (h : H a = some o) (h' : H b = none) : a ≠ b := by
  intro e; subst e; rw [h] at h'; cases h'

section
variable (P : Program) (w : World)
def ObjOk (H : Hp) (h : Heap) (a : Addr) : HO → Prop
  | .lst xs => xs.length ≤ sizeLine ∧ ∃ (its : List Value) (n : Nat), Vals xs its ∧ h.get? a = some { cls := .type "list", data := .seq its.toArray n }
  | .tup xs => xs.length ≤ sizeLine ∧ ∃ its : List Value, Vals xs its ∧ IsTup h a its.toArray
  | .dK kvs => kvs.length ≤ sizeLine ∧ (a == sysModules) = false ∧ ∃ vs, KV kvs vs ∧ h.DictOf (mixKind P w) a vs
  | .dT kvs => kvs.length ≤ sizeLine ∧ (a == sysModules) = false ∧ ∃ xs : List (List Key × Addr × Value),
      Paired (fun (p : List Key × V) (q : List Key × Addr × Value) => p.1 = q.1 ∧ H q.2.1 = some (.tup (p.1.map kV)) ∧ RelV p.2 q.2.2) kvs xs ∧
      ∃ o es ep, h.get? a = some o ∧ o.ExactDict ∧ o.data = .dict es ep ∧ es.toList = xs.map (entryOfKey (tupleKind (mixKind P w))) ∧ (xs.map (·.1)).Nodup
  | .set S n => h.SetOf (intKind P w) a S n
  | .ins C dx fs => H dx = some (.own a) ∧ fs.length ≤ 1000 ∧ dx ≠ a ∧ h.get? a = some (PySem.W.instObj C dx) ∧
      ∃ mA, h.Ns1 dx mA ∧ (∀ f, RelO (fs.lookup f) (mA f)) ∧ PySem.Within mA (fs.map (·.1))
  | .own _ => ∃ o, h.get? a = some o
  | .xd fs => ∃ mA, h.Ns1 a mA ∧ ∀ f, RelO (fs.lookup f) (mA f)
  | .rng lo hi => ∃ t u v, h.get? a = some { cls := .type "range", data := .fields #[.int lo t, .int hi u, .int 1 v] }
  | .frz o u => h.get? a = some o ∧ ObjOk H h a u
  | .tbl ps => h.get? a = some { cls := .none, data := .fields ps }
  | .met f x => h.get? a = some (PySem.W.methodObj (.ref f) (.ref x))
  | .ext φ => φ h ∧ (∃ o, h.get? a = some o) ∧ ∀ h1 h2 : Heap, φ h1 → (∀ o, h1.get? a = some o → h2.get? a = some o) → φ h2
/-- the abstract heap is held -/
def HOk (H : Hp) (h : Heap) : Prop := ∀ a o, H a = some o → ObjOk P w H h a o
end

section
variable {P : Program} {w : World} {H H' : Hp} {h h' : Heap} {a : Addr} {o : HO}
theorem ObjOk.lt (x : ObjOk P w H h a o) : a < h.objs.size := by
  cases o with
  | lst xs => obtain ⟨_, _, _, _, e⟩ := x; exact Heap.lt_size e
  | tup xs => obtain ⟨_, _, _, p⟩ := x; exact p.lt
  | dK kvs => obtain ⟨_, _, _, _, o, _, _, e, _⟩ := x; exact Heap.lt_size e
  | dT kvs => obtain ⟨_, _, _, _, o, _, _, e, _⟩ := x; exact Heap.lt_size e
  | set S n => obtain ⟨o, _, _, _, e, _⟩ := x; exact Heap.lt_size e
  | ins C dx fs => obtain ⟨_, _, _, e, _⟩ := x; exact Heap.lt_size e
  | own y => obtain ⟨_, e⟩ := x; exact Heap.lt_size e
  | xd fs => obtain ⟨_, ⟨_, _, _, e, _⟩, _⟩ := x; exact Heap.lt_size e
  | rng lo hi => obtain ⟨_, _, _, e⟩ := x; exact Heap.lt_size e
  | frz ob u => obtain ⟨e, _⟩ := x; exact Heap.lt_size e
  | tbl ps => exact Heap.lt_size (show h.get? a = some _ from x)
  | met f y => exact Heap.lt_size (show h.get? a = some _ from x)
  | ext φ => obtain ⟨_, ⟨_, e⟩, _⟩ := x; exact Heap.lt_size e
theorem Paired.mapP {α β : Type} {F G : α → β → Prop} : ∀ {l₁ : List α} {l₂ : List β}, Paired F l₁ l₂ → (∀ a b, F a b → G a b) → Paired G l₁ l₂
  | _, _, .nil, _ => .nil
  | _, _, .cons r t, f => .cons (f _ _ r) (Paired.mapP t f)
/-- what an object's description leans on: its own object, its own dict, the tuples -/
theorem ObjOk.stay (x : ObjOk P w H h a o) (k : ∀ b u, (b = a ∨ H b = some (.own a)) → h.get? b = some u → h'.get? b = some u)
    (ho : ∀ b, H b = some (.own a) → H' b = some (.own a)) (ht : ∀ b xs, H b = some (.tup xs) → H' b = some (.tup xs)) : ObjOk P w H' h' a o := by
  induction o with
  | lst xs => obtain ⟨z, its, n, r, e⟩ := x; exact ⟨z, its, n, r, k _ _ (.inl rfl) e⟩
  | tup xs => obtain ⟨z, its, r, ob, e, c⟩ := x; exact ⟨z, its, r, ob, k _ _ (.inl rfl) e, c⟩
  | dK kvs => obtain ⟨z, y, vs, r, ob, es, ep, e, c⟩ := x; exact ⟨z, y, vs, r, ob, es, ep, k _ _ (.inl rfl) e, c⟩
  | dT kvs =>
    obtain ⟨z, y, xs, r, ob, es, ep, e, c⟩ := x
    exact ⟨z, y, xs, Paired.mapP r fun p q z => ⟨z.1, ht _ _ z.2.1, z.2.2⟩, ob, es, ep, k _ _ (.inl rfl) e, c⟩
  | set S n => obtain ⟨ob, es, ep, t, e, c⟩ := x; exact ⟨ob, es, ep, t, k _ _ (.inl rfl) e, c⟩
  | ins C dx fs =>
    obtain ⟨d, z, ne, e, mA, ⟨od, es, ep, e2, c⟩, r⟩ := x
    exact ⟨ho _ d, z, ne, k _ _ (.inl rfl) e, mA, ⟨od, es, ep, k _ _ (.inr d) e2, c⟩, r⟩
  | own y => obtain ⟨ob, e⟩ := x; exact ⟨ob, k _ _ (.inl rfl) e⟩
  | xd fs => obtain ⟨mA, ⟨od, es, ep, e, c⟩, r⟩ := x; exact ⟨mA, ⟨od, es, ep, k _ _ (.inl rfl) e, c⟩, r⟩
  | rng lo hi => obtain ⟨t, u, v, e⟩ := x; exact ⟨t, u, v, k _ _ (.inl rfl) e⟩
  | frz ob u ih => obtain ⟨e, q⟩ := x; exact ⟨k _ _ (.inl rfl) e, ih q⟩
  | tbl ps =>
    have e : h.get? a = some { cls := .none, data := .fields ps } := x
    show h'.get? a = some { cls := .none, data := .fields ps }
    exact k a _ (.inl rfl) e
  | met f y =>
    have e : h.get? a = some (PySem.W.methodObj (.ref f) (.ref y)) := x
    show h'.get? a = some (PySem.W.methodObj (.ref f) (.ref y))
    exact k a _ (.inl rfl) e
  | ext φ => obtain ⟨p, ⟨o, e⟩, st⟩ := x; exact ⟨st _ _ p fun o q => k _ _ (.inl rfl) q, ⟨o, k _ _ (.inl rfl) e⟩, st⟩
theorem HOk.lt (x : HOk P w H h) (e : H a = some o) : a < h.objs.size := (x a o e).lt
theorem HOk.fresh (x : HOk P w H h) (e : h.objs.size ≤ a) : H a = none := by
  cases q : H a with
  | none => rfl
  | some u => exact absurd (Nat.lt_of_lt_of_le (x.lt q) e) (Nat.lt_irrefl _)
/-- every object of the heap is kept -/
theorem HOk.kept (x : HOk P w H h) (k : ∀ b u, h.get? b = some u → h'.get? b = some u) : HOk P w H h' := fun a o e =>
  (x a o e).stay (fun b u _ q => k b u q) (fun _ q => q) fun _ _ q => q
/-- a new object is laid and tracked -/
theorem HOk.laid (x : HOk P w H h) (k : ∀ b u, h.get? b = some u → h'.get? b = some u) (hp : h.objs.size ≤ a) (new : ObjOk P w (upd H a o) h' a o) : HOk P w (upd H a o) h' := fun b u e => by
  have hn := x.fresh hp
  by_cases hb : b = a
  · subst hb; rw [upd_same] at e; cases e; exact new
  · rw [upd_ne hb] at e
    exact (x b u e).stay (fun c v _ q => k c v q) (fun c q => by rw [upd_ne (ne_of_none q hn)]; exact q) fun c xs q => by rw [upd_ne (ne_of_none q hn)]; exact q
end

/-- what may be read as u: it is u, or a known u -/
def Rd (H : Hp) (a : Addr) (u : HO) : Prop := H a = some u ∨ ∃ o, H a = some (.frz o u)
theorem Rd.ok {P : Program} {w : World} {H : Hp} {h : Heap} {a : Addr} {u : HO} (r : Rd H a u) (x : HOk P w H h) : ObjOk P w H h a u := by
  rcases r with r | ⟨o, r⟩
  · exact x a u r
  · obtain ⟨_, q⟩ := x a _ r
    exact q
/-- what may be written -/
def Mut : Option HO → Prop
  | some (.lst _) => True
  | some (.dK _) => True
  | some (.dT _) => True
  | some (.set _ _) => True
  | some (.ins _ _ _) => True
  | some (.ext _) => True
  | _ => False
section
variable {P : Program} {w : World} {H : Hp} {h h' : Heap} {x e : Addr} {o' : HO}
/-- the object at e is changed: x itself, or the dict of the instance x -/
theorem HOk.write (ok : HOk P w H h) (mu : Mut (H x)) (he : e = x ∨ H e = some (.own x)) (k : ∀ b u, b ≠ e → h.get? b = some u → h'.get? b = some u) (heo : ∃ u, h'.get? e = some u)
    (new : ObjOk P w (upd H x o') h' x o') : HOk P w (upd H x o') h' := fun b u q => by
  have nown : ∀ c y, H c = some (.own y) → c ≠ x := fun c y r z => by subst z; rw [r] at mu; exact mu
  have ntup : ∀ c xs, H c = some (.tup xs) → c ≠ x := fun c xs r z => by subst z; rw [r] at mu; exact mu
  by_cases hb : b = x
  · subst hb; rw [upd_same] at q; cases q; exact new
  · rw [upd_ne hb] at q
    by_cases hbe : b = e
    · have q' : H b = some (.own x) := by
        rcases he with z | z
        · exact absurd (hbe.trans z) hb
        · rw [hbe]; exact z
      rw [q] at q'; cases q'
      obtain ⟨v, hv⟩ := heo
      exact ⟨v, by rw [hbe]; exact hv⟩
    · refine (ok b u q).stay (fun c v hc r => k c v ?_ r) (fun c r => by rw [upd_ne (nown c b r)]; exact r) fun c xs r => by rw [upd_ne (ntup c xs r)]; exact r
      rcases hc with rfl | hc
      · exact hbe
      · rintro rfl
        rcases he with z | z
        · exact nown c b hc z
        · rw [hc] at z; cases z; exact hb rfl
end

/-! ### kept unless tracked; of the frames at fs (the callers') the slots may change (an exception that passes writes there); of the records at ex (iterators) nothing is said -/
structure Un (fs ex : List Addr) (H H' : Hp) (h h' : Heap) : Prop where
  keep : ∀ b o, h.get? b = some o → H b = none → b ∉ fs → b ∉ ex → h'.get? b = some o
  slot : ∀ b o, h.get? b = some o → H b = none → b ∈ fs → b ∉ ex → ∃ sl, h'.get? b = some { o with slots := sl }
  free : ∀ b o, h.get? b = some o → H b = none → b ∉ ex → H' b = none
  there : ∀ b o, h.get? b = some o → b ∉ ex → ∃ o', h'.get? b = some o'
  tups : ∀ b xs, H b = some (.tup xs) → H' b = some (.tup xs)
  frzs : ∀ b o u, H b = some (.frz o u) → H' b = some (.frz o u)
  tbls : ∀ b ps, H b = some (.tbl ps) → ∃ more, H' b = some (.tbl (ps ++ more))
section
variable {fs fs' ex ex' : List Addr} {H H1 H2 : Hp} {h h1 h2 h' : Heap} {a x e : Addr} {o : HO}
theorem Un.any (u : Un fs ex H H1 h h1) {b : Addr} {ob : Obj} (q : h.get? b = some ob) (n : H b = none) (hx : b ∉ ex) : ∃ sl, h1.get? b = some { ob with slots := sl } := by
  by_cases hb : b ∈ fs
  · exact u.slot b ob q n hb hx
  · exact ⟨ob.slots, u.keep b ob q n hb hx⟩
theorem Un.kept (k : ∀ b u, h.get? b = some u → h'.get? b = some u) : Un fs ex H H h h' :=
  ⟨fun b ob q _ _ _ => k b ob q, fun b ob q _ _ _ => ⟨ob.slots, k b ob q⟩, fun _ _ _ n _ => n, fun b ob q _ => ⟨ob, k b ob q⟩, fun _ _ q => q, fun _ _ _ q => q, fun _ ps q => ⟨#[], by rw [q]; simp⟩⟩
theorem Un.refl : Un fs ex H H h h := Un.kept fun _ _ q => q
theorem Un.laid (k : ∀ b u, h.get? b = some u → h'.get? b = some u) (hp : h.objs.size ≤ a) (hn : H a = none) : Un fs ex H (upd H a o) h h' where
  keep := fun b u q _ _ _ => k b u q
  slot := fun b u q _ _ _ => ⟨u.slots, k b u q⟩
  free := fun b u q n _ => by rw [upd_ne (Nat.ne_of_lt (Nat.lt_of_lt_of_le (Heap.lt_size q) hp))]; exact n
  there := fun b u q _ => ⟨u, k b u q⟩
  tups := fun b xs q => by rw [upd_ne (ne_of_none q hn)]; exact q
  frzs := fun b u xs q => by rw [upd_ne (ne_of_none q hn)]; exact q
  tbls := fun b ps q => ⟨#[], by rw [upd_ne (ne_of_none q hn), q]; simp⟩
theorem Un.write (mu : Mut (H x)) (he : e = x ∨ H e = some (.own x)) (k : ∀ b u, b ≠ e → h.get? b = some u → h'.get? b = some u) (heo : ∃ u, h'.get? e = some u) : Un fs ex H (upd H x o) h h' := by
  have hx : ∀ b, H b = none → b ≠ x := fun b n z => by subst z; rw [n] at mu; exact mu
  have hb : ∀ b, H b = none → b ≠ e := fun b n z => by
    subst z
    rcases he with r | r
    · exact hx b n r
    · rw [n] at r; cases r
  have hm : ∀ b u, H b = some u → ¬ Mut (some u) → b ≠ x := fun b u q nm z => by subst z; rw [q] at mu; exact nm mu
  refine ⟨fun b u q n _ _ => k b u (hb b n) q, fun b u q n _ _ => ⟨u.slots, k b u (hb b n) q⟩, fun b u q n _ => by rw [upd_ne (hx b n)]; exact n, fun b u q _ => ?_,
    fun b xs q => by rw [upd_ne (hm b _ q fun z => z)]; exact q, fun b u xs q => by rw [upd_ne (hm b _ q fun z => z)]; exact q, fun b ps q => ⟨#[], by rw [upd_ne (hm b _ q fun z => z), q]; simp⟩⟩
  by_cases hbe : b = e
  · subst hbe; exact heo
  · exact ⟨u, k b u hbe q⟩
end

/-! ### the heap without what is tracked -/
def trk (h : Heap) (H : Hp) : List Addr := (List.range h.objs.size).filter fun a => (H a).isSome
def hidT (h : Heap) (H : Hp) : Heap := PySem.W.hideAll h (trk h H)
theorem hidT_size (h : Heap) (H : Hp) : (hidT h H).objs.size = h.objs.size := PySem.W.hideAll_size _ _
theorem hidT_get {h : Heap} {H : Hp} {b : Addr} {o : Obj} (e : h.get? b = some o) (n : H b = none) : (hidT h H).get? b = some o :=
  PySem.W.hideAll_get _ e fun hm => by
    have q : (H b).isSome = true := (List.mem_filter.mp hm).2
    rw [n] at q; simp at q
theorem of_hidT {h : Heap} {H : Hp} {b : Addr} {o : Obj} (e : (hidT h H).get? b = some o) : h.get? b = some o ∧ H b = none := by
  have e' : h.get? b = some o := PySem.W.of_hideAll (trk h H) e
  refine ⟨e', ?_⟩
  cases q : H b with
  | none => rfl
  | some x =>
    have hm : b ∈ trk h H := List.mem_filter.mpr ⟨List.mem_range.mpr (Heap.lt_size e'), by simp [q]⟩
    have z : (hidT h H).get? b = none := PySem.W.hideAll_none (trk h H) hm
    rw [z] at e; cases e

/-! ### OpenK's ledger, filled with every new object but one -/
end L2

namespace L2
open PySem PySem.Spec PyProof.Rows

/-- the module's facts, over the base: the heap at the law's entry without what is tracked there -/
structure Mod (K : PySem.W.Frag) (mg : Str → Option Value) (base : Heap) : Prop where
  kin : K.In base
  glob : base.Ns mainGlobals mg
  blt : ∃ mb, base.Ns builtinsNs mb ∧ ∀ x : Str, x ≠ "__name__" → mb x = bootBuiltins x
  nolimit : base.NoLimit

/-- the context: a def's body (or a comprehension's block) running. base: fixed through the whole law; s₀, H₀: the entry; outer: the frames whose slots others may change (a def's callers); stack: all frames that run;
   ex: iterators that were made ahead of the entry and are walked here (a comprehension's); fn: the names whose cells were made at the entry (a def: all; a comprehension's block: its own); calm: not within an except suite; pn: pins that every state bears; xe: what is wanted of an exception that leaves the code -/
structure Cx where
  prog : Program
  w : World
  K : PySem.W.Frag
  mg : Str → Option Value
  base : Heap
  A : Around
  N : List Str
  s₀ : Shared
  H₀ : Hp
  env : Env
  outer : List Env
  stack : List Env
  ex : List Addr
  fn : Str → Bool
  calm : Bool
  pn : List (Addr × Obj)
  xe : Value → Shared → Prop
/-- the callers' frames -/
def frs (l : List Env) : List Addr := l.filterMap (·.frame)
abbrev Cx.fs (X : Cx) : List Addr := frs X.outer

def Vis (sc : Scope) (x : Str) : Prop := sc.names.lookup x = some .local ∨ sc.names.lookup x = some .cell ∨ sc.names.lookup x = some .free
def Loc (sc : Scope) (x : Str) : Prop := sc.names.lookup x = some .local ∨ sc.names.lookup x = some .cell
def Look (env : Env) (h : Heap) (m : Str → Option Value) (x : Str) (u : Value) : Prop :=
  (env.kindOf x = some .local ∧ m x = some u) ∨ ((env.kindOf x = some .cell ∨ env.kindOf x = some .free) ∧ ∃ c, env.cells.lookup x = some c ∧ h.IsCell c (some u))

structure Cx.Ok (X : Cx) : Prop where
  mod : Mod X.K X.mg X.base
  kind : X.env.scope.kind = .function
  glob : X.env.globals = mainGlobals
  blt : X.env.builtins = builtinsNs
  above : X.s₀.heap.objs.size ≤ X.env.locals
  inj : ∀ x y c, X.env.cells.lookup x = some c → X.env.cells.lookup y = some c → x = y
  has : ∀ x, (X.env.kindOf x = some .cell ∨ X.env.kindOf x = some .free) → ∃ c, X.env.cells.lookup x = some c
  cab : ∀ x c, X.fn x = true → X.env.cells.lookup x = some c → X.s₀.heap.objs.size ≤ c
  hd : X.calm = true → X.A.handled = none
  frames : X.A.frames = some X.stack
  stk : X.stack = X.outer ∨ (X.stack = X.env :: X.outer ∧ X.env.frame = some X.env.locals)
  exf : ∀ b ∈ X.ex, b ≠ X.env.locals ∧ ∀ x c, X.env.cells.lookup x = some c → c ≠ b
  bs : ∀ b o, X.base.get? b = some o → X.s₀.heap.get? b = some o ∧ X.H₀ b = none
  bsz : X.base.objs.size ≤ X.s₀.heap.objs.size
  noex : ∀ b o, X.base.get? b = some o → b ∉ X.ex
  exfs : ∀ b ∈ X.ex, b ∉ X.fs
  funs : X.s₀.heap.FunFrames X.base X.outer
  frf : ∀ b ∈ X.fs, X.H₀ b = none

structure Inv (X : Cx) (pins : List (Addr × Obj)) (σ : List (Option V)) (H : Hp) (s : Shared) : Prop where
  ok : X.Ok
  os : s.os = X.s₀.os
  bare : AllBare s.gens
  base : Un X.fs X.ex X.H₀ H X.s₀.heap s.heap
  loc : ∃ m, s.heap.Ns X.env.locals m ∧ ∀ (i : Nat) (x : Str) (v : V), X.N[i]? = some x → σ[i]? = some (some v) → Vis X.env.scope x → ∃ u, RelV v u ∧ Look X.env s.heap m x u
  cell : ∀ x c, X.env.cells.lookup x = some c → ∃ v, s.heap.IsCell c v
  free : H X.env.locals = none
  freeC : ∀ x c, X.env.cells.lookup x = some c → H c = none
  pin : ∀ p ∈ X.pn ++ pins, s.heap.get? p.1 = some p.2 ∧ H p.1 = none ∧ p.1 ≠ X.env.locals ∧ p.1 ∉ X.fs ∧ ∀ v, p.2.data ≠ .cell v
  hok : HOk X.prog X.w H s.heap
  len : σ.length = X.N.length

section
variable {X : Cx} {pins : List (Addr × Obj)} {σ : List (Option V)} {H H' : Hp} {s : Shared} {h' : Heap}

theorem Cx.Ok.nofr (ok : X.Ok) {b : Addr} {o : Obj} (e : X.base.get? b = some o) : b ∉ X.fs := fun hb => by
  have := (ok.funs.mem hb).1
  rw [e] at this; cases this
theorem Inv.bs (I : Inv X pins σ H s) : ∀ b o, X.base.get? b = some o → s.heap.get? b = some o ∧ H b = none := fun b o e =>
  ⟨I.base.keep b o (I.ok.bs b o e).1 (I.ok.bs b o e).2 (I.ok.nofr e) (I.ok.noex b o e), I.base.free b o (I.ok.bs b o e).1 (I.ok.bs b o e).2 (I.ok.noex b o e)⟩
theorem Inv.bk (I : Inv X pins σ H s) : ∀ b o, X.base.get? b = some o → s.heap.get? b = some o := fun b o e => (I.bs b o e).1
theorem Inv.mod (I : Inv X pins σ H s) : Mod X.K X.mg X.base := I.ok.mod
theorem Inv.kIn (I : Inv X pins σ H s) : X.K.In s.heap := I.ok.mod.kin.keeps I.bk
theorem Inv.lt (I : Inv X pins σ H s) : X.env.locals < s.heap.objs.size := let ⟨_, hn, _⟩ := I.loc; hn.lt
theorem Inv.sz (I : Inv X pins σ H s) : X.s₀.heap.objs.size ≤ s.heap.objs.size := Nat.le_trans I.ok.above (Nat.le_of_lt I.lt)
theorem Inv.nofs (I : Inv X pins σ H s) {a : Addr} (h : s.heap.objs.size ≤ a) : a ∉ X.fs := fun hb => by
  obtain ⟨_, o, ho, _⟩ := I.ok.funs.mem hb
  exact absurd (Nat.lt_of_lt_of_le (Heap.lt_size ho) (Nat.le_trans I.sz h)) (Nat.lt_irrefl _)
theorem Inv.cne (I : Inv X pins σ H s) : ∀ x c, X.env.cells.lookup x = some c → c ≠ X.env.locals := fun x c e z => by
  obtain ⟨v, o, ho, hd⟩ := I.cell x c e
  obtain ⟨m, ⟨o', es, ep, ho', hd', _⟩, _⟩ := I.loc
  rw [z, ho'] at ho; cases ho; rw [hd'] at hd; cases hd
theorem Inv.funs (I : Inv X pins σ H s) : s.heap.FunFrames X.base X.outer := by
  have all : ∀ (l : List Env), (∀ b ∈ frs l, b ∈ X.fs) → X.s₀.heap.FunFrames X.base l → s.heap.FunFrames X.base l := by
    intro l
    induction l with
    | nil => intro _ _; trivial
    | cons env r ih =>
      intro hs hl
      obtain ⟨hk, ⟨L, o, hf, hn, ho, hd⟩, hr⟩ := hl
      have hL : L ∈ X.fs := hs L (by unfold frs; rw [List.filterMap_cons, hf]; exact List.mem_cons_self)
      obtain ⟨sl, e⟩ := I.base.slot L o ho (I.ok.frf L hL) hL fun z => I.ok.exfs L z hL
      exact ⟨hk, ⟨L, _, hf, hn, e, hd⟩, ih (fun b hb => hs b (by unfold frs; rw [List.filterMap_cons, hf]; exact List.mem_cons_of_mem _ hb)) hr⟩
  exact all X.outer (fun _ hb => hb) I.ok.funs

/-- the frames that run, for a call -/
theorem Inv.stack (I : Inv X pins σ H s) : s.heap.FunFrames X.base X.stack := by
  rcases I.ok.stk with e | ⟨e, hf⟩
  · rw [e]; exact I.funs
  · rw [e]
    obtain ⟨m, hn, _⟩ := I.loc
    refine .cons (by rw [I.ok.kind]; decide) hf hn ?_ I.funs
    exact Heap.get?_none_of_le (Nat.le_trans I.ok.bsz I.ok.above)
theorem Inv.stkSub (I : Inv X pins σ H s) : ∀ b ∈ frs X.stack, b ∈ X.env.locals :: X.fs := fun b hb => by
  rcases I.ok.stk with e | ⟨e, hf⟩
  · rw [e] at hb; exact List.mem_cons_of_mem _ hb
  · rw [e] at hb
    unfold frs at hb
    rw [List.filterMap_cons, hf] at hb
    exact hb
theorem Inv.stkFree (I : Inv X pins σ H s) : ∀ b ∈ frs X.stack, H b = none := fun b hb => by
  rcases List.mem_cons.mp (I.stkSub b hb) with e | hb
  · rw [e]; exact I.free
  · obtain ⟨_, o, ho, _⟩ := I.ok.funs.mem hb
    exact I.base.free b o ho (I.ok.frf b hb) fun z => I.ok.exfs b z hb

/-- THE STEP: the untracked objects but the frame and the records at ch are kept (the callers' frames up to slots), the frame's map is kept, the new abstract heap is held -/
theorem Inv.step {g' : Array GenState} {t' : Nat} {d' : Drawn} {ch : List Addr} (I : Inv X pins σ H s)
    (hch : ∀ b ∈ ch, (b ∈ X.ex ∨ X.s₀.heap.objs.size ≤ b) ∧ b ≠ X.env.locals ∧ (∀ x c, X.env.cells.lookup x = some c → c ≠ b) ∧ ∀ p ∈ X.pn ++ pins, p.1 ≠ b)
    (keep : ∀ b o, b ≠ X.env.locals → b ∉ X.fs → b ∉ ch → s.heap.get? b = some o → H b = none → h'.get? b = some o)
    (slot : ∀ b o, b ≠ X.env.locals → b ∈ X.fs → b ∉ ch → s.heap.get? b = some o → H b = none → ∃ sl, h'.get? b = some { o with slots := sl }) (free : ∀ b o, b ∉ ch → s.heap.get? b = some o → H b = none → H' b = none)
    (there : ∀ b o, b ∉ ch → s.heap.get? b = some o → ∃ o', h'.get? b = some o')
    (tups : ∀ b xs, H b = some (.tup xs) → H' b = some (.tup xs)) (frzs : ∀ b o u, H b = some (.frz o u) → H' b = some (.frz o u)) (tbls : ∀ b ps, H b = some (.tbl ps) → ∃ more, H' b = some (.tbl (ps ++ more)))
    (ns : ∀ m, s.heap.Ns X.env.locals m → h'.Ns X.env.locals m) (hok : HOk X.prog X.w H' h') (hg : AllBare g') :
    Inv X pins σ H' { s with heap := h', gens := g', drawn := d', toks := t' } := by
  have neL : ∀ b o, X.s₀.heap.get? b = some o → b ≠ X.env.locals := fun b o e => Nat.ne_of_lt (Nat.lt_of_lt_of_le (Heap.lt_size e) I.ok.above)
  have neC : ∀ b o, X.s₀.heap.get? b = some o → b ∉ X.ex → b ∉ ch := fun b o e hx hb => by
    rcases (hch b hb).1 with z | z
    · exact hx z
    · exact absurd (Nat.lt_of_lt_of_le (Heap.lt_size e) z) (Nat.lt_irrefl _)
  have cellK : ∀ x c, X.env.cells.lookup x = some c → ∀ v, s.heap.IsCell c v → h'.IsCell c v := fun x c e v ⟨o, ho, hd⟩ => by
    have nch : c ∉ ch := fun z => (hch c z).2.2.1 x c e rfl
    by_cases hc : c ∈ X.fs
    · obtain ⟨sl, q⟩ := slot c o (I.cne x c e) hc nch ho (I.freeC x c e)
      exact ⟨_, q, hd⟩
    · exact ⟨o, keep c o (I.cne x c e) hc nch ho (I.freeC x c e), hd⟩
  refine ⟨I.ok, I.os, hg, ⟨fun b o e n hb hx => ?_, fun b o e n hb hx => ?_, fun b o e n hx => ?_, fun b o e hx => ?_, fun b xs e => tups b xs (I.base.tups b xs e), fun b o xs e => frzs b o xs (I.base.frzs b o xs e), fun b ps e => ?_⟩, ?_, fun x c e => ?_, ?_, fun x c e => ?_, fun p hp => ?_, hok, I.len⟩
  · exact keep b o (neL b o e) hb (neC b o e hx) (I.base.keep b o e n hb hx) (I.base.free b o e n hx)
  · obtain ⟨sl, e1⟩ := I.base.slot b o e n hb hx
    obtain ⟨sl', e2⟩ := slot b _ (neL b o e) hb (neC b o e hx) e1 (I.base.free b o e n hx)
    exact ⟨sl', e2⟩
  · obtain ⟨o', e1⟩ := I.base.there b o e hx
    exact free b o' (neC b o e hx) e1 (I.base.free b o e n hx)
  · obtain ⟨o', e1⟩ := I.base.there b o e hx
    exact there b o' (neC b o e hx) e1
  · obtain ⟨m1, e1⟩ := I.base.tbls b ps e
    obtain ⟨m2, e2⟩ := tbls b _ e1
    exact ⟨m1 ++ m2, by rw [e2, Array.append_assoc]⟩
  · obtain ⟨m, hn, hl⟩ := I.loc
    refine ⟨m, ns m hn, fun i x v e1 e2 e3 => ?_⟩
    obtain ⟨u, r, l⟩ := hl i x v e1 e2 e3
    refine ⟨u, r, ?_⟩
    rcases l with l | ⟨k, c, e, z⟩
    · exact .inl l
    · exact .inr ⟨k, c, e, cellK x c e _ z⟩
  · obtain ⟨v, z⟩ := I.cell x c e
    exact ⟨v, cellK x c e v z⟩
  · obtain ⟨m, ⟨o, _, _, ho, _⟩, _⟩ := I.loc
    exact free _ o (fun z => (hch _ z).2.1 rfl) ho I.free
  · obtain ⟨v, o, ho, hd⟩ := I.cell x c e
    exact free c o (fun z => (hch c z).2.2.1 x c e rfl) ho (I.freeC x c e)
  · obtain ⟨e, n, ne, nf, d⟩ := I.pin p hp
    have nch : p.1 ∉ ch := fun z => (hch p.1 z).2.2.2 p hp rfl
    exact ⟨keep p.1 p.2 ne nf nch e n, free p.1 p.2 nch e n, ne, nf, d⟩
/-- .. where the frame's own object is kept too -/
theorem Inv.un {t' : Nat} (I : Inv X pins σ H s) (u : Un X.fs [] H H' s.heap h') (hok : HOk X.prog X.w H' h') : Inv X pins σ H' { s with heap := h', toks := t' } := by
  obtain ⟨m, ⟨o, es, ep, ho, r⟩, _⟩ := id I.loc
  obtain ⟨sl, hL⟩ := u.any ho I.free (by simp)
  exact I.step (g' := s.gens) (d' := s.drawn) (ch := []) (fun _ z => nomatch z) (fun b o _ hb _ e n => u.keep b o e n hb (by simp)) (fun b o _ hb _ e n => u.slot b o e n hb (by simp)) (fun b o _ e n => u.free b o e n (by simp)) (fun b o _ e => u.there b o e (by simp)) u.tups u.frzs u.tbls (fun m' hm => by
    obtain ⟨o', es', ep', ho', r'⟩ := hm
    rw [ho] at ho'; cases ho'
    exact ⟨_, es', ep', hL, r'⟩) hok I.bare
/-- behind a call (or a comprehension's block): the slots of this frame may have changed too, the records at ch may have turned -/
theorem Inv.call {g' : Array GenState} {t' : Nat} {d' : Drawn} {ch : List Addr} (I : Inv X pins σ H s) (u : Un (frs X.stack) ch H H' s.heap h') (hok : HOk X.prog X.w H' h') (hg : AllBare g')
    (hch : ∀ b ∈ ch, (b ∈ X.ex ∨ X.s₀.heap.objs.size ≤ b) ∧ b ≠ X.env.locals ∧ (∀ x c, X.env.cells.lookup x = some c → c ≠ b) ∧ ∀ p ∈ X.pn ++ pins, p.1 ≠ b) :
    Inv X pins σ H' { s with heap := h', gens := g', drawn := d', toks := t' } := by
  obtain ⟨m, ⟨o, es, ep, ho, r⟩, _⟩ := id I.loc
  obtain ⟨sl, hL⟩ := u.any ho I.free fun z => (hch _ z).2.1 rfl
  exact I.step (ch := ch) hch (fun b o hL hb hc e n => u.keep b o e n (fun z => (List.mem_cons.mp (I.stkSub b z)).elim hL hb) hc) (fun b o _ _ hc e n => u.any e n hc) (fun b o hc e n => u.free b o e n hc) (fun b o hc e => u.there b o e hc) u.tups u.frzs u.tbls (fun m' hm => by
    obtain ⟨o', es', ep', ho', r'⟩ := hm
    rw [ho] at ho'; cases ho'
    exact ⟨_, es', ep', hL, r'⟩) hok hg
/-- an untracked record of ours (an iterator) has turned -/
theorem Inv.turned {t' : Nat} {it : Addr} (I : Inv X pins σ H s) (k : ∀ b o, b ≠ it → s.heap.get? b = some o → h'.get? b = some o) (hn : H it = none) (hL : it ≠ X.env.locals)
    (h1 : it ∈ X.ex ∨ X.s₀.heap.objs.size ≤ it) (h2 : ∀ x c, X.env.cells.lookup x = some c → c ≠ it) (h3 : ∀ p ∈ X.pn ++ pins, p.1 ≠ it) : Inv X pins σ H { s with heap := h', toks := t' } := by
  have nit : ∀ b u, H b = some u → b ≠ it := fun b u e z => by rw [z, hn] at e; cases e
  refine I.step (g' := s.gens) (d' := s.drawn) (ch := [it]) (fun b hb => ?_) (fun b o _ _ hc e _ => k b o (fun z => hc (by simp [z])) e) (fun b o _ _ hc e _ => ⟨o.slots, k b o (fun z => hc (by simp [z])) e⟩) (fun _ _ _ _ n => n)
    (fun b o hc e => ⟨o, k b o (fun z => hc (by simp [z])) e⟩) (fun _ _ e => e) (fun _ _ _ e => e) (fun b ps e => ⟨#[], by rw [e]; simp⟩) (fun m hm => ?_) (fun b u e => ?_) I.bare
  · have e : b = it := by simpa using hb
    subst e
    exact ⟨h1, hL, h2, h3⟩
  · obtain ⟨o, es, ep, ho, r⟩ := hm
    exact ⟨o, es, ep, k _ o (Ne.symm hL) ho, r⟩
  · refine (I.hok b u e).stay (fun c v hc q => k c v ?_ q) (fun _ q => q) fun _ _ q => q
    rcases hc with z | z
    · rw [z]; exact nit b u e
    · exact nit c _ z
theorem Inv.tok (I : Inv X pins σ H s) (t : Nat) : Inv X pins σ H { s with toks := t } := I.un (h' := s.heap) (t' := t) Un.refl I.hok
/-- all objects kept -/
theorem Inv.kept {t' : Nat} (I : Inv X pins σ H s) (k : ∀ b u, s.heap.get? b = some u → h'.get? b = some u) : Inv X pins σ H { s with heap := h', toks := t' } := I.un (Un.kept k) (I.hok.kept k)
/-- a new object laid and tracked -/
theorem Inv.laid {a : Addr} {o : HO} {t' : Nat} (I : Inv X pins σ H s) (k : ∀ b u, s.heap.get? b = some u → h'.get? b = some u) (hp : s.heap.objs.size ≤ a) (new : ObjOk X.prog X.w (upd H a o) h' a o) :
    Inv X pins σ (upd H a o) { s with heap := h', toks := t' } := I.un (Un.laid k hp (I.hok.fresh hp)) (I.hok.laid k hp new)
/-- an object written -/
theorem Inv.write {x e : Addr} {o : HO} {t' : Nat} (I : Inv X pins σ H s) (mu : Mut (H x)) (he : e = x ∨ H e = some (.own x)) (k : ∀ b u, b ≠ e → s.heap.get? b = some u → h'.get? b = some u) (heo : ∃ u, h'.get? e = some u)
    (new : ObjOk X.prog X.w (upd H x o) h' x o) : Inv X pins σ (upd H x o) { s with heap := h', toks := t' } := I.un (Un.write mu he k heo) (I.hok.write mu he k heo new)
theorem Inv.pins_of {pins' : List (Addr × Obj)} (I : Inv X pins σ H s) (h : ∀ p ∈ pins', s.heap.get? p.1 = some p.2 ∧ H p.1 = none ∧ p.1 ≠ X.env.locals ∧ p.1 ∉ X.fs ∧ ∀ v, p.2.data ≠ .cell v) : Inv X pins' σ H s :=
  ⟨I.ok, I.os, I.bare, I.base, I.loc, I.cell, I.free, I.freeC, fun p hp => (List.mem_append.mp hp).elim (fun z => I.pin p (List.mem_append_left _ z)) (h p), I.hok, I.len⟩

theorem nodup_ix {N : List Str} (hN : N.Nodup) {i j : Nat} {x : Str} (a : N[i]? = some x) (b : N[j]? = some x) : i = j := by
  obtain ⟨h1, e1⟩ := List.getElem?_eq_some_iff.mp a
  obtain ⟨h2, e2⟩ := List.getElem?_eq_some_iff.mp b
  exact (List.getElem_inj hN).mp (e1.trans e2.symm)

/-- a name is stored; what changed -/
theorem store_ok2 {M : Model} {A : Around} {E : Value → Shared → Prop} {i : Nat} {x : Str} {v : V} {u : Value} {Q : Unit → Shared → Prop} (I : Inv X pins σ H s) (hN : X.N.Nodup) (hi : X.N[i]? = some x) (hx : Loc X.env.scope x) (r : RelV v u)
    (h : ∀ s', Inv X pins (σ.set i (some v)) H s' → (∃ a, Heap.SameBut a s.heap s'.heap ∧ (a = X.env.locals ∨ X.env.cells.lookup x = some a)) → Q () s') (hf : X.fn x = true ∨ X.env.scope.names.lookup x = some .local := by first | exact .inl rfl | exact .inr rfl | assumption) : wpAny M A (storeName X.env x u) Q E s := by
  obtain ⟨m, hn, hl⟩ := id I.loc
  have hcls : (X.env.scope.kind == .class || (X.env.scope.kind == .module && X.env.locals != X.env.globals)) = false := by rw [I.ok.kind]; rfl
  have hiσ : i < σ.length := by rw [I.len]; exact (List.getElem?_eq_some_iff.mp hi).1
  have cne := I.cne
  have tracked : ∀ {a : Addr} {h' : Heap}, (∃ o, s.heap.get? a = some o ∧ H a = none) → Heap.SameBut a s.heap h' → HOk X.prog X.w H h' := fun {a h'} ha hs b ob e => by
    obtain ⟨_, _, hfree⟩ := ha
    refine (I.hok b ob e).stay (fun c w' hc q => (hs.2 c ?_).trans q) (fun _ q => q) fun _ _ q => q
    rintro rfl
    rcases hc with rfl | hc
    · rw [hfree] at e; cases e
    · rw [hfree] at hc; cases hc
  rcases hx with hk | hk
  · refine wpAny_storeName_local hk hn (fun h' hn' hs => ?_) hcls
    obtain ⟨oL, _, _, hoL, _⟩ := id hn
    refine h _ ⟨I.ok, I.os, I.bare, ⟨fun b o e n hb hx => ?_, fun b o e n hb hx => ?_, I.base.free, fun b o e hx => ?_, I.base.tups, I.base.frzs, I.base.tbls⟩, ⟨_, hn', fun j y v' e1 e2 e3 => ?_⟩, fun y c e => ?_, I.free, I.freeC, fun p hp => ?_, tracked ⟨oL, hoL, I.free⟩ hs, by simpa using I.len⟩ ⟨_, hs, .inl rfl⟩
    · exact (hs.2 b (Nat.ne_of_lt (Nat.lt_of_lt_of_le (Heap.lt_size e) I.ok.above))).trans (I.base.keep b o e n hb hx)
    · obtain ⟨sl, e1⟩ := I.base.slot b o e n hb hx
      exact ⟨sl, (hs.2 b (Nat.ne_of_lt (Nat.lt_of_lt_of_le (Heap.lt_size e) I.ok.above))).trans e1⟩
    · obtain ⟨o', e1⟩ := I.base.there b o e hx
      exact ⟨o', (hs.2 b (Nat.ne_of_lt (Nat.lt_of_lt_of_le (Heap.lt_size e) I.ok.above))).trans e1⟩
    · by_cases hj : j = i
      · subst hj
        rw [hi] at e1; cases e1
        rw [List.getElem?_set_self hiσ] at e2
        cases e2
        exact ⟨u, r, .inl ⟨hk, by simp⟩⟩
      · rw [List.getElem?_set_ne (Ne.symm hj)] at e2
        obtain ⟨u', r', q⟩ := hl j y v' e1 e2 e3
        refine ⟨u', r', ?_⟩
        rcases q with ⟨k, e⟩ | ⟨k, c, e, z⟩
        · refine .inl ⟨k, ?_⟩
          have : y ≠ x := fun e => hj (nodup_ix hN e1 (e ▸ hi))
          simp [this, e]
        · exact .inr ⟨k, c, e, z.sameBut hs (cne y c e)⟩
    · obtain ⟨w', z⟩ := I.cell y c e
      exact ⟨w', z.sameBut hs (cne y c e)⟩
    · obtain ⟨e, n, ne, nf, d⟩ := I.pin p hp
      exact ⟨(hs.2 p.1 ne).trans e, n, ne, nf, d⟩
  · have hfn : X.fn x = true := by
      rcases hf with z | z
      · exact z
      · rw [z] at hk; cases hk
    obtain ⟨c, hc⟩ := I.ok.has x (.inl hk)
    obtain ⟨w', z⟩ := I.cell x c hc
    refine wpAny_storeName_cell I.ok.kind hk hc z (fun h' hc' hs => ?_)
    obtain ⟨oc, hoc, hocd⟩ := id z
    refine h { s with heap := h' } ⟨I.ok, I.os, I.bare, ⟨fun b o e n hb hx => ?_, fun b o e n hb hx => ?_, I.base.free, fun b o e hx => ?_, I.base.tups, I.base.frzs, I.base.tbls⟩, ⟨m, hn.sameBut hs (Ne.symm (cne x c hc)), fun j y v' e1 e2 e3 => ?_⟩, fun y c' e => ?_, I.free, I.freeC, fun p hp => ?_, tracked ⟨oc, hoc, I.freeC x c hc⟩ hs, by simpa using I.len⟩ ⟨c, hs, .inr hc⟩
    · exact (hs.2 b (Nat.ne_of_lt (Nat.lt_of_lt_of_le (Heap.lt_size e) (I.ok.cab x c hfn hc)))).trans (I.base.keep b o e n hb hx)
    · obtain ⟨sl, e1⟩ := I.base.slot b o e n hb hx
      exact ⟨sl, (hs.2 b (Nat.ne_of_lt (Nat.lt_of_lt_of_le (Heap.lt_size e) (I.ok.cab x c hfn hc)))).trans e1⟩
    · obtain ⟨o', e1⟩ := I.base.there b o e hx
      exact ⟨o', (hs.2 b (Nat.ne_of_lt (Nat.lt_of_lt_of_le (Heap.lt_size e) (I.ok.cab x c hfn hc)))).trans e1⟩
    · by_cases hj : j = i
      · subst hj
        rw [hi] at e1; cases e1
        rw [List.getElem?_set_self hiσ] at e2
        cases e2
        exact ⟨u, r, .inr ⟨.inl hk, c, hc, hc'⟩⟩
      · rw [List.getElem?_set_ne (Ne.symm hj)] at e2
        obtain ⟨u', r', q⟩ := hl j y v' e1 e2 e3
        refine ⟨u', r', ?_⟩
        rcases q with q | ⟨k, c', e, z'⟩
        · exact .inl q
        · refine .inr ⟨k, c', e, z'.sameBut hs ?_⟩
          rintro rfl
          exact hj (nodup_ix hN e1 (I.ok.inj _ _ _ e hc ▸ hi))
    · by_cases hcc : c' = c
      · subst hcc; exact ⟨_, hc'⟩
      · obtain ⟨w2, z2⟩ := I.cell y c' e
        exact ⟨w2, z2.sameBut hs hcc⟩
    · obtain ⟨e, n, ne, nf, d⟩ := I.pin p hp
      refine ⟨(hs.2 p.1 ?_).trans e, n, ne, nf, d⟩
      intro q
      rw [q, hoc] at e
      have q' : oc = p.2 := Option.some.inj e
      exact d w' (by rw [← q']; exact hocd)
theorem store_ok {M : Model} {A : Around} {E : Value → Shared → Prop} {i : Nat} {x : Str} {v : V} {u : Value} {Q : Unit → Shared → Prop} (I : Inv X pins σ H s) (hN : X.N.Nodup) (hi : X.N[i]? = some x) (hx : Loc X.env.scope x) (r : RelV v u)
    (h : ∀ s', Inv X pins (σ.set i (some v)) H s' → Q () s') (hf : X.fn x = true ∨ X.env.scope.names.lookup x = some .local := by first | exact .inl rfl | exact .inr rfl | assumption) : wpAny M A (storeName X.env x u) Q E s :=
  store_ok2 I hN hi hx r (fun s' I' _ => h s' I') hf
/-- behind a call or a block, the state as it is -/
theorem Inv.call' {s' : Shared} {ch : List Addr} (I : Inv X pins σ H s) (ho : s'.os = s.os) (u : Un (frs X.stack) ch H H' s.heap s'.heap) (hok : HOk X.prog X.w H' s'.heap) (hg : AllBare s'.gens)
    (hch : ∀ b ∈ ch, (b ∈ X.ex ∨ X.s₀.heap.objs.size ≤ b) ∧ b ≠ X.env.locals ∧ (∀ x c, X.env.cells.lookup x = some c → c ≠ b) ∧ ∀ p ∈ X.pn ++ pins, p.1 ≠ b) : Inv X pins σ H' s' := by
  obtain ⟨h', g', d', t', o'⟩ := s'
  have e : o' = s.os := ho
  subst e
  exact I.call (g' := g') (t' := t') (d' := d') u hok hg hch
end

/-! ### the judgements -/
/-- an exception: its class, its own dict's address (where it has one), the abstract heap behind it -/
abbrev XK := Value → Option Addr → Hp → Prop
abbrev St := List (Option V)
abbrev VK := V → Hp → Prop
/-- an expression's reading; a test's; an argument list's -/
abbrev TE := St → Hp → VK → Prop
abbrev TT := St → Hp → (Bool → Hp → Prop) → Prop
abbrev TA := St → Hp → (List V → Hp → Prop) → Prop
/-- what is wanted behind a statement -/
structure Ends where
  nx : St → Hp → Prop
  rt : VK
  bk : St → Hp → Prop := fun _ _ => False
  ct : St → Hp → Prop := fun _ _ => False
abbrev TS := Ends → St → Hp → Prop

def EP (X : Cx) (pins : List (Addr × Obj)) (σ : St) (Q : VK) (u : Value) (s' : Shared) : Prop := ∃ v H', Inv X pins σ H' s' ∧ RelV v u ∧ Q v H'
def TP (X : Cx) (pins : List (Addr × Obj)) (σ : St) (Q : Bool → Hp → Prop) (b : Bool) (s' : Shared) : Prop := ∃ H', Inv X pins σ H' s' ∧ Q b H'
def AP (X : Cx) (pins : List (Addr × Obj)) (σ : St) (Q : List V → Hp → Prop) (us : List Value) (s' : Shared) : Prop := ∃ vs H', Inv X pins σ H' s' ∧ Vals vs us ∧ Q vs H'
def SP (X : Cx) (pins : List (Addr × Obj)) (D : Ends) (f : Flow) (s' : Shared) : Prop :=
  match f with
  | .next => ∃ σ' H', Inv X pins σ' H' s' ∧ D.nx σ' H'
  | .brk => ∃ σ' H', Inv X pins σ' H' s' ∧ D.bk σ' H'
  | .cont => ∃ σ' H', Inv X pins σ' H' s' ∧ D.ct σ' H'
  | .ret u => ∃ v σ' H', Inv X pins σ' H' s' ∧ RelV v u ∧ D.rt v H'

def PE (X : Cx) (e : Expr) (t : TE) : Prop :=
  ∀ (pins : List (Addr × Obj)) (s : Shared) (σ : St) (H : Hp) (Q : VK), Inv X pins σ H s → t σ H Q → wpAny (model X.prog X.w) X.A (eval e X.env) (EP X pins σ Q) X.xe s
def PT (X : Cx) (e : Expr) (t : TT) : Prop :=
  ∀ (pins : List (Addr × Obj)) (s : Shared) (σ : St) (H : Hp) (Q : Bool → Hp → Prop), Inv X pins σ H s → t σ H Q → wpAny (model X.prog X.w) X.A (isTrue e X.env (eval e X.env)) (TP X pins σ Q) X.xe s
/-- a test whatever its 'whole' is (and, or) -/
def PW (X : Cx) (e : Expr) (t : TT) : Prop :=
  ∀ (whole : Sem Value) (pins : List (Addr × Obj)) (s : Shared) (σ : St) (H : Hp) (Q : Bool → Hp → Prop), Inv X pins σ H s → t σ H Q → wpAny (model X.prog X.w) X.A (isTrue e X.env whole) (TP X pins σ Q) X.xe s
theorem PW.pt {X : Cx} {e : Expr} {t : TT} (h : PW X e t) : PT X e t := h _
/-- an argument list (no star), from the left -/
def PA (X : Cx) (es : List Expr) (t : TA) : Prop :=
  ∀ (pos : Pos) (pins : List (Addr × Obj)) (s : Shared) (σ : St) (H : Hp) (Q : List V → Hp → Prop), Inv X pins σ H s → t σ H Q → wpAny (model X.prog X.w) X.A (spliced (backTo pos (starEach es X.env))) (AP X pins σ Q) X.xe s
def PS (X : Cx) (st : Stmt) (t : TS) : Prop :=
  ∀ (pins : List (Addr × Obj)) (s : Shared) (σ : St) (H : Hp) (D : Ends), Inv X pins σ H s → t D σ H → wpAny (model X.prog X.w) X.A (exec st X.env) (SP X pins D) X.xe s
def PSs (X : Cx) (st : List Stmt) (t : TS) : Prop :=
  ∀ (pins : List (Addr × Obj)) (s : Shared) (σ : St) (H : Hp) (D : Ends), Inv X pins σ H s → t D σ H → wpAny (model X.prog X.w) X.A (execs st X.env) (SP X pins D) X.xe s
/-- weaken the end -/
theorem thn {α : Type} {t : Sem α} {Q Q' : α → Shared → Prop} {M : Model} {A : Around} {E : Value → Shared → Prop} {s : Shared} (h : wpAny M A t Q E s) (hQ : ∀ a s, Q a s → Q' a s) : wpAny M A t Q' E s := wpAny_mono h hQ fun _ _ x => x
end L2

namespace L2
open PySem PySem.Spec PyProof.Rows
section
variable {X : Cx}


/-! ### names and constants -/
def tVar (i : Nat) : TE := fun σ H Q => ∃ v, σ[i]? = some (some v) ∧ Q v H
def tC (v : V) : TE := fun _ H Q => Q v H
theorem pe_var {i : Nat} {x : Str} {pos : Pos} (hN : X.N[i]? = some x) (hv : Vis X.env.scope x) (hd : (x == ("__debug__" : Str)) = false := by decide) (hcd : (x == ("__classdict__" : Str)) = false := by decide) : PE X (.Name x pos) (tVar i) := by
  intro pins s σ H Q I h
  obtain ⟨v, e, h⟩ := h
  obtain ⟨m, hn, hl⟩ := I.loc
  obtain ⟨u, r, l⟩ := hl i x v hN e hv
  have fin : EP X pins σ Q u s := ⟨v, H, I, r, h⟩
  rcases l with ⟨hk, hm⟩ | ⟨hk, c, hc, hcell⟩
  · exact wpAny_Name (wpAny_loadName_local I.ok.kind hk hn hm fin) hd
  · rcases hk with hk | hk
    · exact wpAny_Name (wpAny_loadName_cell I.ok.kind hk hc hcell fin) hd
    · exact wpAny_Name (wpAny_loadName_free I.ok.kind hk hc hcell fin hcd) hd
theorem pe_int {i j pos} : PE X (.Constant (.int i) j pos) (tC (.int i)) := fun _ _ _ H _ I h => wpAny_Constant_int ⟨.int i, H, I.tok _, ⟨_, rfl⟩, h⟩
theorem pe_bl {b j pos} : PE X (.Constant (.bool b) j pos) (tC (.bl b)) := fun _ _ _ H _ I h => Constant_bool ⟨.bl b, H, I, rfl, h⟩
theorem pe_str {x j pos} : PE X (.Constant (.str x) j pos) (tC (.str x)) := fun _ _ _ H _ I h => Calls.Constant_str ⟨.str x, H, I.tok _, ⟨_, rfl⟩, h⟩

/-- a global name of the def -/
def Gl (X : Cx) (x : Str) : Prop := X.env.kindOf x = some .globalImplicit
theorem ld_glob {E : Value → Shared → Prop} {pins : List (Addr × Obj)} {s : Shared} {σ : St} {H : Hp} {x : Str} {u : Value} {pos : Pos} {Q : Value → Shared → Prop} (I : Inv X pins σ H s) (hg : Gl X x) (hm : X.mg x = some u) (h : Q u s)
    (hd : (x == ("__debug__" : Str)) = false := by decide) : wpAny (model X.prog X.w) X.A (eval (.Name x pos) X.env) Q E s :=
  Calls.Name_function_global I.ok.kind hg (Calls.loadGlobal_global (by rw [I.ok.glob]; exact I.mod.glob.keeps I.bk) hm h) hd
theorem ld_blt {E : Value → Shared → Prop} {pins : List (Addr × Obj)} {s : Shared} {σ : St} {H : Hp} {x : Str} {u : Value} {pos : Pos} {Q : Value → Shared → Prop} (I : Inv X pins σ H s) (hg : Gl X x) (hm : X.mg x = none) (hv : bootBuiltins x = some u) (h : Q u s)
    (hn : x ≠ "__name__" := by decide) (hd : (x == ("__debug__" : Str)) = false := by decide) : wpAny (model X.prog X.w) X.A (eval (.Name x pos) X.env) Q E s := by
  obtain ⟨mb, h1, h2⟩ := I.mod.blt
  exact Calls.Name_function_global I.ok.kind hg (Calls.loadGlobal_builtin (by rw [I.ok.glob]; exact I.mod.glob.keeps I.bk) hm (by rw [I.ok.blt]; exact h1.keeps I.bk) ((h2 x hn).trans hv) h) hd
theorem pe_bltn {x : Str} {v : V} {u : Value} {pos : Pos} (hg : Gl X x) (hm : X.mg x = none) (hv : bootBuiltins x = some u) (r : RelV v u) (hn : x ≠ "__name__" := by decide) (hd : (x == ("__debug__" : Str)) = false := by decide) : PE X (.Name x pos) (tC v) :=
  fun _ _ _ H _ I h => ld_blt I hg hm hv ⟨v, H, I, r, h⟩ hn hd

/-! ### arithmetic -/
variable {a b : Expr} {ta tb : TE} {pos : Pos}

/-! ### comparisons -/
/-- a comparison as a value, as a test -/
def tB (t : TE) : TT := fun σ H Q => t σ H fun x H1 => ∃ c, x = .bl c ∧ Q c H1
/-- an expression whose value is a bool, as a test -/
theorem pt_val {e : Expr} {t : TE} (h : PE X e t) (he : ∀ whole, isTrue e X.env whole = (do let v ← whole; standAt e.pos; holding [v] (truthy v)) := by intro _; rfl) : PT X e (tB t) := by
  intro pins s σ H Q I hw
  refine isTrue_plain (thn (h pins s σ H _ I hw) fun v s1 ⟨x, H1, I1, r1, q1⟩ => ?_) (he _)
  obtain ⟨d, rfl, q⟩ := q1
  cases r1
  exact wpAny_truthy_bool ⟨H1, I1, q⟩

/-! ### and, or, not -/
variable {tA tB' : TT} {rest : List Expr}
def tAnd (t u : TT) : TT := fun σ H Q => t σ H fun c H1 => if c = true then u σ H1 Q else Q false H1
def tOr (t u : TT) : TT := fun σ H Q => t σ H fun c H1 => if c = true then Q true H1 else u σ H1 Q
def tNot (t : TT) : TT := fun σ H Q => t σ H fun c H1 => Q (!c) H1
theorem pw_and1 (ha : PT X a tA) : PW X (.BoolOp .And [a] pos) tA := by
  intro wh pins s σ H Q I h
  refine isTrue_and (thn (ha pins s σ H Q I h) fun c s1 e => ?_)
  cases c with
  | true => exact isTrue_and_nil e
  | false => exact e
theorem pw_or1 (ha : PT X a tA) : PW X (.BoolOp .Or [a] pos) tA := by
  intro wh pins s σ H Q I h
  refine isTrue_or (thn (ha pins s σ H Q I h) fun c s1 e => ?_)
  cases c with
  | false => exact isTrue_or_nil e
  | true => exact e
theorem pw_and (ha : PT X a tA) (hb : PW X (.BoolOp .And (b :: rest) pos) tB') : PW X (.BoolOp .And (a :: b :: rest) pos) (tAnd tA tB') := by
  intro wh pins s σ H Q I h
  refine isTrue_and (thn (ha pins s σ H _ I h) fun c s1 ⟨H1, I1, q1⟩ => ?_)
  cases c with
  | true => exact hb wh pins s1 σ H1 Q I1 q1
  | false => exact ⟨H1, I1, q1⟩
theorem pw_or (ha : PT X a tA) (hb : PW X (.BoolOp .Or (b :: rest) pos) tB') : PW X (.BoolOp .Or (a :: b :: rest) pos) (tOr tA tB') := by
  intro wh pins s σ H Q I h
  refine isTrue_or (thn (ha pins s σ H _ I h) fun c s1 ⟨H1, I1, q1⟩ => ?_)
  cases c with
  | true => exact ⟨H1, I1, q1⟩
  | false => exact hb wh pins s1 σ H1 Q I1 q1
theorem pt_not (ha : PT X a tA) : PT X (.UnaryOp .Not a pos) (tNot tA) := by
  intro pins s σ H Q I h
  exact isTrue_not (ha pins s σ H (fun c H1 => Q (!c) H1) I h)
/-- .. as values (bools) -/
def tAndV (ta tb : TE) : TE := fun σ H Q => ta σ H fun x H1 => ∃ c, x = .bl c ∧ if c = true then tb σ H1 Q else Q (.bl false) H1
theorem pe_one {op} {t : TE} (h : PE X a t) : PE X (.BoolOp op [a] pos) t := fun pins s σ H Q I hw => BoolOp_one (h pins s σ H Q I hw)
theorem pe_and (ha : PE X a ta) (hb : PE X (.BoolOp .And (b :: rest) pos) tb) : PE X (.BoolOp .And (a :: b :: rest) pos) (tAndV ta tb) := by
  intro pins s σ H Q I h
  refine BoolOp_and (thn (ha pins s σ H _ I h) fun v s1 ⟨x, H1, I1, r1, q1⟩ => ?_)
  obtain ⟨c, rfl, q1⟩ := q1
  cases r1
  refine wpAny_truthy_bool ?_
  cases c with
  | true => exact hb pins s1 σ H1 Q I1 q1
  | false => exact ⟨.bl false, H1, I1, rfl, q1⟩
/-- a if t else b -/
def tIf (t : TT) (ta tb : TE) : TE := fun σ H Q => t σ H fun c H1 => if c = true then ta σ H1 Q else tb σ H1 Q
theorem pe_ifExp {c : Expr} (hc : PT X c tA) (ha : PE X a ta) (hb : PE X b tb) : PE X (.IfExp c a b pos) (tIf tA ta tb) := by
  intro pins s σ H Q I h
  refine wpAny_IfExp (thn (hc pins s σ H _ I h) fun d s1 ⟨H1, I1, q1⟩ => ?_)
  cases d with
  | true => exact ha pins s1 σ H1 Q I1 q1
  | false => exact hb pins s1 σ H1 Q I1 q1
end
end L2

namespace L2
open PySem PySem.Spec PyProof.Rows

/-! ### a list, a tuple that is read: tracked, frozen, or an object of the module -/
def SqL (K : PySem.W.Frag) (H : Hp) (a : Addr) (xs : List V) : Prop :=
  Rd H a (.lst xs) ∨
    ∃ (o : Obj) (its : Array Value) (n : Nat), K.lookup a = some o ∧ o.cls = .type "list" ∧ o.dict = none ∧ o.data = .seq its n ∧ its.size ≤ sizeLine ∧ Vals xs its.toList
def SqT (K : PySem.W.Frag) (H : Hp) (a : Addr) (xs : List V) : Prop :=
  Rd H a (.tup xs) ∨
    ∃ (o : Obj) (its : Array Value) (n : Nat), K.lookup a = some o ∧ o.cls = .type "tuple" ∧ o.data = .seq its n ∧ its.size ≤ sizeLine ∧ Vals xs its.toList
def absV : Value → Option V
  | .none => some .non
  | .bool b => some (.bl b)
  | .int i _ => some (.int i)
  | .str x _ => some (.str x)
  | .bytes b _ => some (.byt b)
  | .float b _ => some (.flt b)
  | .ref a => some (.ref a)
  | .type n => some (.ty n)
  | _ => none
theorem RelV.abs {x : V} {u : Value} (r : RelV x u) : absV u = some x := by
  cases x with
  | non => cases r; rfl
  | bl _ => cases r; rfl
  | int _ => obtain ⟨t, rfl⟩ := r; rfl
  | str _ => obtain ⟨t, rfl⟩ := r; rfl
  | byt _ => obtain ⟨t, rfl⟩ := r; rfl
  | flt _ => obtain ⟨t, rfl⟩ := r; rfl
  | ref _ => cases r; rfl
  | ty _ => cases r; rfl
theorem RelV.inj {x y : V} {u : Value} (r : RelV x u) (q : RelV y u) : x = y := Option.some.inj (r.abs.symm.trans q.abs)
theorem Vals.inj : ∀ {xs ys : List V} {us : List Value}, Vals xs us → Vals ys us → xs = ys
  | _, _, _, .nil, .nil => rfl
  | _, _, _, .cons r t, .cons r' t' => by rw [r.inj r', Vals.inj t t']
section
variable {X : Cx} {pins : List (Addr × Obj)} {σ : St} {H : Hp} {s : Shared} {a : Addr} {xs ys : List V}
theorem SqL.of {K : PySem.W.Frag} (h : H a = some (.lst xs)) : SqL K H a xs := .inl (.inl h)
theorem SqT.of {K : PySem.W.Frag} (h : H a = some (.tup xs)) : SqT K H a xs := .inl (.inl h)
theorem Inv.list (I : Inv X pins σ H s) (h : SqL X.K H a xs) : ∃ its : List Value, Vals xs its ∧ PlainL s.heap a its.toArray ∧ xs.length ≤ sizeLine := by
  rcases h with h | ⟨o, its, n, hk, hc, hd, hs, hz, r⟩
  · obtain ⟨z, its, n, r, e⟩ := h.ok I.hok
    exact ⟨its, r, ⟨_, n, e, rfl, rfl, rfl⟩, z⟩
  · refine ⟨its.toList, r, ⟨o, n, I.kIn a o hk, hc, hd, by simpa using hs⟩, ?_⟩
    have e := r.length
    simp only [Array.length_toList] at e
    omega
theorem Inv.tuple (I : Inv X pins σ H s) (h : SqT X.K H a xs) : ∃ its : List Value, Vals xs its ∧ IsTup s.heap a its.toArray ∧ xs.length ≤ sizeLine := by
  rcases h with h | ⟨o, its, n, hk, hc, hs, hz, r⟩
  · obtain ⟨z, its, r, p⟩ := h.ok I.hok
    exact ⟨its, r, p, z⟩
  · refine ⟨its.toList, r, ⟨o, I.kIn a o hk, hc, n, by simpa using hs⟩, ?_⟩
    have e := r.length
    simp only [Array.length_toList] at e
    omega
theorem Inv.list_inj (I : Inv X pins σ H s) (h : SqL X.K H a xs) (h' : SqL X.K H a ys) : xs = ys := by
  obtain ⟨its, r, ⟨o, n, e, _, _, d⟩, _⟩ := I.list h
  obtain ⟨its', r', ⟨o', n', e', _, _, d'⟩, _⟩ := I.list h'
  rw [e] at e'; cases e'
  rw [d] at d'
  injection d' with d1 _
  have : its = its' := by simpa using congrArg Array.toList d1
  subst this
  exact r.inj r'
end

/-! ### another wish about exceptions -/
abbrev Cx.wish (X : Cx) (E : Value → Shared → Prop) : Cx := { X with xe := E }
/-- no exception leaves -/
abbrev Cx.nox (X : Cx) : Cx := X.wish fun _ _ => False
theorem Cx.Ok.wish {X : Cx} (ok : X.Ok) (E : Value → Shared → Prop) : (X.wish E).Ok :=
  ⟨ok.mod, ok.kind, ok.glob, ok.blt, ok.above, ok.inj, ok.has, ok.cab, ok.hd, ok.frames, ok.stk, ok.exf, ok.bs, ok.bsz, ok.noex, ok.exfs, ok.funs, ok.frf⟩
theorem Cx.Ok.unwish {X : Cx} {E : Value → Shared → Prop} (ok : (X.wish E).Ok) : X.Ok :=
  ⟨ok.mod, ok.kind, ok.glob, ok.blt, ok.above, ok.inj, ok.has, ok.cab, ok.hd, ok.frames, ok.stk, ok.exf, ok.bs, ok.bsz, ok.noex, ok.exfs, ok.funs, ok.frf⟩
section
variable {X : Cx} {pins : List (Addr × Obj)} {σ : St} {H : Hp} {s : Shared} {E : Value → Shared → Prop}
theorem Inv.wish (I : Inv X pins σ H s) (E : Value → Shared → Prop) : Inv (X.wish E) pins σ H s := ⟨I.ok.wish E, I.os, I.bare, I.base, I.loc, I.cell, I.free, I.freeC, I.pin, I.hok, I.len⟩
theorem Inv.unwish (I : Inv (X.wish E) pins σ H s) : Inv X pins σ H s := ⟨I.ok.unwish, I.os, I.bare, I.base, I.loc, I.cell, I.free, I.freeC, I.pin, I.hok, I.len⟩
theorem SP.unwish {D : Ends} {f : Flow} {s' : Shared} (h : SP (X.wish E) pins D f s') : SP X pins D f s' := by
  cases f with
  | next => obtain ⟨σ', H', I, q⟩ := h; exact ⟨σ', H', I.unwish, q⟩
  | brk => obtain ⟨σ', H', I, q⟩ := h; exact ⟨σ', H', I.unwish, q⟩
  | cont => obtain ⟨σ', H', I, q⟩ := h; exact ⟨σ', H', I.unwish, q⟩
  | ret u => obtain ⟨v, σ', H', I, r, q⟩ := h; exact ⟨v, σ', H', I.unwish, r, q⟩
theorem PSs.nox {st : List Stmt} {t : TS} (h : PSs X.nox st t) : PSs X st t := fun pins s σ H D I hw =>
  wpAny_mono (h pins s σ H D (I.wish _) hw) (fun _ _ q => q.unwish) fun _ _ z => False.elim z
end

/-! ### blocks and small statements -/
section
variable {X : Cx} {st : Stmt} {rest : List Stmt} {t u : TS} {e : Expr} {te : TE} {pos : Pos}
def tNext : TS := fun D σ H => D.nx σ H
def tSeq (t u : TS) : TS := fun D σ H => t { D with nx := u D } σ H
theorem pss_nil : PSs X [] tNext := fun _ _ σ H _ I h => wpAny_execs_nil ⟨σ, H, I, h⟩
theorem pss_cons (h1 : PS X st t) (h2 : PSs X rest u) : PSs X (st :: rest) (tSeq t u) := by
  intro pins s σ H D I h
  refine wpAny_execs_cons (thn (h1 pins s σ H { D with nx := u D } I h) fun f s1 q => ?_)
  cases f with
  | next =>
    obtain ⟨σ', H', I', q⟩ := q
    exact h2 pins s1 σ' H' D I' q
  | ret v => exact q
  | brk => exact q
  | cont => exact q
theorem pss_one (h1 : PS X st t) : PSs X [st] t := by
  intro pins s σ H D I h
  refine wpAny_execs_cons (thn (h1 pins s σ H D I h) fun f s1 q => ?_)
  cases f with
  | next => exact wpAny_execs_nil q
  | ret v => exact q
  | brk => exact q
  | cont => exact q
/-- in a def's body nothing is shown -/
theorem Inv.quiet {pins : List (Addr × Obj)} {σ : St} {H : Hp} {s : Shared} (I : Inv X pins σ H s) : interactive X.env = false := by simp [interactive, I.ok.kind]
/-- an expression whose value is dropped -/
def tDrop (te : TE) : TS := fun D σ H => te σ H fun _ H1 => D.nx σ H1
theorem ps_expr (he : PE X e te) (hs : swapsWith e none pos.line X.env = pure false := by rfl) : PS X (.Expr e pos) (tDrop te) := by
  intro pins s σ H D I h
  exact wpAny_Expr_any (thn (he pins s σ H _ I h) fun v s1 ⟨x, H1, I1, r1, q1⟩ => ⟨σ, H1, I1, q1⟩) I.quiet hs
def tRet (te : TE) : TS := fun D σ H => te σ H D.rt
theorem ps_ret (he : PE X e te) : PS X (.Return (some e) pos) (tRet te) := by
  intro pins s σ H D I h
  exact wpAny_Return_some (thn (he pins s σ H _ I h) fun v s1 ⟨x, H1, I1, r1, q1⟩ => ⟨x, σ, H1, I1, r1, q1⟩)
def tIfS (c : TT) (t u : TS) : TS := fun D σ H => c σ H fun b H1 => if b = true then t D σ H1 else u D σ H1
theorem ps_if {c : Expr} {a b : List Stmt} {tc : TT} (hc : PT X c tc) (ha : PSs X a t) (hb : PSs X b u) : PS X (.If c a b pos) (tIfS tc t u) := by
  intro pins s σ H D I h
  refine wpAny_If (thn (hc pins s σ H _ I h) fun d s1 ⟨H1, I1, q1⟩ => ?_)
  cases d with
  | true => exact ha pins s1 σ H1 D I1 q1
  | false => exact hb pins s1 σ H1 D I1 q1
end

/-! ### targets -/
abbrev TG := V → St → Hp → (St → Hp → Prop) → Prop
def PG (X : Cx) (target : Expr) (t : TG) : Prop :=
  ∀ (pins : List (Addr × Obj)) (s : Shared) (σ : St) (H : Hp) (v : V) (u : Value) (Q : St → Hp → Prop), Inv X pins σ H s → RelV v u → t v σ H Q →
    wpAny (model X.prog X.w) X.A (assign target X.env u) (fun _ s' => ∃ σ' H', Inv X pins σ' H' s' ∧ Q σ' H') X.xe s
section
variable {X : Cx} {pos : Pos}
def gName (i : Nat) : TG := fun v σ H Q => Q (σ.set i (some v)) H
theorem pg_name {i : Nat} {x : Str} (hN : X.N.Nodup) (hi : X.N[i]? = some x) (hx : Loc X.env.scope x) (hf : X.fn x = true ∨ X.env.scope.names.lookup x = some .local := by first | exact .inl rfl | exact .inr rfl | assumption) : PG X (.Name x pos) (gName i) := by
  intro pins s σ H v u Q I r h
  exact wpAny_assign_Name (store_ok I hN hi hx r (fun s' I' => ⟨_, H, I', h⟩) hf)
/-- target = value -/
def tAsg (te : TE) (g : TG) : TS := fun D σ H => te σ H fun x H1 => g x σ H1 D.nx
/-- name = value -/
theorem ps_set {i : Nat} {x : Str} {e : Expr} {te : TE} {pos' : Pos} (hN : X.N.Nodup) (hi : X.N[i]? = some x) (hx : Loc X.env.scope x) (he : PE X e te) (hs : swapsWith e (some (.Name x pos')) pos.line X.env = pure false := by rfl) (hf : X.fn x = true ∨ X.env.scope.names.lookup x = some .local := by first | exact .inl rfl | exact .inr rfl | assumption) :
    PS X (.Assign [.Name x pos'] e pos) (tAsg te (gName i)) := by
  intro pins s σ H D I h
  refine wpAny_Assign_Name (thn (he pins s σ H _ I h) fun v s1 ⟨y, H1, I1, r1, q1⟩ => ?_) hs
  exact store_ok I1 hN hi hx r1 (fun s2 I2 => ⟨_, H1, I2, q1⟩) hf
end

/-! ### while -/
section
variable {X : Cx} {pos : Pos}
end

/-! ### what a loop or a comprehension walks -/
/-- at turn i: it yields x (the heap may grow), or it stops -/
structure It where
  go : Nat → Hp → Prop
  yld : Nat → Hp → V → Hp → Prop
  stop : Nat → Hp → Prop
/-- the iterator's own objects may turn: they are not the frame's, not pinned, younger than the entry (or a comprehension's own) -/
def FpOk (X : Cx) (pins : List (Addr × Obj)) (H : Hp) (b : Addr) : Prop :=
  H b = none ∧ b ≠ X.env.locals ∧ b ∉ X.fs ∧ (b ∈ X.ex ∨ X.s₀.heap.objs.size ≤ b) ∧ (∀ x c, X.env.cells.lookup x = some c → c ≠ b) ∧ ∀ p ∈ X.pn ++ pins, p.1 ≠ b
theorem Inv.fpOk {X : Cx} {pins : List (Addr × Obj)} {σ : St} {H H' : Hp} {s : Shared} {b : Addr} (I : Inv X pins σ H s) (hb : s.heap.objs.size ≤ b) (hn : H' b = none) : FpOk X pins H' b := by
  refine ⟨hn, Nat.ne_of_gt (Nat.lt_of_lt_of_le I.lt hb), I.nofs hb, .inr (Nat.le_trans I.sz hb), fun x c e z => ?_, fun p hp z => ?_⟩
  · obtain ⟨v, q⟩ := I.cell x c e
    exact absurd (Nat.lt_of_lt_of_le q.lt (by rw [z]; exact hb)) (Nat.lt_irrefl _)
  · exact absurd (Nat.lt_of_lt_of_le (Heap.lt_size (I.pin p hp).1) (by rw [z]; exact hb)) (Nat.lt_irrefl _)
structure Turn (P : Program) (w : World) (K : PySem.W.Frag) (tg : Expr) (J : It) (fp : List Addr) (it : Addr) (tn : Nat → Heap → Prop) : Prop where
  mem : it ∈ fp
  obj : ∀ i h, tn i h → ∀ b ∈ fp, ∃ o, h.get? b = some o ∧ ∀ v, o.data ≠ .cell v
  keep : ∀ i h h', tn i h → (∀ b ∈ fp, ∀ o, h.get? b = some o → h'.get? b = some o) → tn i h'
  item : ∀ (X : Cx), X.prog = P → X.w = w → X.K = K → X.calm = true → ∀ (i : Nat) (pins : List (Addr × Obj)) (s : Shared) (σ : St) (H : Hp) (E : Value → Shared → Prop), Inv X pins σ H s → (∀ b ∈ fp, FpOk X pins H b) → tn i s.heap → J.go i H →
    wpAny (model P w) X.A (pyNext (.ref it)) (fun r s1 => ∃ u, r = some u ∧
      wpAny (model P w) X.A (letOwnedTupleGo tg (.ref it) u) (fun _ s2 => ∃ x H', Inv X pins σ H' s2 ∧ RelV x u ∧ J.yld i H x H' ∧ tn (i + 1) s2.heap ∧ ∀ b ∈ fp, H' b = none) E s1) E s
  done : ∀ (X : Cx), X.prog = P → X.w = w → X.K = K → X.calm = true → ∀ (i : Nat) (pins : List (Addr × Obj)) (s : Shared) (σ : St) (H : Hp) (E : Value → Shared → Prop), Inv X pins σ H s → (∀ b ∈ fp, FpOk X pins H b) → tn i s.heap → J.stop i H →
    wpAny (model P w) X.A (pyNext (.ref it)) (fun r s1 => r = none ∧ Inv X pins σ H s1) E s
  self : ∀ (A : Around) (i : Nat) (s : Shared) (Q : Value → Shared → Prop) (E : Value → Shared → Prop), tn i s.heap → Q (.ref it) s → wpAny (model P w) A (pyIter (.ref it)) Q E s
abbrev TI := St → Hp → (It → Hp → Prop) → Prop
/-- an iterator has come -/
def PIE (X : Cx) (pins : List (Addr × Obj)) (σ : St) (tg : Expr) (R : It → Hp → Prop) (itv : Value) (s2 : Shared) : Prop :=
  ∃ (it : Addr) (fp : List Addr) (tn : Nat → Heap → Prop) (J : It) (H' : Hp), itv = .ref it ∧ Inv X pins σ H' s2 ∧ Turn X.prog X.w X.K tg J fp it tn ∧ tn 0 s2.heap ∧ (∀ b ∈ fp, FpOk X pins H' b) ∧ R J H'
def PI (X : Cx) (tg iter : Expr) (wi : TI) : Prop :=
  ∀ (pins : List (Addr × Obj)) (s : Shared) (σ : St) (H : Hp) (R : It → Hp → Prop), Inv X pins σ H s → wi σ H R →
    wpAny (model X.prog X.w) X.A (eval iter X.env) (fun v s1 => wpAny (model X.prog X.w) X.A (pyIter v) (PIE X pins σ tg R) X.xe s1) X.xe s

/-- the step ahead of the store is nothing for an iterator that keeps no tuple -/
theorem go_of {M : Model} {A : Around} {E : Value → Shared → Prop} {s : Shared} {tg : Expr} {it : Addr} {u : Value} {o : Obj} {n : String} {vs : Array Value} {Q : Unit → Shared → Prop} (ho : s.heap.get? it = some o) (hc : o.cls = .type n) (hd : o.data = .fields vs)
    (hn : ["enumerate", "zip", "dict_itemiterator", "dict_reverseitemiterator", "odict_iterator", "itertools.zip_longest", "itertools.pairwise"].contains n = false) (hQ : Q () s) : wpAny M A (letOwnedTupleGo tg (.ref it) u) Q E s := by
  unfold letOwnedTupleGo
  cases tg <;> first
    | exact wpAny_pure hQ
    | (cases u <;> first
        | exact wpAny_pure hQ
        | (refine wpAny_bind (wpAny_load ho ?_)
           rw [hc, hd]
           show wpAny M A (if (["enumerate", "zip", "dict_itemiterator", "dict_reverseitemiterator", "odict_iterator", "itertools.zip_longest", "itertools.pairwise"].contains n && vs[0]? == some (rawInt _)) = true then _ else _) Q E s
           rw [if_neg (by intro h; rw [hn, Bool.false_and] at h; cases h)]
           exact wpAny_pure hQ))

/-- the list at a, as it stands at each turn (a loop may append to it) -/
def Itl (K : PySem.W.Frag) (a : Addr) : It :=
  ⟨fun i H => ∃ xs x, SqL K H a xs ∧ xs[i]? = some x, fun i H x H' => H' = H ∧ ∀ xs, SqL K H a xs → xs[i]? = some x, fun i H => ∃ xs, SqL K H a xs ∧ xs.length ≤ i⟩
/-- lo, lo + 1, .. (n of them) -/
def Itr (lo : Int) (n : Nat) : It := ⟨fun i _ => i < n, fun i H x H' => H' = H ∧ x = .int (lo + i), fun i _ => n ≤ i⟩
theorem turn_list {P : Program} {w : World} {K : PySem.W.Frag} {tg : Expr} (a it : Addr) : Turn P w K tg (Itl K a) [it] it (fun i h => h.IsListIter it a i) where
  mem := by simp
  obj := fun i h st b hb => by
    have e : b = it := by simpa using hb
    subst e
    obtain ⟨o, e, c, d⟩ := st
    exact ⟨o, e, fun v z => by rw [d] at z; cases z⟩
  keep := fun i h h' st k => st.at fun o e => k it (by simp) o e
  item := by
    intro X hP hw hK hc i pins s σ H E I hf st hg
    subst hP hw hK
    obtain ⟨xs, x, hq, hx⟩ := hg
    obtain ⟨its, rv, p, hz⟩ := I.list hq
    obtain ⟨u, hu, ru⟩ := rv.get hx
    obtain ⟨f0, f1, f2, f3, f4, f5⟩ := hf it (by simp)
    refine wpAny_pyNext_list_item st p.isList (x := u) (by simpa using hu) fun h' st' sb => ?_
    have I1 : Inv X pins σ H { s with heap := h' } := I.turned (t' := s.toks) (fun b o hb e => (sb.2 b hb).trans e) f0 f1 f3 f4 f5
    obtain ⟨o, e, c, d⟩ := id st'
    exact ⟨u, rfl, go_of (s := { s with heap := h' }) e c d (by decide) ⟨x, H, I1, ru, ⟨rfl, fun ys hy => by rw [I.list_inj hy hq]; exact hx⟩, st', fun b hb => (hf b hb).1⟩⟩
  done := by
    intro X hP hw hK hc i pins s σ H E I hf st hg
    subst hP hw hK
    obtain ⟨xs, hq, hx⟩ := hg
    obtain ⟨its, rv, p, hz⟩ := I.list hq
    obtain ⟨f0, f1, f2, f3, f4, f5⟩ := hf it (by simp)
    have hl := rv.length
    exact wpAny_pyNext_list_end (I.ok.hd hc) st p.isList (by simp; omega) fun h' eb => ⟨rfl, I.turned (t' := s.toks) (fun b o hb e => eb b o hb e) f0 f1 f3 f4 f5⟩
  self := fun _ _ _ _ _ st h => wpAny_pyIter_listiter st h
theorem turn_range {P : Program} {w : World} {K : PySem.W.Frag} {tg : Expr} (it : Addr) (lo : Int) (n : Nat) : Turn P w K tg (Itr lo n) [it] it (fun i h => IsRangeIter h it (lo + (i : Nat) * 1) ((n : Int) - (i : Nat)) 1) where
  mem := by simp
  obj := fun i h st b hb => by
    have e : b = it := by simpa using hb
    subst e
    exact ⟨_, st, fun v z => by
      have z' : Data.fields _ = Data.cell v := z
      cases z'⟩
  keep := fun i h h' st k => k it (by simp) _ st
  item := by
    intro X hP hw hK hc i pins s σ H E I hf st hg
    subst hP hw hK
    obtain ⟨f0, f1, f2, f3, f4, f5⟩ := hf it (by simp)
    have W := Walks.range (prog := X.prog) (w := X.w) (I.ok.hd hc) it lo 1 n
    refine W.item i s _ _ hg st fun v h' tk hv st' kk => ?_
    obtain ⟨t, rfl⟩ := hv
    have I1 : Inv X pins σ H { s with heap := h', toks := tk } := I.turned (fun b o hb e => kk b o (by simpa using hb) e) f0 f1 f3 f4 f5
    refine ⟨_, rfl, go_of (s := { s with heap := h', toks := tk }) (n := "range_iterator") st' rfl rfl (by decide) ⟨.int (lo + i), H, I1, ⟨t, ?_⟩, ⟨rfl, rfl⟩, st', fun b hb => (hf b hb).1⟩⟩
    rw [Int.mul_one]
  done := by
    intro X hP hw hK hc i pins s σ H E I hf st hg
    subst hP hw hK
    obtain ⟨f0, f1, f2, f3, f4, f5⟩ := hf it (by simp)
    exact wpAny_pyNext_range_end (I.ok.hd hc) st (by have : n ≤ i := hg; omega) fun h' eb => ⟨rfl, I.turned (t' := s.toks) (fun b o hb e => eb b o hb e) f0 f1 f3 f4 f5⟩
  self := fun _ _ _ _ _ st h => wpAny_pyIter_rangeiter st h
end L2

namespace L2
open PySem PySem.Spec PyProof.Rows
section
variable {X : Cx} {tg : Expr}
def iList (K : PySem.W.Frag) (tl : TE) : TI := fun σ H R => tl σ H fun x H1 => ∃ a, x = .ref a ∧ (∃ xs, SqL K H1 a xs) ∧ R (Itl K a) H1
theorem pi_list {l : Expr} {tl : TE} (hl : PE X l tl) : PI X tg l (iList X.K tl) := by
  intro pins s σ H R I h
  refine thn (hl pins s σ H _ I h) fun v s1 ⟨x, H1, I1, r1, q1⟩ => ?_
  obtain ⟨a, e, ⟨xs, hq⟩, q⟩ := q1
  subst e
  cases r1
  obtain ⟨its, rv, p, hz⟩ := I1.list hq
  refine wpAny_pyIter_list p.isList ?_
  refine ⟨s1.heap.objs.size, [s1.heap.objs.size], _, _, H1, rfl, I1.kept (t' := s1.toks) fun b o e => Heap.get?_push_of_some _ e, turn_list a _, ⟨_, Heap.get?_push_size _ rfl, rfl, rfl⟩, fun b hb => ?_, q⟩
  have e : b = s1.heap.objs.size := by simpa using hb
  subst e
  exact I1.fpOk (Nat.le_refl _) (I1.hok.fresh (Nat.le_refl _))
/-- a range object just made, walked -/
theorem range_it {pins : List (Addr × Obj)} {σ : St} {H : Hp} {s : Shared} {R : It → Hp → Prop} {E : Value → Shared → Prop} {lo hi : Int} {t u v : Tok} {tk : Nat} (I : Inv X pins σ H s) (h1 : -(2 ^ 62) ≤ lo) (h2 : lo < 2 ^ 62) (h3 : -(2 ^ 62) ≤ hi) (h4 : hi < 2 ^ 62)
    (q : R (Itr lo (hi - lo).toNat) H) : wpAny (model X.prog X.w) X.A (pyIter (.ref s.heap.objs.size)) (PIE X pins σ tg R) E { s with heap := s.heap.push { cls := .type "range", data := .fields #[.int lo t, .int hi u, .int 1 v] }, toks := tk } := by
  refine wpAny_pyIter_range (IsRange.new ..) (small_one h1 h2 h3 h4) ?_
  have I1 : Inv X pins σ H { s with heap := s.heap.push { cls := .type "range", data := .fields #[.int lo t, .int hi u, .int 1 v] }, toks := tk } := I.kept fun b o e => Heap.get?_push_of_some _ e
  refine ⟨(s.heap.push { cls := .type "range", data := .fields #[.int lo t, .int hi u, .int 1 v] }).objs.size, [(s.heap.push { cls := .type "range", data := .fields #[.int lo t, .int hi u, .int 1 v] }).objs.size], _, _, H, rfl,
    I1.kept (t' := tk) fun b o e => Heap.get?_push_of_some _ e, turn_range _ lo (hi - lo).toNat, ?_, fun b hb => ?_, q⟩
  · have e1 : lo + ((0 : Nat) : Int) * 1 = lo := by simp
    have e2 : (((hi - lo).toNat : Nat) : Int) - ((0 : Nat) : Int) = Builtin.Range.rangeSize lo hi 1 := by rw [rangeSize_one]; split <;> omega
    show IsRangeIter _ _ (lo + ((0 : Nat) : Int) * 1) ((((hi - lo).toNat : Nat) : Int) - ((0 : Nat) : Int)) 1
    rw [e1, e2]
    exact Heap.get?_push_size _ rfl
  · have e : b = (s.heap.push { cls := .type "range", data := .fields #[.int lo t, .int hi u, .int 1 v] }).objs.size := by simpa using hb
    subst e
    exact I1.fpOk (Nat.le_refl _) (I1.hok.fresh (Nat.le_refl _))
def iRng1 (ta : TA) : TI := fun σ H R => ta σ H fun vs H1 => ∃ j : Int, vs = [.int j] ∧ -(2 ^ 62) ≤ j ∧ j < 2 ^ 62 ∧ R (Itr 0 j.toNat) H1
theorem pi_range1 {a : Expr} {ta : TA} {p pos : Pos} (hg : Gl X "range") (hm : X.mg "range" = none) (ha : PA X [a] ta) (hs : starEach [a] X.env = [(false, eval a X.env)] := by rfl) : PI X tg (.Call (.Name "range" p) [a] [] pos) (iRng1 ta) := by
  intro pins s σ H R I h
  refine Call_ (ld_blt I hg hm boot_range (PyProof.Rows.callWith_type1 (thn (ha pos pins s σ H _ I h) fun us s1 ⟨vs, H1, I1, r1, q1⟩ => ?_) hs rfl))
  obtain ⟨j, e, q1, q2, q⟩ := q1
  subst e
  cases r1 with
  | cons r rr =>
    cases rr
    obtain ⟨t, rfl⟩ := r
    exact call_range_1 (range_it I1 (by omega) (by omega) q1 q2 (by simpa using q))

/-! ### for -/
/-- W: the invariant by the turn and a measure; N: what the body is to reach -/
def tFor (wi : TI) (g : TG) (tb : TS) : TS := fun D σ H => wi σ H fun J H1 => ∃ W : Nat → Nat → St → Hp → Prop, (∃ m, W 0 m σ H1) ∧ ∀ i m σ H, W i m σ H →
  (J.stop i H ∧ D.nx σ H) ∨ (J.go i H ∧ ∃ N : St → Hp → Prop, (∀ σ' H', N σ' H' → ∃ m', m' < m ∧ W (i + 1) m' σ' H') ∧ ∀ x H', J.yld i H x H' → g x σ H' fun σ2 H2 => tb { D with nx := N, ct := N, bk := D.nx } σ2 H2)
/-- the records at fp as they stand -/
def pinsAt (fp : List Addr) (h : Heap) : List (Addr × Obj) := fp.filterMap fun b => (h.get? b).map fun o => (b, o)
theorem mem_pinsAt {fp : List Addr} {h : Heap} {b : Addr} {o : Obj} (hb : b ∈ fp) (e : h.get? b = some o) : (b, o) ∈ pinsAt fp h := List.mem_filterMap.mpr ⟨b, hb, by rw [e]; rfl⟩
theorem of_pinsAt {fp : List Addr} {h : Heap} {p : Addr × Obj} (hp : p ∈ pinsAt fp h) : p.1 ∈ fp ∧ h.get? p.1 = some p.2 := by
  obtain ⟨b, hb, e⟩ := List.mem_filterMap.mp hp
  cases q : h.get? b with
  | none => rw [q] at e; cases e
  | some o =>
    rw [q] at e
    have e' : (b, o) = p := Option.some.inj e
    subst e'
    exact ⟨hb, q⟩
theorem Inv.pinned {pins : List (Addr × Obj)} {σ : St} {H : Hp} {s : Shared} {fp : List Addr} (I : Inv X pins σ H s) (hf : ∀ b ∈ fp, FpOk X pins H b) (ho : ∀ b ∈ fp, ∃ o, s.heap.get? b = some o ∧ ∀ v, o.data ≠ .cell v) : Inv X (pins ++ pinsAt fp s.heap) σ H s :=
  I.pins_of fun p hp => (List.mem_append.mp hp).elim (fun z => I.pin p (List.mem_append_right _ z)) fun z => by
    obtain ⟨hb, e⟩ := of_pinsAt z
    obtain ⟨f0, f1, f2, _⟩ := hf p.1 hb
    obtain ⟨o, e', d⟩ := ho p.1 hb
    rw [e] at e'; cases e'
    exact ⟨e, f0, f1, f2, d⟩
theorem Inv.unpinned {pins pl : List (Addr × Obj)} {σ : St} {H : Hp} {s : Shared} (I : Inv X (pins ++ pl) σ H s) : Inv X pins σ H s := I.pins_of fun p hp => I.pin p (List.mem_append_right _ (List.mem_append_left _ hp))
theorem ps_for {iter : Expr} {body : List Stmt} {wi : TI} {g : TG} {tb : TS} {pos : Pos} (hp : PassesOwn (model X.prog X.w) X.A X.env X.xe) (hc : X.calm = true) (hi : PI X tg iter wi) (hg : PG X tg g) (hb : PSs X body tb)
    (hs : ∀ x, foldedSetIterable iter X.env x = pure x := by intro _; rfl) : PS X (.For tg iter body [] pos) (tFor wi g tb) := by
  intro pins s σ H D I h
  refine wpAny_For (thn (hi pins s σ H _ I h) fun v s1 h1 => thn h1 fun itv s2 h2 => ?_) hs
  obtain ⟨it, fp, tn, J, H2, e, I2, T, st2, f2, W, ⟨m0, w0⟩, turn⟩ := h2
  subst e
  -- what stays true of the iterator's objects through the loop
  have stat : ∀ {H' : Hp}, (∀ b ∈ fp, H' b = none) → ∀ b ∈ fp, FpOk X pins H' b := fun hn b hb => ⟨hn b hb, (f2 b hb).2⟩
  refine codeAny_forLoop_any (fun n s' => ∃ i σ' H', Inv X pins σ' H' s' ∧ tn i s'.heap ∧ (∀ b ∈ fp, H' b = none) ∧ W i n σ' H') ?_ m0 ⟨0, σ, H2, I2, st2, fun b hb => (f2 b hb).1, w0⟩
  rintro n s3 ⟨i, σ3, H3, I3, st3, fr3, w3⟩
  rcases turn i n σ3 H3 w3 with ⟨stop, qn⟩ | ⟨go, N, hN, step⟩
  · refine wpAny_passesOwn hp (thn (T.done X rfl rfl rfl hc i pins s3 σ3 H3 X.xe I3 (stat fr3) st3 stop) fun r s4 ⟨hr, I4⟩ => ?_)
    subst hr
    exact wpAny_execs_nil ⟨σ3, H3, I4, qn⟩
  · refine wpAny_passesOwn hp (thn (T.item X rfl rfl rfl hc i pins s3 σ3 H3 X.xe I3 (stat fr3) st3 go) fun r s4 ⟨u, hr, h4⟩ => ?_)
    subst hr
    refine wpAny_passesOwn hp (thn h4 fun _ s5 ⟨x, H5, I5, r5, y5, st5, fr5⟩ => ?_)
    have I5' := I5.pinned (stat fr5) (T.obj _ _ st5)
    refine wpAny_passesOwn hp (thn (hg _ s5 σ3 H5 x u _ I5' r5 (step x H5 y5)) fun _ s6 ⟨σ6, H6, I6, q6⟩ => ?_)
    refine wpAny_passesOwn hp (thn (hb _ s6 σ6 H6 _ I6 q6) fun f s7 q7 => ?_)
    have again : ∀ {σ7 : St} {H7 : Hp}, Inv X (pins ++ pinsAt fp s5.heap) σ7 H7 s7 → N σ7 H7 → ∃ m, m < n ∧ ∃ i σ' H', Inv X pins σ' H' s7 ∧ tn i s7.heap ∧ (∀ b ∈ fp, H' b = none) ∧ W i m σ' H' := fun {σ7 H7} I7 n7 => by
      obtain ⟨m', hm, w7⟩ := hN σ7 H7 n7
      refine ⟨m', hm, i + 1, σ7, H7, I7.unpinned, T.keep _ _ _ st5 fun b hb o e => (I7.pin (b, o) (List.mem_append_right _ (List.mem_append_right _ (mem_pinsAt hb e)))).1, fun b hb => ?_, w7⟩
      obtain ⟨o, e, d⟩ := T.obj _ _ st5 b hb
      exact (I7.pin (b, o) (List.mem_append_right _ (List.mem_append_right _ (mem_pinsAt hb e)))).2.1
    cases f with
    | next => obtain ⟨σ7, H7, I7, n7⟩ := q7; exact again I7 n7
    | cont => obtain ⟨σ7, H7, I7, n7⟩ := q7; exact again I7 n7
    | brk => obtain ⟨σ7, H7, I7, q7⟩ := q7; exact ⟨σ7, H7, I7.unpinned, q7⟩
    | ret v => obtain ⟨x7, σ7, H7, I7, r7, q7⟩ := q7; exact ⟨x7, σ7, H7, I7.unpinned, r7, q7⟩
end

/-! ### the forms one uses -/
/-- over a list that the body leaves as it is -/
theorem for_list {K : PySem.W.Frag} {a : Addr} {xs : List V} {g : TG} {tb : TS} {D : Ends} {σ : St} {H : Hp} (Pv : Nat → St → Hp → Prop) (h0 : Pv 0 σ H) (hl : ∀ i σ H, i ≤ xs.length → Pv i σ H → SqL K H a xs)
    (hs : ∀ i x σ H, xs[i]? = some x → Pv i σ H → g x σ H fun σ2 H2 => tb { D with nx := Pv (i + 1), ct := Pv (i + 1), bk := D.nx } σ2 H2) (hd : ∀ σ H, Pv xs.length σ H → D.nx σ H) :
    ∃ W : Nat → Nat → St → Hp → Prop, (∃ m, W 0 m σ H) ∧ ∀ i m σ H, W i m σ H →
      ((Itl K a).stop i H ∧ D.nx σ H) ∨ ((Itl K a).go i H ∧ ∃ N : St → Hp → Prop, (∀ σ' H', N σ' H' → ∃ m', m' < m ∧ W (i + 1) m' σ' H') ∧ ∀ x H', (Itl K a).yld i H x H' → g x σ H' fun σ2 H2 => tb { D with nx := N, ct := N, bk := D.nx } σ2 H2) := by
  refine ⟨fun i m σ H => m = xs.length - i ∧ i ≤ xs.length ∧ Pv i σ H, ⟨xs.length, by simp, Nat.zero_le _, h0⟩, ?_⟩
  rintro i m σ H ⟨rfl, hi, p⟩
  have q := hl i σ H hi p
  by_cases hlt : i < xs.length
  · refine .inr ⟨⟨xs, xs[i], q, by simp [hlt]⟩, Pv (i + 1), fun σ' H' p' => ⟨xs.length - (i + 1), by omega, rfl, hlt, p'⟩, fun x H' y => ?_⟩
    obtain ⟨e, y⟩ := y
    subst e
    exact hs i x σ _ (y xs q) p
  · have e : i = xs.length := by omega
    subst e
    exact .inl ⟨⟨xs, q, Nat.le_refl _⟩, hd σ H p⟩
theorem for_range {lo : Int} {n : Nat} {g : TG} {tb : TS} {D : Ends} {σ : St} {H : Hp} (Pv : Nat → St → Hp → Prop) (h0 : Pv 0 σ H)
    (hs : ∀ i σ H, i < n → Pv i σ H → g (.int (lo + i)) σ H fun σ2 H2 => tb { D with nx := Pv (i + 1), ct := Pv (i + 1), bk := D.nx } σ2 H2) (hd : ∀ σ H, Pv n σ H → D.nx σ H) :
    ∃ W : Nat → Nat → St → Hp → Prop, (∃ m, W 0 m σ H) ∧ ∀ i m σ H, W i m σ H →
      ((Itr lo n).stop i H ∧ D.nx σ H) ∨ ((Itr lo n).go i H ∧ ∃ N : St → Hp → Prop, (∀ σ' H', N σ' H' → ∃ m', m' < m ∧ W (i + 1) m' σ' H') ∧ ∀ x H', (Itr lo n).yld i H x H' → g x σ H' fun σ2 H2 => tb { D with nx := N, ct := N, bk := D.nx } σ2 H2) := by
  refine ⟨fun i m σ H => m = n - i ∧ i ≤ n ∧ Pv i σ H, ⟨n, by simp, Nat.zero_le _, h0⟩, ?_⟩
  rintro i m σ H ⟨rfl, hi, p⟩
  by_cases hlt : i < n
  · refine .inr ⟨hlt, Pv (i + 1), fun σ' H' p' => ⟨n - (i + 1), by omega, rfl, hlt, p'⟩, fun x H' y => ?_⟩
    obtain ⟨e, y⟩ := y
    subst e y
    exact hs i σ _ hlt p
  · have e : i = n := by omega
    subst e
    exact .inl ⟨Nat.le_refl _, hd σ H p⟩
end L2

namespace L2
open PySem PySem.Spec PyProof.Rows

abbrev R2 := V → V → Hp → VK → Prop
/-- a two-place operation on values: f is binaryOp op, inplaceOp op or compareOp op -/
def OpR (X : Cx) (f : Value → Value → Sem Value) (r : R2) : Prop :=
  ∀ (pins : List (Addr × Obj)) (s : Shared) (σ : St) (H : Hp) (x y : V) (v u : Value) (Q : VK), Inv X pins σ H s → RelV x v → RelV y u → r x y H Q →
    wpAny (model X.prog X.w) X.A (f v u) (EP X pins σ Q) X.xe s
/-- a one-place operation -/
def UnR (X : Cx) (f : Value → Sem Value) (r : V → Hp → VK → Prop) : Prop :=
  ∀ (pins : List (Addr × Obj)) (s : Shared) (σ : St) (H : Hp) (x : V) (v : Value) (Q : VK), Inv X pins σ H s → RelV x v → r x H Q →
    wpAny (model X.prog X.w) X.A (f v) (EP X pins σ Q) X.xe s
/-- a call of a value that is known (a builtin, a type) with values -/
def CallR (X : Cx) (f : Value) (r : List V → Hp → VK → Prop) : Prop :=
  ∀ (pins : List (Addr × Obj)) (s : Shared) (σ : St) (H : Hp) (xs : List V) (us : List Value) (Q : VK), Inv X pins σ H s → Vals xs us → r xs H Q →
    wpAny (model X.prog X.w) X.A (call f us) (EP X pins σ Q) X.xe s

def tOp (r : R2) (ta tb : TE) : TE := fun σ H Q => ta σ H fun x H1 => tb σ H1 fun y H2 => r x y H2 Q
def tUn (r : V → Hp → VK → Prop) (ta : TE) : TE := fun σ H Q => ta σ H fun x H1 => r x H1 Q
/-- ints in, under C, and a value out -/
def rI (C : Int → Int → Prop) (g : Int → Int → V) : R2 := fun x y H Q => ∃ i j, x = .int i ∧ y = .int j ∧ C i j ∧ Q (g i j) H
def rI0 (g : Int → Int → V) : R2 := fun x y H Q => ∃ i j, x = .int i ∧ y = .int j ∧ Q (g i j) H
def rU (g : Int → V) : V → Hp → VK → Prop := fun x H Q => ∃ i, x = .int i ∧ Q (g i) H

section
variable {X : Cx} {a b c : Expr} {ta tb tc : TE} {pos : Pos}

theorem binT (ha : PE X a ta) (hb : PE X b tb) {pins : List (Addr × Obj)} {s : Shared} {σ : St} {H : Hp} {R : V → V → Hp → Prop} (I : Inv X pins σ H s)
    (h : ta σ H fun x H1 => tb σ H1 fun y H2 => R x y H2) {Q : Value → Shared → Prop} {f : Value → Value → Sem Value}
    (hf : ∀ v u s2 x y H2, Inv X pins σ H2 s2 → RelV x v → RelV y u → R x y H2 → wpAny (model X.prog X.w) X.A (f v u) Q X.xe s2) :
    wpAny (model X.prog X.w) X.A (eval a X.env) (fun v s₁ => wpAny (model X.prog X.w) X.A (eval b X.env) (fun u s₂ => wpAny (model X.prog X.w) X.A (f v u) Q X.xe s₂) X.xe s₁) X.xe s := by
  refine thn (ha pins s σ H _ I h) fun v s1 ⟨x, H1, I1, r1, q1⟩ => ?_
  refine thn (hb pins s1 σ H1 _ I1 q1) fun u s2 ⟨y, H2, I2, r2, q2⟩ => ?_
  exact hf v u s2 x y H2 I2 r1 r2 q2

theorem pe_op {op : Operator} {r : R2} (ho : OpR X (binaryOp op) r) (ha : PE X a ta) (hb : PE X b tb) : PE X (.BinOp a op b pos) (tOp r ta tb) := by
  intro pins s σ H Q I h
  exact wpAny_BinOp (binT ha hb I h fun v u s2 x y H2 I2 rx ry q => ho pins s2 σ H2 x y v u Q I2 rx ry q)
theorem pe_un {op : UnaryOp} {r : V → Hp → VK → Prop} (ho : UnR X (unaryOp op) r) (ha : PE X a ta) : PE X (.UnaryOp op a pos) (tUn r ta) := by
  intro pins s σ H Q I h
  exact UnaryOp_ (thn (ha pins s σ H _ I h) fun v s1 ⟨x, H1, I1, r1, q1⟩ => ho pins s1 σ H1 x v Q I1 r1 q1)

/-! ### ints -/
theorem opI {f : Value → Value → Sem Value} {C : Int → Int → Prop} {g : Int → Int → Int}
    (rule : ∀ (i j : Int) (t u : Tok) (s : Shared) (Q : Value → Shared → Prop) (E : Value → Shared → Prop), C i j → Q (.int (g i j) s.toks) { s with toks := s.toks + 1 } → wpAny (model X.prog X.w) X.A (f (.int i t) (.int j u)) Q E s) :
    OpR X f (rI C fun i j => .int (g i j)) := by
  intro pins s σ H x y v u Q I rx ry h
  obtain ⟨i, j, rfl, rfl, hc, q⟩ := h
  obtain ⟨t, rfl⟩ := rx
  obtain ⟨t', rfl⟩ := ry
  exact rule i j t t' s _ _ hc ⟨.int (g i j), H, I.tok _, ⟨_, rfl⟩, q⟩
theorem opI0 {f : Value → Value → Sem Value} {g : Int → Int → Int}
    (rule : ∀ (i j : Int) (t u : Tok) (s : Shared) (Q : Value → Shared → Prop) (E : Value → Shared → Prop), Q (.int (g i j) s.toks) { s with toks := s.toks + 1 } → wpAny (model X.prog X.w) X.A (f (.int i t) (.int j u)) Q E s) :
    OpR X f (rI0 fun i j => .int (g i j)) := by
  intro pins s σ H x y v u Q I rx ry h
  obtain ⟨i, j, rfl, rfl, q⟩ := h
  obtain ⟨t, rfl⟩ := rx
  obtain ⟨t', rfl⟩ := ry
  exact rule i j t t' s _ _ ⟨.int (g i j), H, I.tok _, ⟨_, rfl⟩, q⟩
theorem opB0 {f : Value → Value → Sem Value} {g : Int → Int → Bool}
    (rule : ∀ (i j : Int) (t u : Tok) (s : Shared) (Q : Value → Shared → Prop) (E : Value → Shared → Prop), Q (.bool (g i j)) s → wpAny (model X.prog X.w) X.A (f (.int i t) (.int j u)) Q E s) :
    OpR X f (rI0 fun i j => .bl (g i j)) := by
  intro pins s σ H x y v u Q I rx ry h
  obtain ⟨i, j, rfl, rfl, q⟩ := h
  obtain ⟨t, rfl⟩ := rx
  obtain ⟨t', rfl⟩ := ry
  exact rule i j t t' s _ _ ⟨.bl (g i j), H, I, rfl, q⟩

def CDiv (i j : Int) : Prop := 0 < j ∧ j < 1073741824
def CPow (i j : Int) : Prop := 0 ≤ j ∧ j ≤ 1000000 ∧ i.natAbs < 2 ^ 64
def CMul (i j : Int) : Prop := (-(2 ^ 64) < i ∧ i < 2 ^ 64) ∨ (-(2 ^ 64) < j ∧ j < 2 ^ 64)
theorem CMul.ok {i j : Int} (h : CMul i j) : IntMulOk i j := by
  rcases h with ⟨h1, h2⟩ | ⟨h1, h2⟩
  · exact .of_left (intBits_le_64 h1 h2)
  · exact .of_right (intBits_le_64 h1 h2)

theorem op_add : OpR X (binaryOp .Add) (rI0 fun i j => .int (i + j)) := opI0 fun _ _ _ _ _ _ _ q => add_int q
theorem op_sub : OpR X (binaryOp .Sub) (rI0 fun i j => .int (i - j)) := opI0 fun _ _ _ _ _ _ _ q => sub_int q
theorem op_mul : OpR X (binaryOp .Mult) (rI CMul fun i j => .int (i * j)) := opI fun _ _ _ _ _ _ _ hc q => mul_int q hc.ok
/-- // by a positive divisor -/
theorem op_fdiv : OpR X (binaryOp .FloorDiv) (rI CDiv fun i j => .int (i / j)) := opI fun i j _ _ _ _ _ hc q => by
  have h1 : (0 : Int) < j := hc.1
  have h2 : j < 1073741824 := hc.2
  exact floordiv_int (by omega) (by rw [Int.fdiv_eq_ediv_of_nonneg i (by omega)]; exact q) (.inl (PyProof.noPylong_small (by omega)))
/-- % by a positive divisor of any size -/
theorem op_mod : OpR X (binaryOp .Mod) (rI (fun _ j => 0 < j) fun i j => .int (i % j)) := opI fun i j _ _ _ _ _ hc q => by
  have h1 : (0 : Int) < j := hc
  exact mod_int' (by omega) (by rw [Int.fmod_eq_emod_of_nonneg i (by omega)]; exact q)
theorem op_pow : OpR X (binaryOp .Pow) (rI CPow fun i j => .int (i ^ j.toNat)) := opI fun _ _ _ _ _ _ _ hc q => pow_int_small hc.1 hc.2.1 hc.2.2 q


theorem unI {f : Value → Sem Value} {g : Int → Int}
    (rule : ∀ (i : Int) (t : Tok) (s : Shared) (Q : Value → Shared → Prop) (E : Value → Shared → Prop), Q (.int (g i) s.toks) { s with toks := s.toks + 1 } → wpAny (model X.prog X.w) X.A (f (.int i t)) Q E s) :
    UnR X f (rU fun i => .int (g i)) := by
  intro pins s σ H x v Q I rx h
  obtain ⟨i, rfl, q⟩ := h
  obtain ⟨t, rfl⟩ := rx
  exact rule i t s _ _ ⟨.int (g i), H, I.tok _, ⟨_, rfl⟩, q⟩
theorem un_neg : UnR X (unaryOp .USub) (rU fun i => .int (-i)) := unI fun _ _ _ _ _ q => neg_int q

/-! ### bools among ints: n += (a < b) -/
end

/-! ### comparisons -/
/-- the scalars that == tells apart as data does -/
def scal : V → V → Bool
  | .non, .non => true | .non, .int _ => true | .int _, .non => true | .non, .bl _ => true | .bl _, .non => true | .non, .str _ => true | .str _, .non => true
  | .int _, .int _ => true | .bl _, .bl _ => true | .str _, .str _ => true | .byt _, .byt _ => true
  | .int _, .str _ => true | .str _, .int _ => true | .bl _, .str _ => true | .str _, .bl _ => true
  | _, _ => false
def rEq : R2 := fun x y H Q => scal x y = true ∧ Q (.bl (decide (x = y))) H
def rNe : R2 := fun x y H Q => scal x y = true ∧ Q (.bl (!decide (x = y))) H

theorem dec_int {i j : Int} : decide (V.int i = V.int j) = (i == j) := by
  rw [Bool.eq_iff_iff]
  simp
theorem dec_bl {i j : Bool} : decide (V.bl i = V.bl j) = (i == j) := by
  rw [Bool.eq_iff_iff]
  simp
theorem dec_str {i j : Str} : decide (V.str i = V.str j) = (i == j) := by
  rw [Bool.eq_iff_iff]
  simp
theorem dec_byt {i j : Array UInt8} : decide (V.byt i = V.byt j) = (i.toList == j.toList) := by
  rw [Bool.eq_iff_iff]
  cases i
  cases j
  simp

section
variable {X : Cx} {a b c : Expr} {ta tb tc : TE} {pos : Pos}
theorem fin_bl {pins : List (Addr × Obj)} {σ : St} {H : Hp} {s : Shared} {Q : VK} {k k' : Bool} (I : Inv X pins σ H s) (q : Q (.bl k) H) (e : k = k') : EP X pins σ Q (.bool k') s := by
  subst e
  exact ⟨.bl k, H, I, rfl, q⟩
theorem op_eq : OpR X (compareOp .Eq) rEq := by
  intro pins s σ H x y v u Q I rx ry h
  obtain ⟨hs, q⟩ := h
  cases x with
  | non =>
    cases rx
    cases y with
    | non => cases ry; exact PySem.EqNone.eq_none_none (fin_bl I q (by simp))
    | bl j => cases ry; exact PySem.EqNone.eq_none_bool (fin_bl I q (by simp))
    | int j => obtain ⟨t', rfl⟩ := ry; exact PySem.EqNone.eq_none_int (fin_bl I q (by simp))
    | str j => obtain ⟨t', rfl⟩ := ry; exact PySem.EqNone.eq_none_str (fin_bl I q (by simp))
    | _ => exact absurd (show false = true from hs) Bool.false_ne_true
  | bl i =>
    cases rx
    cases y with
    | non => cases ry; exact PySem.EqNone.eq_bool_none (fin_bl I q (by simp))
    | bl j => cases ry; exact eq_bool (fin_bl I q dec_bl)
    | str j => obtain ⟨t', rfl⟩ := ry; exact PySem.EqMixed.eq_bool_str (fin_bl I q (by simp))
    | _ => exact absurd (show false = true from hs) Bool.false_ne_true
  | int i =>
    obtain ⟨t, rfl⟩ := rx
    cases y with
    | non => cases ry; exact PySem.EqNone.eq_int_none (fin_bl I q (by simp))
    | int j => obtain ⟨t', rfl⟩ := ry; exact eq_int (fin_bl I q dec_int)
    | str j => obtain ⟨t', rfl⟩ := ry; exact PySem.EqMixed.eq_int_str (fin_bl I q (by simp))
    | _ => exact absurd (show false = true from hs) Bool.false_ne_true
  | str i =>
    obtain ⟨t, rfl⟩ := rx
    cases y with
    | non => cases ry; exact PySem.EqNone.eq_str_none (fin_bl I q (by simp))
    | bl j => cases ry; exact PySem.EqMixed.eq_str_bool (fin_bl I q (by simp))
    | int j => obtain ⟨t', rfl⟩ := ry; exact PySem.EqMixed.eq_str_int (fin_bl I q (by simp))
    | str j => obtain ⟨t', rfl⟩ := ry; exact eq_str (fin_bl I q dec_str)
    | _ => exact absurd (show false = true from hs) Bool.false_ne_true
  | byt i =>
    obtain ⟨t, rfl⟩ := rx
    cases y with
    | byt j => obtain ⟨t', rfl⟩ := ry; exact PySem.W.eq_bytes (fin_bl I q dec_byt)
    | _ => exact absurd (show false = true from hs) Bool.false_ne_true
  | _ => cases y <;> exact absurd (show false = true from hs) Bool.false_ne_true
theorem op_ne : OpR X (compareOp .NotEq) rNe := by
  intro pins s σ H x y v u Q I rx ry h
  obtain ⟨hs, q⟩ := h
  cases x with
  | non =>
    cases rx
    cases y with
    | non => cases ry; exact PySem.EqNone.ne_none_none (fin_bl I q (by simp))
    | bl j => cases ry; exact PySem.EqNone.ne_none_bool (fin_bl I q (by simp))
    | int j => obtain ⟨t', rfl⟩ := ry; exact PySem.EqNone.ne_none_int (fin_bl I q (by simp))
    | str j => obtain ⟨t', rfl⟩ := ry; exact PySem.EqNone.ne_none_str (fin_bl I q (by simp))
    | _ => exact absurd (show false = true from hs) Bool.false_ne_true
  | bl i =>
    cases rx
    cases y with
    | non => cases ry; exact PySem.EqNone.ne_bool_none (fin_bl I q (by simp))
    | bl j => cases ry; exact ne_bool (fin_bl I q (congrArg not dec_bl))
    | str j => obtain ⟨t', rfl⟩ := ry; exact PySem.EqMixed.ne_bool_str (fin_bl I q (by simp))
    | _ => exact absurd (show false = true from hs) Bool.false_ne_true
  | int i =>
    obtain ⟨t, rfl⟩ := rx
    cases y with
    | non => cases ry; exact PySem.EqNone.ne_int_none (fin_bl I q (by simp))
    | int j => obtain ⟨t', rfl⟩ := ry; exact ne_int (fin_bl I q (congrArg not dec_int))
    | str j => obtain ⟨t', rfl⟩ := ry; exact PySem.EqMixed.ne_int_str (fin_bl I q (by simp))
    | _ => exact absurd (show false = true from hs) Bool.false_ne_true
  | str i =>
    obtain ⟨t, rfl⟩ := rx
    cases y with
    | non => cases ry; exact PySem.EqNone.ne_str_none (fin_bl I q (by simp))
    | bl j => cases ry; exact PySem.EqMixed.ne_str_bool (fin_bl I q (by simp))
    | int j => obtain ⟨t', rfl⟩ := ry; exact PySem.EqMixed.ne_str_int (fin_bl I q (by simp))
    | str j => obtain ⟨t', rfl⟩ := ry; exact ne_str (fin_bl I q (congrArg not dec_str))
    | _ => exact absurd (show false = true from hs) Bool.false_ne_true
  | byt i =>
    obtain ⟨t, rfl⟩ := rx
    cases y with
    | byt j => obtain ⟨t', rfl⟩ := ry; exact PySem.W.ne_bytes (fin_bl I q (congrArg not dec_byt))
    | _ => exact absurd (show false = true from hs) Bool.false_ne_true
  | _ => cases y <;> exact absurd (show false = true from hs) Bool.false_ne_true

theorem op_lt : OpR X (compareOp .Lt) (rI0 fun i j => .bl (decide (i < j))) := opB0 fun _ _ _ _ _ _ _ q => lt_int q
theorem op_gt : OpR X (compareOp .Gt) (rI0 fun i j => .bl (decide (j < i))) := opB0 fun _ _ _ _ _ _ _ q => gt_int q




theorem nomark (b : Expr) {op : CmpOp} (h : op ≠ .In := by decide) (h2 : op ≠ .NotIn := by decide) : behindInMarks op b = false := by
  have e1 : (op == CmpOp.In) = false := by cases op <;> first | rfl | exact absurd rfl h
  have e2 : (op == CmpOp.NotIn) = false := by cases op <;> first | rfl | exact absurd rfl h2
  cases b <;> simp [behindInMarks, e1, e2]
/-- a comparison as a value; hm: nomark b, or (for in, not in) by with_unfolding_all rfl -/
theorem pe_cmpR {op : CmpOp} {r : R2} (ho : OpR X (compareOp op) r) (ha : PE X a ta) (hb : PE X b tb) (hm : behindInMarks op b = false) : PE X (.Compare a [op] [b] pos) (tOp r ta tb) := by
  intro pins s σ H Q I h
  exact wpAny_Compare1 (binT ha hb I h fun v u s2 x y H2 I2 rx ry q => ho pins s2 σ H2 x y v u Q I2 rx ry q) hm
/-- a reading of a value as a test -/
def tTest (t : TE) : TT := fun σ H Q => t σ H fun x H' => ∃ k, x = .bl k ∧ Q k H'
theorem pt_cmpR {op : CmpOp} {r : R2} (ho : OpR X (compareOp op) r) (ha : PE X a ta) (hb : PE X b tb) (hm : behindInMarks op b = false) : PT X (.Compare a [op] [b] pos) (tTest (tOp r ta tb)) := by
  intro pins s σ H Q I h
  refine wpAny_isTrue_Compare1 (thn (ha pins s σ H _ I h) fun v s1 ⟨x, H1, I1, r1, q1⟩ => thn (hb pins s1 σ H1 _ I1 q1) fun u s2 ⟨y, H2, I2, r2, q2⟩ =>
    thn (ho pins s2 σ H2 x y v u _ I2 r1 r2 q2) fun c s3 ⟨z, H3, I3, r3, k, e, q3⟩ => ?_) hm
  subst e
  cases r3
  exact wpAny_truthy_bool ⟨H3, I3, q3⟩

/-! ### truth -/
theorem line63 : (sizeLine : Nat) < 2 ^ 63 := by rw [sizeLine_eq]; decide

/-! ### strs and bytes -/


/-! ### scalar builtins, by CallR -/
theorem vals1 {x : V} {us : List Value} (r : Vals [x] us) : ∃ u, us = [u] ∧ RelV x u := by
  cases r with
  | cons r1 r2 => cases r2; exact ⟨_, rfl, r1⟩
theorem vals2 {x y : V} {us : List Value} (r : Vals [x, y] us) : ∃ u w', us = [u, w'] ∧ RelV x u ∧ RelV y w' := by
  cases r with
  | cons r1 r2 =>
    cases r2 with
    | cons r3 r4 => cases r4; exact ⟨_, _, rfl, r1, r3⟩
theorem call_abs : CallR X (.builtin "abs") (fun xs H Q => ∃ i, xs = [.int i] ∧ Q (.int (if i < 0 then -i else i)) H) := by
  intro pins s σ H xs us Q I r h
  obtain ⟨i, rfl, q⟩ := h
  obtain ⟨u, rfl, t, rfl⟩ := vals1 r
  exact call_abs_int fun u tk => ⟨.int (if i < 0 then -i else i), H, I.tok _, ⟨_, rfl⟩, q⟩
theorem call_int1 : CallR X (.type "int") (fun xs H Q => (∃ i, xs = [.int i] ∧ Q (.int i) H) ∨ ∃ k, xs = [.bl k] ∧ Q (.int (if k then 1 else 0)) H) := by
  intro pins s σ H xs us Q I r h
  rcases h with ⟨i, rfl, q⟩ | ⟨k, rfl, q⟩
  · obtain ⟨u, rfl, t, rfl⟩ := vals1 r
    exact call_int_int ⟨.int i, H, I, ⟨_, rfl⟩, q⟩
  · obtain ⟨u, rfl, r1⟩ := vals1 r
    cases r1
    exact call_int_bool ⟨.int (if k then 1 else 0), H, I.tok _, ⟨_, rfl⟩, q⟩
end
end L2

namespace L2
open PySem PySem.Spec PyProof.Rows

/-! ### an instance, its attributes a map -/
structure ObjM (h : Heap) (x dx C : Addr) (mA : Str → Option Value) : Prop where
  obj : h.get? x = some (PySem.W.instObj C dx)
  ns : h.Ns1 dx mA
  ne : dx ≠ x

theorem lookIn_ns {h : Heap} {dx : Addr} {mA : Str → Option Value} (n : h.Ns1 dx mA) : ∃ od, h.get? dx = some od ∧ ∀ name, PySem.W.lookIn name od = some (mA name) := by
  obtain ⟨o, es, ep, ho, hd, hk, _, hm⟩ := n
  refine ⟨o, ho, fun name => ?_⟩
  have e := hm name
  unfold nsFind findBy at e
  rw [← Array.find?_toList] at e
  unfold PySem.W.lookIn
  rw [hd]
  dsimp only
  split
  · rename_i y q
    rw [q] at e
    exact congrArg some e
  · rename_i q
    rw [q] at e
    have a : es.toList.any (·.refKey) = false := by
      rw [List.any_eq_false]
      intro y hy
      obtain ⟨z, t, hkey⟩ := hk y (Array.mem_toList_iff.mp hy)
      simp [DictEntry.refKey, hkey]
    have a' : ¬ es.toList.any (·.refKey) = true := by rw [a]; exact Bool.false_ne_true
    rw [if_neg a']
    exact congrArg some e

theorem ObjM.look {h : Heap} {x dx C : Addr} {mA : Str → Option Value} (I : ObjM h x dx C mA) : ∃ od, PySem.W.InstAt h x (PySem.W.instObj C dx) C (some od) ∧ ∀ name, PySem.W.lookIn name od = some (mA name) :=
  let ⟨od, ho, hl⟩ := lookIn_ns I.ns
  ⟨od, ⟨I.obj, rfl, rfl, ho⟩, hl⟩

section
variable {prog : Program} {w : World} {A : Around} {E : Value → Shared → Prop} {s : Shared} {K : PySem.W.Frag} {x dx C f : Addr} {mA : Str → Option Value} {name : Str} {v : Value}





end

/-! ### the attributes as a list of pairs -/


section
variable {P : Program} {w : World} {H H' : Hp} {h h' : Heap} {a C dx : Addr} {fs fs' : List (Str × V)}
theorem ins_get (hok : HOk P w H h) (e : H a = some (.ins C dx fs)) : ∃ mA, ObjM h a dx C mA ∧ (∀ f, RelO (fs.lookup f) (mA f)) ∧ PySem.Within mA (fs.map (·.1)) ∧ fs.length ≤ 1000 ∧ H dx = some (.own a) := by
  obtain ⟨d, z, ne, ob, mA, n, r, q⟩ := (show ObjOk P w H h a (.ins C dx fs) from hok a _ e)
  exact ⟨mA, ⟨ob, n, ne⟩, r, q, z, d⟩
end

/-! ### what of the text a class must have -/
structure Cls (K : PySem.W.Frag) (C : Addr) : Prop where
  pg : PySem.W.plainGet K C Str.empty = true
  hd : PySem.W.hasDictIn K C = true
  po : PySem.W.plainOver K C = true
  sa : PySem.W.findIn K (.ref C) "__setattr__" = some (some (.builtin "object.__setattr__"))
theorem Cls.get {K : PySem.W.Frag} {C : Addr} (c : Cls K C) (f : Str) : PySem.W.plainGet K C f = true := c.pg

section
variable {X : Cx} {pins : List (Addr × Obj)} {σ : St} {H : Hp} {s : Shared} {a C dx : Addr} {fs : List (Str × V)} {f : Str} {v : V} {A : Around} {E : Value → Shared → Prop}






end

/-! ### readings and rules -/

section
variable {X : Cx} {o e value : Expr} {f : Str} {pos pos' tpos : Pos} {ta tv : TE}

end

/-! ### isinstance -/
section
variable {X : Cx} {pins : List (Addr × Obj)} {σ : St} {H : Hp} {s : Shared} {A : Around} {E : Value → Shared → Prop} {Q : Value → Shared → Prop} {c : Value} {b : Bool}
/-- the type of a value, as the fragment's deciders take it; for an instance its class -/
inductive TyOf (K : PySem.W.Frag) (H : Hp) : V → Value → Prop where
  | non : TyOf K H .non (.type "NoneType")
  | bl (x : Bool) : TyOf K H (.bl x) (.type "bool")
  | int (i : Int) : TyOf K H (.int i) (.type "int")
  | str (x : Str) : TyOf K H (.str x) (.type "str")
  | flt (x : UInt64) : TyOf K H (.flt x) (.type "float")
  | lst {a : Addr} {xs : List V} (e : H a = some (.lst xs)) : TyOf K H (.ref a) (.type "list")
  | frz {a : Addr} {o : Obj} {xs : List V} (e : H a = some (.frz o (.lst xs))) : TyOf K H (.ref a) (.type "list")
  | tup {a : Addr} {xs : List V} (e : H a = some (.tup xs)) : TyOf K H (.ref a) (.type "tuple")
  | dK {a : Addr} {kvs : List (Key × V)} (e : H a = some (.dK kvs)) : TyOf K H (.ref a) (.type "dict")
  | dT {a : Addr} {kvs : List (List Key × V)} (e : H a = some (.dT kvs)) : TyOf K H (.ref a) (.type "dict")
  | ins {a C dx : Addr} {fs : List (Str × V)} (e : H a = some (.ins C dx fs)) (cl : Cls K C) (ha : PySem.W.findIn K (.ref C) "__class__" = some (some (.builtin "object.__class__")))
      (hn : PySem.W.specialIn K (.builtin "object.__class__") "__get__" = some (some (.builtin "getset_descriptor.__get__"))) (htk : PySem.W.takesIn K (.builtin "object.__class__") = some true)
      (hm : PySem.W.mroIn K C (.type "object") = some true) : TyOf K H (.ref a) (.ref C)
/-- isinstance(x, c) for one class c, a built-in or an own one: kitOne's answer -/
theorem isinst_ok {x : V} {u t : Value} (I : Inv X pins σ H s) (rx : RelV x u) (ty : TyOf X.K H x t) (e : PySem.W.kitOne X.K t c = some b) (h : ∀ tk, Q (.bool b) { s with toks := tk }) :
    wpAny (model X.prog X.w) A (call (.builtin "isinstance") [u, c]) Q E s := by
  cases ty with
  | non => cases (show u = Value.none from rx); exact PySem.W.kia_one PySem.W.kitx_none I.kIn True.intro e (fun z => nomatch z) h
  | bl y => cases (show u = Value.bool y from rx); exact PySem.W.kia_one PySem.W.kitx_bool I.kIn True.intro e (fun z => nomatch z) h
  | int i => obtain ⟨t, q⟩ := (show ∃ t, u = Value.int i t from rx); cases q; exact PySem.W.kia_one PySem.W.kitx_int I.kIn True.intro e (fun z => nomatch z) h
  | str y => obtain ⟨t, q⟩ := (show ∃ t, u = Value.str y t from rx); cases q; exact PySem.W.kia_one PySem.W.kitx_str I.kIn True.intro e (fun z => nomatch z) h
  | flt y => obtain ⟨t, q⟩ := (show ∃ t, u = Value.float y t from rx); cases q; exact PySem.W.kia_one PySem.W.kitx_float I.kIn True.intro e (fun z => nomatch z) h
  | @lst a xs ea =>
    cases (show u = Value.ref a from rx)
    obtain ⟨_, _, n, _, h1⟩ := (show ObjOk X.prog X.w H s.heap a (.lst xs) from I.hok a _ ea)
    exact PySem.W.kia_one PySem.W.kitx_list I.kIn ⟨_, h1, rfl⟩ e (fun z => nomatch z) h
  | @frz a ob xs ea =>
    cases (show u = Value.ref a from rx)
    obtain ⟨_, _, _, n, _, h1⟩ := (show ObjOk X.prog X.w H s.heap a (.frz ob (.lst xs)) from I.hok a _ ea)
    exact PySem.W.kia_one PySem.W.kitx_list I.kIn ⟨_, h1, rfl⟩ e (fun z => nomatch z) h
  | @tup a xs ea =>
    cases (show u = Value.ref a from rx)
    obtain ⟨_, _, _, p⟩ := (show ObjOk X.prog X.w H s.heap a (.tup xs) from I.hok a _ ea)
    obtain ⟨o, h1, h2, _⟩ := p
    exact PySem.W.kia_one PySem.W.kitx_tuple I.kIn ⟨o, h1, h2⟩ e (fun z => nomatch z) h
  | @dK a kvs ea =>
    cases (show u = Value.ref a from rx)
    obtain ⟨_, _, vs, _, p⟩ := (show ObjOk X.prog X.w H s.heap a (.dK kvs) from I.hok a _ ea)
    obtain ⟨o, es, ep, h1, h2, _⟩ := p
    exact PySem.W.kia_one PySem.W.kitx_dict I.kIn ⟨o, h1, h2.1⟩ e (fun z => nomatch z) h
  | @dT a kvs ea =>
    cases (show u = Value.ref a from rx)
    obtain ⟨_, _, xs, _, o, es, ep, h1, h2, _⟩ := (show ObjOk X.prog X.w H s.heap a (.dT kvs) from I.hok a _ ea)
    exact PySem.W.kia_one PySem.W.kitx_dict I.kIn ⟨o, h1, h2.1⟩ e (fun z => nomatch z) h
  | @ins a C dx fs ea cl ha hn htk hm =>
    cases (show u = Value.ref a from rx)
    obtain ⟨mA, O, _⟩ := ins_get I.hok ea
    obtain ⟨od, J, _⟩ := O.look
    exact PySem.W.kia_one (PySem.W.kitx_own (cl.get _) cl.hd ha hn htk hm) I.kIn J e (fun z => nomatch z) h
end
end L2

namespace L2
open PySem PySem.Spec PyProof.Rows

/-! ### room -/
structure Room (k : Nat) (A : Around) : Prop where
  hd : A.handled = none
  dp : A.depth + 3 * k + 5 < recursionLimit
  un : A.units + 16 * k + 200 < cLine
theorem Room.mono {j k : Nat} {A : Around} (r : Room k A) (h : j ≤ k) : Room j A := ⟨r.hd, by have := r.dp; omega, by have := r.un; omega⟩
theorem Room.deeper {k : Nat} {A : Around} (r : Room (k + 1) A) (env : Env) : Room k (A.deeper env) :=
  ⟨r.hd, by have := r.dp; show A.depth + 1 + 3 * k + 5 < _; omega, by have := r.un; show A.units + 3 + 16 * k + 200 < _; omega⟩
theorem Room.depth {k : Nat} {A : Around} (r : Room k A) : A.depth < recursionLimit := by have := r.dp; omega
theorem Room.units {k : Nat} {A : Around} (r : Room k A) : A.units + 64 < cLine := by have := r.un; omega
theorem Room.units0 {k : Nat} {A : Around} (r : Room k A) : A.units < cLine := by have := r.un; omega

/-! ### argument lists and displays -/
def tNil : TA := fun _ H Q => Q [] H
def tCons (ta : TE) (tr : TA) : TA := fun σ H Q => ta σ H fun x H1 => tr σ H1 fun xs H2 => Q (x :: xs) H2
section
variable {X : Cx} {e : Expr} {es : List Expr} {te : TE} {t : TA} {pos : Pos}
theorem pa_nil : PA X [] tNil := fun _ _ _ _ H Q I h => Calls.spliced_nil ⟨[], H, I, .nil, h⟩
theorem pa_cons (ha : PE X e te) (hr : PA X es t) (hs : starEach (e :: es) X.env = (false, eval e X.env) :: starEach es X.env := by rfl) : PA X (e :: es) (tCons te t) := by
  intro pos pins s σ H Q I h
  rw [hs]
  show wpAny _ _ (spliced ((false, eval e X.env) :: backTo pos (starEach es X.env))) _ _ s
  refine Calls.spliced_cons (thn (ha pins s σ H _ I h) fun u s1 ⟨x, H1, I1, r1, q1⟩ => ?_)
  exact thn (hr pos pins s1 σ H1 _ I1 q1) fun us s2 ⟨xs, H2, I2, r2, q2⟩ => ⟨x :: xs, H2, I2, .cons r1 r2, q2⟩

/-- a tuple, a list of written items -/
def tTup (t : TA) : TE := fun σ H Q => t σ H fun xs H1 => xs.length ≤ sizeLine ∧ ∀ p, H1 p = none → Q (.ref p) (upd H1 p (.tup xs))
def tLst (t : TA) : TE := fun σ H Q => t σ H fun xs H1 => xs.length ≤ sizeLine ∧ ∀ p, H1 p = none → Q (.ref p) (upd H1 p (.lst xs))
theorem pe_tup {x1} (h : PA X es t) : PE X (.Tuple es x1 pos) (tTup t) := by
  intro pins s σ H Q I hq
  refine wpAny_Tuple_spliced (thn (h pos pins s σ H _ I hq) fun us s1 ⟨xs, H1, I1, r, z, q⟩ => ⟨by rw [← r.length]; exact z, ?_⟩)
  have hf : H1 s1.heap.objs.size = none := I1.hok.fresh (Nat.le_refl _)
  refine ⟨.ref s1.heap.objs.size, upd H1 s1.heap.objs.size (.tup xs), I1.laid (t' := s1.toks) (fun b u e => Heap.get?_push_of_some _ e) (Nat.le_refl _) ?_, rfl, q _ hf⟩
  exact ⟨z, us, r, ⟨_, Heap.get?_push_size _ rfl, rfl, _, rfl⟩⟩
theorem pe_lst (h : PA X es t) : PE X (.List es pos) (tLst t) := by
  intro pins s σ H Q I hq
  refine wpAny_List_spliced (thn (h pos pins s σ H _ I hq) fun us s1 ⟨xs, H1, I1, r, z, q⟩ => ⟨by rw [← r.length]; exact z, ?_⟩)
  have hf : H1 s1.heap.objs.size = none := I1.hok.fresh (Nat.le_refl _)
  refine ⟨.ref s1.heap.objs.size, upd H1 s1.heap.objs.size (.lst xs), I1.laid (t' := s1.toks) (fun b u e => Heap.get?_push_of_some _ e) (Nat.le_refl _) ?_, rfl, q _ hf⟩
  exact ⟨z, us, 0, r, Heap.get?_push_size _ rfl⟩
end

/-! ### what a def promises -/
/-- a def's promise: the bound arguments in the parameters' order, the heap, the wanted end, the wanted exception -/
abbrev Sp := List V → Hp → VK → XK → Prop
/-- how an exception lies behind a call (file 08 gives it): the callers' frames, abstract heap and state ahead of the call, the wish, the exception, the state -/
abbrev CXT := List Env → Hp → Shared → XK → Value → Shared → Prop

/-- the state at a call -/
structure Env0 (P : Program) (w : World) (K : PySem.W.Frag) (mg : Str → Option Value) (base : Heap) (A : Around) (outer : List Env) (s : Shared) (H : Hp) : Prop where
  frames : A.frames = some outer
  mod : Mod K mg base
  bs : ∀ b o, base.get? b = some o → s.heap.get? b = some o ∧ H b = none
  bsz : base.objs.size ≤ s.heap.objs.size
  funs : s.heap.FunFrames base outer
  frf : ∀ b ∈ frs outer, H b = none
  hok : HOk P w H s.heap
  bare : AllBare s.gens
/-- a call's end -/
def CE (outer : List Env) (P : Program) (w : World) (H : Hp) (s : Shared) (Q : VK) (u : Value) (s' : Shared) : Prop :=
  ∃ v H', s'.os = s.os ∧ AllBare s'.gens ∧ Un (frs outer) [] H H' s.heap s'.heap ∧ HOk P w H' s'.heap ∧ RelV v u ∧ Q v H'
def CR (CX : CXT) (outer : List Env) (P : Program) (w : World) (H : Hp) (s : Shared) (Q : VK) (E : XK) (r : Result) (s' : Shared) : Prop :=
  match r with
  | .ok (.ret u) => CE outer P w H s Q u s'
  | .ok _ => False
  | .error e => CX outer H s E e s'
structure FnOk (P : Program) (w : World) (K : PySem.W.Frag) (mg : Str → Option Value) (base : Heap) (CX : CXT) (k : Nat) (f : Addr) (fd : FuncData) (ps : List Str) (sp : Sp) : Prop where
  len : ∀ vs H Q E, sp vs H Q E → vs.length = ps.length
  run : ∀ (A : Around) (outer : List Env) (s : Shared) (H : Hp) (args : Args) (us : List Value) (vs : List V) (Q : VK) (E : XK), Room k A → Env0 P w K mg base A outer s H → BindsTo s fd args (ps.zip us) → Vals vs us → sp vs H Q E →
    codeAny (model P w) A (.call (.ref f) args) (CR CX outer P w H s Q E) s


section
variable {X : Cx} {pins : List (Addr × Obj)} {σ : St} {H : Hp} {s s' : Shared}
/-- from a body: what a callee wants -/
theorem Inv.env0 (I : Inv X pins σ H s) : Env0 X.prog X.w X.K X.mg X.base X.A X.stack s H :=
  ⟨I.ok.frames, I.ok.mod, I.bs, Nat.le_trans I.ok.bsz I.sz, I.stack, I.stkFree, I.hok, I.bare⟩
/-- behind a call -/
theorem Inv.after {Q : VK} {u : Value} (I : Inv X pins σ H s) (h : CE X.stack X.prog X.w H s Q u s') : EP X pins σ Q u s' := by
  obtain ⟨v, H', os, bare, un, hok, r, q⟩ := h
  obtain ⟨hh, g, d, t, os'⟩ := s'
  obtain rfl : os' = s.os := os
  exact ⟨v, H', I.call (h' := hh) (g' := g) (d' := d) (t' := t) (ch := []) un hok bare (fun b z => absurd z (by simp)), r, q⟩
end

/-! ### calls -/
/-- f(..): the written arguments, then the defaults dvs; E: what is wanted of an exception -/
def tCall (sp : Sp) (dvs : List V) (E : XK) (t : TA) : TE := fun σ H Q => t σ H fun vs H1 => sp (vs ++ dvs) H1 Q E

/-- how the parameters are bound: us the positional arguments, kw the keywords' values by name, ds the defaults that fill up -/
def Binds (K : PySem.W.Frag) (fd : FuncData) (ps : List Str) (ds : List Value) : Prop :=
  ∀ (s : Shared) (us : List Value), K.In s.heap → (us ++ ds).length = ps.length → BindsTo s fd ⟨us, []⟩ (ps.zip (us ++ ds))
/-- every parameter is given -/
theorem Binds.all {K : PySem.W.Frag} {fd : FuncData} {ps : List Str} (h : ∀ us : List Value, us.length = ps.length → bindArgs fd ⟨us, []⟩ = pure (ps.zip us)) : Binds K fd ps [] := fun s us _ hl => by
  rw [List.append_nil] at hl ⊢
  exact .of_eq (h us hl)

/-- an exception of a callee reaches what this body wants of exceptions -/
def Passes (CX : CXT) (X : Cx) (E : XK) : Prop := ∀ (pins : List (Addr × Obj)) (σ : St) (H : Hp) (s : Shared) (e : Value) (s' : Shared), Inv X pins σ H s → CX X.stack H s E e s' → X.xe e s'

section
variable {X : Cx} {CX : CXT} {k : Nat} {f C : Addr} {fd : FuncData} {ps : List Str} {sp : Sp} {dvs : List V} {ds : List Value} {E : XK} {x m : Str} {p pos apos : Pos} {e o : Expr} {es : List Expr} {ta : TE} {t : TA}

/-- the callee runs -/
theorem run_fn {pins : List (Addr × Obj)} {σ : St} {H : Hp} {s : Shared} {Q : VK} {us : List Value} {vs : List V} (F : FnOk X.prog X.w X.K X.mg X.base CX k f fd ps sp) (hr : Room k X.A) (hb : Binds X.K fd ps ds) (hd : Vals dvs ds) (hx : Passes CX X E)
    (I : Inv X pins σ H s) (r : Vals vs us) (h : sp (vs ++ dvs) H Q E) : wpAny (model X.prog X.w) X.A (call (.ref f) us) (EP X pins σ Q) X.xe s := by
  have r2 : Vals (vs ++ dvs) (us ++ ds) := r.append hd
  have hl : (us ++ ds).length = ps.length := by rw [← r2.length]; exact F.len _ _ _ _ h
  refine wpAny_call (codeAny_mono (F.run X.A X.stack s H ⟨us, []⟩ (us ++ ds) (vs ++ dvs) Q E hr I.env0 (hb s us I.kIn hl) r2 h) fun r s' hq => ?_)
  cases r with
  | error e => exact hx pins σ H s e s' I hq
  | ok fl =>
    cases fl with
    | ret u => exact I.after hq
    | next => exact False.elim hq
    | brk => exact False.elim hq
    | cont => exact False.elim hq

theorem pe_call (F : FnOk X.prog X.w X.K X.mg X.base CX k f fd ps sp) (hr : Room k X.A) (hg : Gl X x) (hm : X.mg x = some (.ref f)) (hk : PySem.W.keepIn X.K (.ref f) = true) (hb : Binds X.K fd ps ds) (hd : Vals dvs ds) (hx : Passes CX X E)
    (ha : PA X (e :: es) t) (hdb : (x == ("__debug__" : Str)) = false := by decide) (he : starEach (e :: es) X.env = (false, eval e X.env) :: starEach es X.env := by rfl) (hpl : (backTo pos (starEach es X.env)).any (·.1) = false := by rfl) :
    PE X (.Call (.Name x p) (e :: es) [] pos) (tCall sp dvs E t) := by
  intro pins s σ H Q I h
  refine wpAny_Call_Name_kw (ld_glob I hg hm ?_ hdb)
  refine PySem.W.callWith_K (h₀ := X.base) I.ok.mod.kin hk (thn (ha pos pins s σ H _ I h) fun us s1 ⟨vs, H1, I1, r, q⟩ => ⟨I1.kIn, ?_⟩) he hpl
  exact run_fn F hr hb hd hx I1 r q



end

/-! ### keywords -/
section
variable {X : Cx} {CX : CXT} {k : Nat} {f C : Addr} {fd : FuncData} {ps ks : List Str} {sp : Sp} {E : XK} {x m : Str} {p pos apos kpos : Pos} {e o : Expr} {es : List Expr} {kws : List Keyword} {te ta : TE} {t tk : TA} {nm : Option Str}

variable {g : List Value → List Value → List Value} {gV : List V → List V → List V}
end

/-! ### a def's body keeps its promise -/
/-- names: the parameters first -/
structure FnScope (N P : List Str) (sc : Scope) : Prop where
  kind : sc.kind = .function
  co : sc.isCoroutine = false
  gen : sc.isGenerator = false
  nd : N.Nodup
  pre : N.take P.length = P
  par : ∀ x ∈ P, sc.names.lookup x = some .local ∨ sc.names.lookup x = some .cell
  nofree : ∀ y ∈ sc.names, y.2 ≠ .free

theorem bindL_out {kindOf : Str → Option NameKind} {x : Str} : ∀ {binds : List (Str × Value)} {m : Str → Option Value}, (∀ v, (x, v) ∉ binds) → bindL kindOf binds m x = m x
  | [], _, _ => rfl
  | (n, v) :: r, m, h => by
    unfold bindL
    rw [bindL_out fun w hw => h w (List.mem_cons_of_mem _ hw)]
    split
    · have : x ≠ n := by rintro rfl; exact h v List.mem_cons_self
      simp [this]
    · rfl
theorem bindC_out {kindOf : Str → Option NameKind} {x : Str} : ∀ {binds : List (Str × Value)} {m : Str → Option Value}, (∀ v, (x, v) ∉ binds) → bindC kindOf binds m x = m x
  | [], _, _ => rfl
  | (n, v) :: r, m, h => by
    unfold bindC
    rw [bindC_out fun w hw => h w (List.mem_cons_of_mem _ hw)]
    split
    · rfl
    · have : x ≠ n := by rintro rfl; exact h v List.mem_cons_self
      simp [this]
theorem bindL_get {kindOf : Str → Option NameKind} {x : Str} {v : Value} : ∀ {P : List Str} {vs : List Value} {i : Nat} {m : Str → Option Value}, P.Nodup → P[i]? = some x → vs[i]? = some v → kindOf x = some .local →
    bindL kindOf (P.zip vs) m x = some v
  | [], _, _, _, _, h, _, _ => by simp at h
  | _ :: _, [], _, _, _, _, h, _ => by simp at h
  | p :: P, w :: vs, 0, m, nd, h1, h2, hk => by
    simp at h1 h2; subst h1; subst h2
    show bindL kindOf ((p, w) :: P.zip vs) m p = _
    unfold bindL
    rw [bindL_out fun v hv => (List.nodup_cons.mp nd).1 (List.of_mem_zip hv).1, if_pos hk]
    simp
  | p :: P, w :: vs, i + 1, m, nd, h1, h2, hk => by
    show bindL kindOf ((p, w) :: P.zip vs) m x = _
    unfold bindL
    exact bindL_get (i := i) (List.nodup_cons.mp nd).2 (by simpa using h1) (by simpa using h2) hk
theorem bindC_get {kindOf : Str → Option NameKind} {x : Str} {v : Value} : ∀ {P : List Str} {vs : List Value} {i : Nat} {m : Str → Option Value}, P.Nodup → P[i]? = some x → vs[i]? = some v → kindOf x ≠ some .local →
    bindC kindOf (P.zip vs) m x = some v
  | [], _, _, _, _, h, _, _ => by simp at h
  | _ :: _, [], _, _, _, _, h, _ => by simp at h
  | p :: P, w :: vs, 0, m, nd, h1, h2, hk => by
    simp at h1 h2; subst h1; subst h2
    show bindC kindOf ((p, w) :: P.zip vs) m p = _
    unfold bindC
    rw [bindC_out fun v hv => (List.nodup_cons.mp nd).1 (List.of_mem_zip hv).1, if_neg hk]
    simp
  | p :: P, w :: vs, i + 1, m, nd, h1, h2, hk => by
    show bindC kindOf ((p, w) :: P.zip vs) m x = _
    unfold bindC
    exact bindC_get (i := i) (List.nodup_cons.mp nd).2 (by simpa using h1) (by simpa using h2) hk

/-- the names' values at the entry -/
def start (N : List Str) (vs : List V) : St := vs.map some ++ List.replicate (N.length - vs.length) none

/-- the context of a def's body, at its entry; an exception leaves the frame, then lies as CX says -/
def cxOf (CX : CXT) (P : Program) (w : World) (K : PySem.W.Frag) (mg : Str → Option Value) (base : Heap) (N : List Str) (qual : Str) (scope : Scope) (f : Addr) (cd : Value) (A : Around) (outer : List Env) (s : Shared) (H : Hp) (E : XK) : Cx where
  prog := P
  w := w
  K := K
  mg := mg
  base := base
  A := A.deeper (envOfC qual scope s.heap.objs.size f cd)
  N := N
  s₀ := s
  H₀ := H
  env := envOfC qual scope s.heap.objs.size f cd
  outer := outer
  stack := envOfC qual scope s.heap.objs.size f cd :: outer
  ex := []
  calm := true
  fn := fun _ => true
  pn := []
  xe := fun e s' => wpAny (model P w) (A.deeper (envOfC qual scope s.heap.objs.size f cd)) (leaving (envOfC qual scope s.heap.objs.size f cd) e) (fun _ s'' => CX outer H s E e s'') (fun e' s'' => CX outer H s E e' s'') s'

theorem cell_has {sc : Scope} {n : Nat} {x : Str} (h : sc.names.lookup x = some .cell) : ∃ c, (cellsFrom n sc.names []).lookup x = some c := by
  have q := PySem.W.cellsFrom_some sc.names n [] (.inl h)
  exact Option.isSome_iff_exists.mp q

theorem inv_start {CX : CXT} {P : Program} {w : World} {K : PySem.W.Frag} {mg : Str → Option Value} {base : Heap} {N ps : List Str} {qual : Str} {scope : Scope} {f : Addr} {cd : Value} {A : Around} {outer : List Env} {s s1 : Shared} {H : Hp} {E : XK} {us : List Value} {vs : List V}
    (S : FnScope N ps scope) (hd : A.handled = none) (e0 : Env0 P w K mg base A outer s H) (hl : vs.length = ps.length) (r : Vals vs us)
    (x : InCallC s s.heap.objs.size (bindL (envOfC qual scope s.heap.objs.size f cd).kindOf (ps.zip us) fun _ => none) (cellsFrom (s.heap.objs.size + 1) scope.names []) (bindC (envOfC qual scope s.heap.objs.size f cd).kindOf (ps.zip us) fun _ => none) s1) :
    Inv (cxOf CX P w K mg base N qual scope f cd A outer s H E) [] (start N vs) H s1 := by
  have hpl : ps.length ≤ N.length := by have := congrArg List.length S.pre; rw [List.length_take] at this; omega
  obtain ⟨h1, tk, rfl, hk⟩ := x.done
  have noA : ∀ b : Addr, b ∉ (cxOf CX P w K mg base N qual scope f cd A outer s H E).ex := fun b z => absurd (show b ∈ ([] : List Addr) from z) (by simp)
  refine ⟨⟨e0.mod, S.kind, rfl, rfl, Nat.le_refl _, fun y z c h1 h2 => ?_, fun y hy => ?_, fun y c _ h => ?_, fun _ => hd, Around.frames_deeper e0.frames, .inr ⟨rfl, rfl⟩, fun b z => absurd z (noA b), e0.bs, e0.bsz, fun b _ _ => noA b, fun b z => absurd z (noA b), e0.funs, e0.frf⟩,
    rfl, e0.bare, Un.kept hk, ⟨_, x.toInCall.ns, fun i y v h1 h2 h3 => ?_⟩, fun y c h => ⟨_, x.cell y c h⟩, e0.hok.fresh (Nat.le_refl _), fun y c h => ?_, fun p hp => absurd (show p ∈ ([] : List (Addr × Obj)) from hp) (by simp), e0.hok.kept hk, ?_⟩
  · exact name_of_addr x.apart (PySem.mem_of_lookup h1) (PySem.mem_of_lookup h2)
  · have hy : scope.names.lookup y = some .cell ∨ scope.names.lookup y = some .free := hy
    rcases hy with hy | hy
    · exact cell_has hy
    · exact absurd rfl (S.nofree _ (PySem.mem_of_lookup hy))
  · exact Nat.le_of_lt (x.above y c (PySem.mem_of_lookup h))
  · have hi : i < vs.length := by
      unfold start at h2
      by_cases hi : i < vs.length
      · exact hi
      · rw [List.getElem?_append_right (by simpa using hi)] at h2
        rw [List.getElem?_replicate] at h2
        split at h2 <;> cases h2
    have ha : vs[i]? = some v := by
      unfold start at h2
      rw [List.getElem?_append_left (by simpa using hi), List.getElem?_map] at h2
      cases e : vs[i]? with
      | none => rw [e] at h2; cases h2
      | some a => rw [e] at h2; cases h2; rfl
    obtain ⟨u, hu, rv⟩ := r.get ha
    have hp : ps[i]? = some y := by
      rw [← S.pre, List.getElem?_take_of_lt (by omega)]; exact h1
    have ndP : ps.Nodup := by rw [← S.pre]; exact S.nd.sublist (List.take_sublist _ _)
    refine ⟨u, rv, ?_⟩
    rcases S.par y (List.mem_of_getElem? hp) with k | k
    · exact .inl ⟨k, bindL_get ndP hp hu k⟩
    · obtain ⟨c, e⟩ := cell_has (n := s.heap.objs.size + 1) k
      refine .inr ⟨.inl k, c, e, ?_⟩
      have q := x.cell y c e
      rw [bindC_get ndP hp hu (by show scope.names.lookup y ≠ _; rw [k]; decide)] at q
      exact q
  · exact e0.hok.fresh (Nat.le_of_lt (x.above y c (PySem.mem_of_lookup h)))
  · unfold start
    show _ = N.length
    rw [List.length_append, List.length_map, List.length_replicate]
    omega

/-- THE RULE: a def (or a method) of the text, by its body. The body's reading t is chosen for each entry; it is run at the parameters' values -/
theorem fn_of {CX : CXT} {P : Program} {w : World} {K : PySem.W.Frag} {mg : Str → Option Value} {base : Heap} {k : Nat} {f : Addr} {name qual : Str} {params : Arguments} {body : List Stmt} {scope : Scope} {dV kV doc pm cdv ct oc : Value} {an od : Option Addr}
    {osl : Array (Option Value)} {N ps : List Str} {sp : Sp} (lk : K.lookup f = some ⟨oc, od, .func (PySem.W.fnOf name qual params body scope dV kV doc pm an cdv ct), osl⟩) (hcd : PySem.W.codeIn K cdv qual = true) (S : FnScope N ps scope)
    (len : ∀ vs H Q E, sp vs H Q E → vs.length = ps.length)
    (hbody : ∀ (A : Around) (outer : List Env) (s : Shared) (H : Hp) (vs : List V) (Q : VK) (E : XK), Room k (A.deeper (envOfC qual scope s.heap.objs.size f cdv)) → sp vs H Q E →
      ∃ t, PSs (cxOf CX P w K mg base N qual scope f cdv A outer s H E) body t ∧ t { nx := fun _ H' => Q .non H', rt := Q } (start N vs) H) :
    FnOk P w K mg base CX (k + 1) f (PySem.W.fnOf name qual params body scope dV kV doc pm an cdv ct) ps sp := by
  refine ⟨len, fun A outer s H args us vs Q E hr e0 hb r hsp => ?_⟩
  have hl := len _ _ _ _ hsp
  have KX : K.In s.heap := e0.mod.kin.keeps fun b o e => (e0.bs b o e).1
  have lim : s.heap.NoLimit := e0.mod.nolimit.keeps fun b o e => (e0.bs b o e).1
  have hkind : ∀ y ∈ ps.zip us, scope.names.lookup y.1 = some .local ∨ (scope.names.lookup y.1 = some .cell ∧ ((cellsFrom (s.heap.objs.size + 1) scope.names []).lookup y.1).isSome = true) := fun ⟨n, v⟩ hy => by
    rcases S.par n (List.of_mem_zip hy).1 with q | q
    · exact .inl q
    · exact .inr ⟨q, PySem.W.cellsFrom_some _ _ _ (.inl q)⟩
  refine codeAny_call_function hr.depth (KX _ _ lk) rfl S.co S.gen rfl (PySem.W.codeRec_of KX hcd) (hb _ _ _ _ ?_)
  refine wpAny_newFunctionEnv_cells S.kind hkind fun env he s1 x => ?_
  subst he
  refine ⟨lim.keeps x.toInCall.keep, codeAny_func ?_⟩
  obtain ⟨t, ht, hq⟩ := hbody A outer s H vs Q E (hr.deeper _) hsp
  have I : Inv (cxOf CX P w K mg base N qual scope f cdv A outer s H E) [] (start N vs) H s1 := inv_start S hr.hd e0 hl r x
  refine wpAny_mono (ht [] s1 (start N vs) H _ I hq) (fun fl s' hs => ?_) fun e s' hs => hs
  have fin : ∀ {σ' : St} {H' : Hp} {v : V} {u : Value}, Inv (cxOf CX P w K mg base N qual scope f cdv A outer s H E) [] σ' H' s' → RelV v u → Q v H' → CE outer P w H s Q u s' :=
    fun {σ' H' v u} J rv q => ⟨v, H', J.os, J.bare, J.base, J.hok, rv, q⟩
  cases fl with
  | ret u =>
    obtain ⟨v, σ', H', J, rv, q⟩ := hs
    exact fin J rv q
  | next =>
    obtain ⟨σ', H', J, q⟩ := hs
    exact fin (v := V.non) (u := Value.none) J rfl q
  | brk =>
    obtain ⟨_, _, _, q⟩ := hs
    exact False.elim q
  | cont =>
    obtain ⟨_, _, _, q⟩ := hs
    exact False.elim q
end L2

namespace L2
open PySem PySem.Spec PyProof.Rows
section
variable {X : Cx} {x : Str} {p pos : Pos} {e : Expr} {es : List Expr} {t : TA} {id T : String} {r : List V → Hp → VK → Prop}

def tCB (r : List V → Hp → VK → Prop) (t : TA) : TE := fun σ H Q => t σ H fun vs H1 => r vs H1 Q
/-- f(e, ..), f a built-in function -/
theorem pe_callB (hc : CallR X (.builtin id) r) (hg : Gl X x) (hm : X.mg x = none) (hv : bootBuiltins x = some (.builtin id)) (ha : PA X (e :: es) t) (hn : x ≠ "__name__" := by decide) (hdb : (x == ("__debug__" : Str)) = false := by decide)
    (he : starEach (e :: es) X.env = (false, eval e X.env) :: starEach es X.env := by rfl) (hpl : (backTo pos (starEach es X.env)).any (·.1) = false := by rfl) : PE X (.Call (.Name x p) (e :: es) [] pos) (tCB r t) := by
  intro pins s σ H Q I h
  refine wpAny_Call_Name_kw (ld_blt I hg hm hv ?_ hn hdb)
  exact PyProof.Rows.callWith_builtin1 (thn (ha pos pins s σ H _ I h) fun us s1 ⟨vs, H1, I1, r1, q1⟩ => hc pins s1 σ H1 vs us Q I1 r1 q1) he hpl
/-- T(e, ..), T a built-in type -/
theorem pe_callTy (hc : CallR X (.type T) r) (hg : Gl X x) (hm : X.mg x = none) (hv : bootBuiltins x = some (.type T)) (ha : PA X (e :: es) t) (hn : x ≠ "__name__" := by decide) (hdb : (x == ("__debug__" : Str)) = false := by decide)
    (he : starEach (e :: es) X.env = (false, eval e X.env) :: starEach es X.env := by rfl) (hpl : (backTo pos (starEach es X.env)).any (·.1) = false := by rfl) : PE X (.Call (.Name x p) (e :: es) [] pos) (tCB r t) := by
  intro pins s σ H Q I h
  refine wpAny_Call_Name_kw (ld_blt I hg hm hv ?_ hn hdb)
  exact PyProof.Rows.callWith_type1 (thn (ha pos pins s σ H _ I h) fun us s1 ⟨vs, H1, I1, r1, q1⟩ => hc pins s1 σ H1 vs us Q I1 r1 q1) he hpl
end
end L2

namespace HT
open PySem PyProof.Rows

/-- t < u of tuples of ints -/
def lexLt : List Int → List Int → Bool
  | [], [] => false
  | [], _ :: _ => true
  | _ :: _, [] => false
  | x :: xs, y :: ys => if x = y then lexLt xs ys else decide (x < y)
theorem lexLt_cons (x y : Int) (xs ys : List Int) : lexLt (x :: xs) (y :: ys) = if x = y then lexLt xs ys else decide (x < y) := rfl
theorem lexLt_nil_nil : lexLt [] [] = false := rfl
theorem lexLt_nil_cons (y : Int) (ys : List Int) : lexLt [] (y :: ys) = true := rfl
theorem lexLt_cons_nil (x : Int) (xs : List Int) : lexLt (x :: xs) [] = false := rfl

theorem eqAt_int (A : Around) (s : Shared) (a : Int) (t : Tok) (c : Int) (u : Tok) : ∃ e, SeqAt.EqAt A s (.int a t) (.int c u) e ∧ (e = true ↔ a = c) :=
  ⟨(a == c), SeqAt.EqAt.int_int a t c u, by simp⟩
theorem rcLt_int (A : Around) (s : Shared) (a : Int) (t : Tok) (c : Int) (u : Tok) (prog : Program) (w : World) (E : Value → Shared → Prop) (Q : Value → Shared → Prop) (h : Q (.bool (decide (a < c))) s) :
    wpAny (model prog w) A (richCompare .Lt (.int a t) (.int c u)) Q E s :=
  (PyProof.Rows.lt_int h : wpAny (model prog w) A (compareOp .Lt (.int a t) (.int c u)) Q E s)

section
open PySem.SeqAt
open PySem.AutoSeq1 (wpAny_loadPart')
open PySem.MeetsSeq PySem.MeetsSeq2 PySem.MeetsSeq3

theorem tuple_lt_ints (l b : Addr) (items items2 : Array Value) (n n2 : Nat) (dd dd2 : Option Addr) (sl sl2 : Array (Option Value)) (ns ms : List Int) (hi : IntsAre items.toList ns) (hj : IntsAre items2.toList ms) :
    Meets (Builtin.«tuple.__lt__» ⟨[.ref l, .ref b], []⟩)
      (fun _ R s => s.heap.get? l = some { cls := .type "tuple", dict := dd, data := .seq items n, slots := sl } ∧ s.heap.get? b = some { cls := .type "tuple", dict := dd2, data := .seq items2 n2, slots := sl2 } ∧
        R (.ok (.ret (.bool (lexLt ns ms)))) s) :=
  .of_wp fun prog w A R s h => by
    obtain ⟨hp, g, d, tk, os⟩ := s; obtain ⟨hl, hb, h⟩ := h
    have f2 := AutoSeq1.sub_tuple_tuple
    have z1 : items.size = ns.length := by rw [← hi.length]; simp
    have z2 : items2.size = ms.length := by rw [← hj.length]; simp
    wp_walk using wpAny_loadPart' hl, wpAny_loadPart' hb, wpAny_forIn_list _ (fun rest b s' => b.1 = none ∧ s' = ⟨hp, g, d, tk, os⟩ ∧ ∃ (vs ws : List Value) (ns' ms' : List Int), rest = vs.zip ws ∧
      IntsAre vs ns' ∧ IntsAre ws ms' ∧ ns'.length + items2.size = ms'.length + items.size ∧ R (.ok (.ret (.bool (lexLt ns' ms')))) ⟨hp, g, d, tk, os⟩) _
    case turn =>
      rintro ⟨y, x⟩ rest b s' ⟨hb', rfl, vs, ws, ns', ms', hz, hvi, hwi, hlen, hR⟩
      cases hvi with
      | nil => rw [List.zip_nil_left] at hz; cases hz
      | cons a t hvi' =>
        cases hwi with
        | nil => rw [List.zip_nil_right] at hz; cases hz
        | cons c u hwi' =>
          rw [List.zip_cons_cons] at hz
          injection hz with hyx hrest
          injection hyx with hy hx
          subst hy hx
          rw [lexLt_cons] at hR
          simp only [List.length_cons] at hlen
          obtain ⟨e, he, hiff⟩ := eqAt_int A.in1 ⟨hp, g, d, tk, os⟩ a t c u
          refine wpAny_bind (he prog w _ _ ?_)
          cases e with
          | true =>
            rw [if_pos (hiff.mp rfl)] at hR
            wp_walk
            exact ⟨rfl, rfl, _, _, _, _, hrest, hvi', hwi', by omega, hR⟩
          | false =>
            rw [if_neg (fun q => absurd (hiff.mpr q) Bool.false_ne_true)] at hR
            have hri := rcLt_int A.in1 ⟨hp, g, d, tk, os⟩ a t c u prog w
            wp_walk using hri
            exact ⟨_, rfl, by simpa using hR⟩
    case fin =>
      rintro ⟨b1, b2⟩ s' ⟨hb', rfl, vs, ws, ns', ms', hz, hvi, hwi, hlen, hR⟩
      simp only at hb'
      subst hb'
      have hv : lexLt ns' ms' = decide (items.size < items2.size) := by
        cases hvi with
        | nil =>
          cases hwi with
          | nil =>
            simp only [List.length_nil] at hlen
            rw [lexLt_nil_nil]
            exact (decide_eq_false (by omega)).symm
          | cons c u hw =>
            simp only [List.length_nil, List.length_cons] at hlen
            rw [lexLt_nil_cons]
            exact (decide_eq_true (by omega)).symm
        | cons a t hv =>
          cases hwi with
          | nil =>
            simp only [List.length_nil, List.length_cons] at hlen
            rw [lexLt_cons_nil]
            exact (decide_eq_false (by omega)).symm
          | cons c u hw =>
            rw [List.zip_cons_cons] at hz
            cases hz
      rw [hv] at hR
      wp_walk
      exact ⟨_, rfl, by simpa [Builtin.Tuple.tupleCompareSizes] using hR⟩
    case h =>
      exact ⟨rfl, rfl, items.toList, items2.toList, ns, ms, rfl, hi, hj, by omega, h⟩
end

section
variable {prog : Program} {w : World} {A : Around} {E : Value → Shared → Prop} {s : Shared}

theorem lt_tupInts {l b : Addr} {items items2 : Array Value} {ns ms : List Int} {Q : Value → Shared → Prop} (hl : IsTup s.heap l items) (hb : IsTup s.heap b items2) (hi : IntsAre items.toList ns) (hj : IntsAre items2.toList ms)
    (hu : A.units < cLine) (h : Q (.bool (lexLt ns ms)) s) : wpAny (model prog w) A (compareOp .Lt (.ref l) (.ref b)) Q E s := by
  obtain ⟨⟨cls, dd, data, sl⟩, ho, hc, n, hd⟩ := id hl
  obtain ⟨⟨cls2, dd2, data2, sl2⟩, ho2, hc2, n2, hd2⟩ := id hb
  simp only at hc hd hc2 hd2
  subst hc hd hc2 hd2
  exact richCompare_meets_room (op := .Lt) ⟨_, ho, rfl⟩ ⟨_, ho2, rfl⟩ PySem.F.slot_tuple_lt PySem.F.entry_tuple_lt (PySem.F.args_tuple_lt_2 _ _) (tuple_lt_ints l b items items2 n n2 dd dd2 sl sl2 ns ms hi hj)
    ⟨ho, ho2, show Value.bool (lexLt ns ms) ≠ Value.notImplemented ∧ Q (.bool (lexLt ns ms)) s from ⟨(fun x => nomatch x), h⟩⟩ hu


/-! ### t[a:b], not the whole -/
/-- a slice's bound as a place among n (d where it is left out) -/
def sIx (n d : Nat) : Option Int → Nat
  | none => d
  | some v => if v < 0 then (v + (n : Int)).toNat else min v.toNat n
theorem sIx_none (n d : Nat) : sIx n d none = d := rfl
theorem sIx_nat (n d k : Nat) : sIx n d (some (k : Int)) = min k n := by
  show (if (k : Int) < 0 then ((k : Int) + (n : Int)).toNat else min (k : Int).toNat n) = min k n
  rw [if_neg (by omega), Int.toNat_natCast]
theorem slicePart_ {v : Value} {o : Option Int} {Q : Option Int → Shared → Prop} (p : IsPart v o) (h : Q o s) : wpAny (model prog w) A (Builtin.Slice.slicePartIndex v) Q E s := by
  cases p with
  | none => exact slicePart_none h
  | int i t => exact slicePart_int h

end
end HT

namespace L2
open PySem PySem.Spec PyProof.Rows

/-! ### the parts of a slice -/
abbrev TO := St → Hp → (Option Int → Hp → Prop) → Prop
/-- a slice's part (left out, or an int) -/
def PO (X : Cx) (e : Option Expr) (t : TO) : Prop :=
  ∀ (pins : List (Addr × Obj)) (s : Shared) (σ : St) (H : Hp) (Q : Option Int → Hp → Prop), Inv X pins σ H s → t σ H Q →
    wpAny (model X.prog X.w) X.A (evalPart e X.env) (fun u s' => ∃ o H', Inv X pins σ H' s' ∧ IsPart u o ∧ Q o H') X.xe s
def tNoPart : TO := fun _ H Q => Q none H
def tPart (t : TE) : TO := fun σ H Q => t σ H fun x H1 => ∃ i, x = .int i ∧ Q (some i) H1

theorem intsAre_of {ns : List Int} : ∀ {us : List Value}, Vals (ns.map V.int) us → IntsAre us ns := by
  induction ns with
  | nil => intro us r; rw [List.map_nil] at r; cases r; exact .nil
  | cons n ns ih =>
    intro us r
    rw [List.map_cons] at r
    cases r with
    | cons r1 r2 =>
      obtain ⟨t, e⟩ := r1
      subst e
      exact .cons n t (ih r2)

section
variable {X : Cx} {e : Expr} {te : TE} {lo hi : Option Expr} {tl th : TO} {pos p2 : Pos}

theorem po_none : PO X none tNoPart := by
  intro pins s σ H Q I h
  rw [evalPart_none]
  exact wpAny_pure ⟨none, H, I, .none, h⟩
theorem po_some (h : PE X e te) : PO X (some e) (tPart te) := by
  intro pins s σ H Q I hw
  rw [evalPart_some]
  refine thn (h pins s σ H _ I hw) fun u s1 ⟨x, H1, I1, r1, q1⟩ => ?_
  obtain ⟨i, rfl, q⟩ := q1
  obtain ⟨t, rfl⟩ := r1
  exact ⟨some i, H1, I1, .int i t, q⟩

/-- what a slice of a value is, by values: the slice object stands at sl -/
def SlR (X : Cx) (r : V → Option Int → Option Int → Hp → VK → Prop) : Prop :=
  ∀ (pins : List (Addr × Obj)) (s : Shared) (σ : St) (H : Hp) (x : V) (v vl vu : Value) (lo hi : Option Int) (sl : Addr) (Q : VK), Inv X pins σ H s → RelV x v → s.heap.IsSliceOf sl vl vu .none → IsPart vl lo → IsPart vu hi → r x lo hi H Q →
    ∃ T id, typeLookup (.type T) "__getitem__" = pure (some (.builtin id)) ∧ s.TypeIs v T ∧ wpAny (model X.prog X.w) X.A (getItem v (.ref sl)) (EP X pins σ Q) X.xe s
def tSl (r : V → Option Int → Option Int → Hp → VK → Prop) (te : TE) (tl th : TO) : TE := fun σ H Q => te σ H fun x H1 => tl σ H1 fun l H2 => th σ H2 fun u H3 => r x l u H3 Q
/-- a[lo:hi], any a -/
theorem pe_slice {r : V → Option Int → Option Int → Hp → VK → Prop} (hr : SlR X r) (he : PE X e te) (hl : PO X lo tl) (hu : PO X hi th) : PE X (.Subscript e (.Slice lo hi none p2) pos) (tSl r te tl th) := by
  intro pins s σ H Q I h
  refine Subscript_ (thn (he pins s σ H _ I h) fun v s1 ⟨x, H1, I1, r1, q1⟩ => ?_)
  refine wpAny_Slice (thn (hl pins s1 σ H1 _ I1 q1) fun vl s2 ⟨l, H2, I2, pl, q2⟩ => thn (hu pins s2 σ H2 _ I2 q2) fun vu s3 ⟨u, H3, I3, pu, q3⟩ => ?_)
  rw [evalPart_none]
  refine wpAny_pure ?_
  have I4 : Inv X pins σ H3 { s3 with heap := s3.heap.push { cls := .type "slice", data := .fields #[vl, vu, .none] } } := I3.kept (t' := s3.toks) fun b ob q => Heap.get?_push_of_some _ q
  obtain ⟨T, id, hT, ht, hg⟩ := hr pins { s3 with heap := s3.heap.push { cls := .type "slice", data := .fields #[vl, vu, .none] } } σ H3 x v vl vu l u s3.heap.objs.size Q I4 r1 (Heap.IsSliceOf.new ..) pl pu q3
  show wpAny (model X.prog X.w) X.A (subscriptTail e (.Slice lo hi none p2) v (.ref s3.heap.objs.size)) (EP X pins σ Q) X.xe { s3 with heap := s3.heap.push { cls := .type "slice", data := .fields #[vl, vu, .none] } }
  exact tail_any (ops := [.ref s3.heap.objs.size, v]) ht hT hg (by with_unfolding_all rfl)

/-- the items of xs[lo:hi] -/
def cutV (xs : List V) (lo hi : Option Int) : List V := (xs.drop (HT.sIx xs.length 0 lo)).take (HT.sIx xs.length xs.length hi - HT.sIx xs.length 0 lo)
theorem cutV_length (xs : List V) (lo hi : Option Int) : (cutV xs lo hi).length ≤ xs.length := by
  unfold cutV
  rw [List.length_take, List.length_drop]
  omega

/-! ### t < u, t + u -/
def rLtT (K : PySem.W.Frag) : R2 := fun x y H Q => ∃ a b ns ms, x = .ref a ∧ y = .ref b ∧ SqT K H a (ns.map V.int) ∧ SqT K H b (ms.map V.int) ∧ Q (.bl (HT.lexLt ns ms)) H
theorem op_ltT (hu : X.A.units < cLine) : OpR X (compareOp .Lt) (rLtT X.K) := by
  intro pins s σ H x y v u Q I rx ry h
  obtain ⟨a, b, ns, ms, rfl, rfl, ha, hb, q⟩ := h
  cases rx
  cases ry
  obtain ⟨its, r1, p1, _⟩ := I.tuple ha
  obtain ⟨its2, r2, p2, _⟩ := I.tuple hb
  have i1 : IntsAre its.toArray.toList ns := intsAre_of r1
  have i2 : IntsAre its2.toArray.toList ms := intsAre_of r2
  exact HT.lt_tupInts p1 p2 i1 i2 hu ⟨.bl (HT.lexLt ns ms), H, I, rfl, q⟩
end
end L2

namespace L2
open PySem PySem.Spec PyProof.Rows

/-! ### places -/
/-- the place that an index of any sign means -/
def ixN (n : Nat) (i : Int) : Option Nat := if 0 ≤ i then (if i < n then some i.toNat else none) else if -(n : Int) ≤ i then some (i + n).toNat else none
def atI {α : Type} (xs : List α) (i : Int) : Option α := (ixN xs.length i).bind fun j => xs[j]?
theorem ixN_seq {n : Nat} {i : Int} {j : Nat} (h : ixN n i = some j) : seqIndex? i n = some j ∧ j < n ∧ -(n : Int) ≤ i ∧ i < n := by
  unfold ixN at h
  by_cases h0 : 0 ≤ i
  · rw [if_pos h0] at h
    by_cases h1 : i < n
    · rw [if_pos h1] at h
      have e : i.toNat = j := Option.some.inj h
      exact ⟨by rw [seqIndex_of h0 h1, e], by omega, by omega, h1⟩
    · rw [if_neg h1] at h; cases h
  · rw [if_neg h0] at h
    by_cases h1 : -(n : Int) ≤ i
    · rw [if_pos h1] at h
      have e : (i + n).toNat = j := Option.some.inj h
      exact ⟨by rw [seqIndex_neg (by omega) h1, e], by omega, h1, by omega⟩
    · rw [if_neg h1] at h; cases h
theorem atI_get {α : Type} {xs : List α} {i : Int} {v : α} (h : atI xs i = some v) : ∃ j, seqIndex? i xs.length = some j ∧ xs[j]? = some v ∧ j < xs.length ∧ -(xs.length : Int) ≤ i ∧ i < xs.length := by
  unfold atI at h
  cases e : ixN xs.length i with
  | none => rw [e] at h; cases h
  | some j =>
    rw [e] at h
    obtain ⟨h1, h2, h3, h4⟩ := ixN_seq e
    exact ⟨j, h1, h, h2, h3, h4⟩
theorem atI_nat {α : Type} {xs : List α} {j : Nat} {v : α} (h : xs[j]? = some v) : atI xs (j : Int) = some v := by
  have hj : j < xs.length := (List.getElem?_eq_some_iff.mp h).1
  have e : ixN xs.length (j : Int) = some j := by
    unfold ixN
    rw [if_pos (by omega), if_pos (by omega)]; simp
  unfold atI; rw [e]; exact h
theorem atI_last {α : Type} (xs : List α) (v : α) : atI (xs ++ [v]) (-1) = some v := by
  have hl : (xs ++ [v]).length = xs.length + 1 := by simp
  have e : ixN (xs ++ [v]).length (-1) = some xs.length := by
    unfold ixN
    rw [hl, if_neg (by decide), if_pos (by omega)]
    congr 1
    omega
  unfold atI
  rw [e]
  show (xs ++ [v])[xs.length]? = some v
  simp

/-! ### what may be subscripted -/
/-- what stands as an index of a plain subscript -/
def PlainIx (b : Expr) : Prop := ∀ o i, subscripted b false o i = operate [o, i] (getItem o i)
/-- a subscript by values -/
def IxR (X : Cx) (r : R2) : Prop :=
  ∀ (value slice : Expr) (pins : List (Addr × Obj)) (s : Shared) (σ : St) (H : Hp) (x y : V) (v u : Value) (Q : VK), Inv X pins σ H s → RelV x v → RelV y u → r x y H Q →
    subscripted slice false v u = operate [v, u] (getItem v u) → wpAny (model X.prog X.w) X.A (subscriptTail value slice v u) (EP X pins σ Q) X.xe s
/-- a call of a builtin's method by values: the receiver, the arguments -/
def MtR (X : Cx) (id : String) (r : V → List V → Hp → VK → Prop) : Prop :=
  ∀ (pins : List (Addr × Obj)) (s : Shared) (σ : St) (H : Hp) (x : V) (xs : List V) (v : Value) (us : List Value) (Q : VK), Inv X pins σ H s → RelV x v → Vals xs us → r x xs H Q →
    wpAny (model X.prog X.w) X.A (call (.builtin id) (v :: us)) (EP X pins σ Q) X.xe s
section
variable {X : Cx} {a b : Expr} {ta tb : TE} {pos : Pos}
/-- a[b] -/
theorem pe_ix {r : R2} (hr : IxR X r) (ha : PE X a ta) (hb : PE X b tb) (hs : PlainIx b) : PE X (.Subscript a b pos) (tOp r ta tb) := by
  intro pins s σ H Q I h
  exact Subscript_ (binT ha hb I h fun v u s2 x y H2 I2 rx ry q => hr a b pins s2 σ H2 x y v u Q I2 rx ry q (hs _ _))

def rIxL (K : PySem.W.Frag) : R2 := fun x y H Q => ∃ p xs i v, x = .ref p ∧ y = .int i ∧ SqL K H p xs ∧ atI xs i = some v ∧ Q v H
def rIxT (K : PySem.W.Frag) : R2 := fun x y H Q => ∃ p xs i v, x = .ref p ∧ y = .int i ∧ SqT K H p xs ∧ atI xs i = some v ∧ Q v H
theorem ix_list : IxR X (rIxL X.K) := by
  intro value slice pins s σ H x y v u Q I rx ry h hs
  obtain ⟨p, xs, i, z, rfl, rfl, hq, he, q⟩ := h
  cases rx
  obtain ⟨t, rfl⟩ := ry
  obtain ⟨its, r, pl, hz⟩ := I.list hq
  obtain ⟨j, h1, h2, h3, h4, h5⟩ := atI_get he
  obtain ⟨w, ew, rw'⟩ := r.get h2
  have hl := r.length
  have hn := line63
  have fin : EP X pins σ Q w s := ⟨z, H, I, rw', q⟩
  by_cases h0 : 0 ≤ i
  · have hj : i.toNat = j := by
      rw [seqIndex_of h0 h5] at h1
      exact Option.some.inj h1
    exact item_listR pl.isList h0 (by omega) (by rw [hj]; simpa using ew) fin hs
  · have hj : (i + (its.toArray.size : Int)).toNat = j := by
      rw [seqIndex_neg (by omega) h4] at h1
      rw [List.size_toArray, ← hl]
      exact Option.some.inj h1
    exact subscriptTail_builtinR (x := w) pl.isList.typeIs slot_list_getitem.lookup
      (wpAny_getItem_list_neg (Q := fun r s' => r = w ∧ EP X pins σ Q r s') pl.isList (by omega) (by rw [List.size_toArray] <;> omega) (by omega) (by rw [hj]; simpa using ew) ⟨rfl, fin⟩) hs
theorem ix_tup : IxR X (rIxT X.K) := by
  intro value slice pins s σ H x y v u Q I rx ry h hs
  obtain ⟨p, xs, i, z, rfl, rfl, hq, he, q⟩ := h
  cases rx
  obtain ⟨t, rfl⟩ := ry
  obtain ⟨its, r, pl, hz⟩ := I.tuple hq
  obtain ⟨j, h1, h2, h3, h4, h5⟩ := atI_get he
  obtain ⟨w, ew, rw'⟩ := r.get h2
  have hl := r.length
  have hn := line63
  have fin : EP X pins σ Q w s := ⟨z, H, I, rw', q⟩
  exact subscriptTail_builtinR (x := w) pl.typeIs slot_tuple_getitem.lookup
    (getItem_tuple (j := j) (Q := fun r s' => r = w ∧ EP X pins σ Q r s') pl (by omega) (by omega) (by rw [List.size_toArray, ← hl]; exact h1) (by simpa using ew) ⟨rfl, fin⟩) hs

/-! ### xs[i] = v, any sign -/

/-! ### slices -/
theorem slice_bounds (lo hi : Option Int) (n : Nat) : (sliceBounds lo hi none n).1 = ((HT.sIx n 0 lo : Nat) : Int) ∧ (sliceBounds lo hi none n).2.1 = ((HT.sIx n n hi : Nat) : Int) ∧ (sliceBounds lo hi none n).2.2 = 1 := by
  refine ⟨?_, ?_, rfl⟩
  · cases lo with
    | none => simp [sliceBounds, HT.sIx]
    | some i =>
      simp only [sliceBounds, HT.sIx, Option.getD_none, show (1 : Int) > 0 by decide, if_true]
      by_cases h : i < 0
      · simp only [h, if_true] <;> omega
      · simp only [h, if_false] <;> omega
  · cases hi with
    | none => simp [sliceBounds, HT.sIx]
    | some i =>
      simp only [sliceBounds, HT.sIx, Option.getD_none, show (1 : Int) > 0 by decide, if_true]
      by_cases h : i < 0
      · simp only [h, if_true] <;> omega
      · simp only [h, if_false] <;> omega
theorem slicePick_cut (its : List Value) (lo hi : Option Int) : slicePick its.toArray lo hi none = ((its.drop (HT.sIx its.length 0 lo)).take (HT.sIx its.length its.length hi - HT.sIx its.length 0 lo)).toArray := by
  obtain ⟨h1, h2, h3⟩ := slice_bounds lo hi its.toArray.size
  unfold slicePick
  rw [h1, h2, h3]
  simp only [sliceRange_one, pick_run, List.size_toArray] <;> rfl
/-- xs[lo:hi] of a list: a new list -/
def rSlL (K : PySem.W.Frag) : V → Option Int → Option Int → Hp → VK → Prop := fun x lo hi H Q => ∃ a xs, x = .ref a ∧ SqL K H a xs ∧ ∀ p, H p = none → Q (.ref p) (upd H p (.lst (cutV xs lo hi)))
theorem sl_list : SlR X (rSlL X.K) := by
  intro pins s σ H x v vl vu lo hi sl Q I rx hs pl pu h
  obtain ⟨a, xs, rfl, hx, q⟩ := h
  cases rx
  obtain ⟨its, r, ht, hz⟩ := I.list hx
  have hlen := r.length
  refine ⟨"list", _, slot_list_getitem.lookup, ht.isList.typeIs, ?_⟩
  refine wpAny_getItem_list_slice ht.isList hs pl pu .none (by simp) ?_ (by rw [List.size_toArray] <;> omega)
  rw [slicePick_cut, ← hlen]
  refine ⟨.ref s.heap.objs.size, _, I.laid (t' := s.toks) (o := .lst (cutV xs lo hi)) (fun b ob q => Heap.get?_push_of_some _ q) (Nat.le_refl _) ?_, rfl, q _ (I.hok.fresh (Nat.le_refl _))⟩
  exact ⟨Nat.le_trans (cutV_length xs lo hi) hz, _, 0, (r.drop (HT.sIx xs.length 0 lo)).take (HT.sIx xs.length xs.length hi - HT.sIx xs.length 0 lo), Heap.get?_push_size _ rfl⟩

/-! ### in, not in: flat items -/

/-! ### len, list(x), tuple(x) of any list or tuple that is read -/
theorem call_len_seq : CallR X (.builtin "len") (fun xs H Q => ∃ p ys, xs = [.ref p] ∧ (SqL X.K H p ys ∨ SqT X.K H p ys) ∧ Q (.int ys.length) H) := by
  intro pins s σ H xs us Q I r h
  obtain ⟨p, ys, rfl, hq, q⟩ := h
  obtain ⟨u, rfl, rx⟩ := vals1 r
  cases rx
  have hn := line63
  rcases hq with hq | hq
  · obtain ⟨its, r', pl, hz⟩ := I.list hq
    have hlen := r'.length
    exact Calls.call_len_list pl.isList (by simp only [List.size_toArray] <;> omega) ⟨.int ys.length, H, I.tok _, ⟨s.toks + 1, by rw [List.size_toArray, hlen]⟩, q⟩
  · obtain ⟨its, r', pl, hz⟩ := I.tuple hq
    have hlen := r'.length
    exact len_tuple pl (by simp only [List.size_toArray] <;> omega) ⟨.int ys.length, H, I.tok _, ⟨s.toks + 1, by rw [List.size_toArray, hlen]⟩, q⟩
theorem call_tuple_of : CallR X (.type "tuple") (fun xs H Q => ∃ p ys, xs = [.ref p] ∧ ((SqL X.K H p ys ∧ ∀ l, H l = none → Q (.ref l) (upd H l (.tup ys))) ∨ (SqT X.K H p ys ∧ Q (.ref p) H))) := by
  intro pins s σ H xs us Q I r h
  obtain ⟨p, ys, rfl, h⟩ := h
  obtain ⟨u, rfl, rx⟩ := vals1 r
  cases rx
  rcases h with ⟨hq, q⟩ | ⟨hq, q⟩
  · obtain ⟨its, r', pl, hz⟩ := I.list hq
    have hlen := r'.length
    refine call_tuple_list pl.isList (fun h' kp => ?_) (by simp only [List.size_toArray] <;> omega)
    have I1 : Inv X pins σ H { s with heap := h' } := I.kept (t' := s.toks) kp
    have I2 : Inv X pins σ (upd H h'.objs.size (.tup ys)) { s with heap := h'.push { cls := .type "tuple", data := .seq its.toArray } } :=
      I1.laid (t' := s.toks) (fun b o e => Heap.get?_push_of_some _ e) (Nat.le_refl _) (show ObjOk X.prog X.w _ _ _ (.tup ys) from ⟨hz, its, r', IsTup.new _ _⟩)
    exact ⟨.ref h'.objs.size, _, I2, rfl, q _ (I1.hok.fresh (Nat.le_refl _))⟩
  · obtain ⟨its, r', pl, hz⟩ := I.tuple hq
    exact call_tuple_same pl ⟨.ref p, H, I, rfl, q⟩

/-! ### the call of a builtin's method: o.m(..) -/
/-- the value is of that builtin type -/
def tyV (K : PySem.W.Frag) (T : String) (x : V) (H : Hp) : Prop := match x with
  | .str _ => T = "str"
  | .int _ => T = "int"
  | .ref p => (T = "list" ∧ ∃ xs, SqL K H p xs) ∨ (T = "tuple" ∧ ∃ o, K.lookup p = some o ∧ o.cls = .type "tuple" ∧ o.dict = none) ∨
      (T = "dict" ∧ ((∃ kvs, H p = some (.dK kvs)) ∨ ∃ kvs, H p = some (.dT kvs))) ∨ (T = "set" ∧ ∃ S n, H p = some (.set S n))
  | _ => False
theorem tyV_is {pins : List (Addr × Obj)} {σ : St} {H : Hp} {s : Shared} {T : String} {x : V} {v : Value} (I : Inv X pins σ H s) (r : RelV x v) (ty : tyV X.K T x H) :
    s.TypeIs v T ∧ ∀ a, v = .ref a → ∃ ob, s.heap.get? a = some ob ∧ ob.dict = none := by
  cases x with
  | str z =>
    obtain ⟨t, rfl⟩ := r
    cases (show T = "str" from ty)
    exact ⟨typeIs_str s z t, fun _ e => nomatch e⟩
  | int i =>
    obtain ⟨t, rfl⟩ := r
    cases (show T = "int" from ty)
    exact ⟨typeIs_int s i t, fun _ e => nomatch e⟩
  | ref p =>
    cases r
    rcases ty with ⟨rfl, xs, hq⟩ | ⟨rfl, o, hk, hc, hd⟩ | ⟨rfl, hk⟩ | ⟨rfl, S, n, hk⟩
    · obtain ⟨its, _, pl, _⟩ := I.list hq
      refine ⟨pl.isList.typeIs, fun a e => ?_⟩
      cases e
      obtain ⟨o, n, e, c, hd, _⟩ := pl
      exact ⟨o, e, hd⟩
    · refine ⟨⟨o, I.kIn p o hk, hc⟩, fun a e => ?_⟩
      cases e
      exact ⟨o, I.kIn _ o hk, hd⟩
    · have z : ∃ o, s.heap.get? p = some o ∧ o.ExactDict := by
        rcases hk with ⟨kvs, hk⟩ | ⟨kvs, hk⟩
        · obtain ⟨_, _, _, _, o, _, _, e, ex, _⟩ := I.hok p _ hk
          exact ⟨o, e, ex⟩
        · obtain ⟨_, _, _, _, o, _, _, e, ex, _⟩ := I.hok p _ hk
          exact ⟨o, e, ex⟩
      obtain ⟨o, e, ex⟩ := z
      refine ⟨⟨o, e, ex.1⟩, fun a e2 => ?_⟩
      cases e2
      exact ⟨o, e, ex.2.1⟩
    · obtain ⟨o, _, _, _, e, ex, _⟩ := I.hok p _ hk
      refine ⟨⟨o, e, ex.1⟩, fun a e2 => ?_⟩
      cases e2
      exact ⟨o, e, ex.2.1⟩
  | _ => exact False.elim ty
def tBM0 (K : PySem.W.Frag) (T : String) (r : V → List V → Hp → VK → Prop) (to : TE) : TE := fun σ H Q => to σ H fun x H1 => tyV K T x H1 ∧ r x [] H1 Q
def tBM (K : PySem.W.Frag) (T : String) (r : V → List V → Hp → VK → Prop) (to : TE) (t : TA) : TE := fun σ H Q => to σ H fun x H1 => tyV K T x H1 ∧ t σ H1 fun xs H2 => r x xs H2 Q
variable {o e : Expr} {es : List Expr} {to : TE} {t : TA} {name : Str} {apos cpos : Pos} {T id : String} {r : V → List V → Hp → VK → Prop}
theorem pe_bm0 (pa : PlainAttrs T) (slot : Slot T name id) (hty : typeOf (.builtin id) = pure (.type "method_descriptor")) (hm : MtR X id r) (ho : PE X o to)
    (hbase : attributeBase o name X.env (eval o X.env) = eval o X.env := by rfl) (hline : (apos.endLine == cpos.line) = true := by rfl) : PE X (.Call (.Attribute o name apos) [] [] cpos) (tBM0 X.K T r to) := by
  intro pins s σ H Q I h
  refine wpAny_Call_method0_late hbase hline (thn (ho pins s σ H _ I h) fun v s1 ⟨x, H1, I1, r1, ty, q1⟩ => ?_)
  obtain ⟨h1, h2⟩ := tyV_is I1 r1 ty
  exact ⟨T, id, pa, slot, hty, h1, h2, Calls.callWith_builtin rfl (PySem.evalArgs_none (hm pins s1 σ H1 x [] v [] Q I1 r1 .nil q1))⟩
theorem pe_bm (pa : PlainAttrs T) (slot : Slot T name id) (hty : typeOf (.builtin id) = pure (.type "method_descriptor")) (hm : MtR X id r) (ho : PE X o to) (ha : PA X (e :: es) t)
    (hbase : attributeBase o name X.env (eval o X.env) = eval o X.env := by rfl)
    (hfew : ((backTo cpos (starEach (e :: es) X.env)).all (fun x => !x.1) && (backToKw cpos (keywordEach [] X.env)).all (fun x => x.1.isSome)
      && decide ((e :: es).length + ([] : List Keyword).length + (if ([] : List Keyword).isEmpty then 0 else 1) < 30)) = true := by rfl)
    (hline : (apos.endLine == cpos.line) = true := by rfl) (hs : starEach (e :: es) X.env = (false, eval e X.env) :: starEach es X.env := by rfl) (hplain : (backTo cpos (starEach es X.env)).any (·.1) = false := by rfl) :
    PE X (.Call (.Attribute o name apos) (e :: es) [] cpos) (tBM X.K T r to t) := by
  intro pins s σ H Q I h
  refine wpAny_Call_method_late hbase hfew hline rfl (thn (ho pins s σ H _ I h) fun v s1 ⟨x, H1, I1, r1, ty, q1⟩ => ?_)
  obtain ⟨h1, h2⟩ := tyV_is I1 r1 ty
  refine ⟨T, id, pa, slot, hty, h1, h2, ?_⟩
  have hA := ha cpos pins s1 σ H1 _ I1 q1
  rw [hs] at hA ⊢
  refine Calls.callWith_builtin (by show (false || (backTo cpos (starEach es X.env)).any (·.1)) = false; rw [hplain] <;> rfl) (Calls.evalArgs_plain ?_)
  exact thn hA fun us s2 ⟨vs, H2, I2, r2, q2⟩ => hm pins s2 σ H2 x vs v us Q I2 r1 r2 q2
/- xs.append(e), list.index on a module's tuple .. are MtR facts of 06m -/
end
end L2

namespace L2
open PySem PySem.Spec PyProof.Rows

def MtM (X : Cx) (id : String) (r : V → List V → Hp → VK → Prop) : Prop :=
  ∀ (pins : List (Addr × Obj)) (s : Shared) (σ : St) (H : Hp) (x : V) (xs : List V) (v : Value) (us : List Value) (Q : VK), Inv X pins σ H s → RelV x v → Vals xs us → r x xs H Q →
    wpAny (model X.prog X.w) X.A (call (.builtin id) (v :: us)) (EP X pins σ Q) X.xe s

/-! ### lists of values -/
theorem Vals.one : ∀ {x : V} {us : List Value}, Vals [x] us → ∃ u, us = [u] ∧ RelV x u
  | _, _, .cons r .nil => ⟨_, rfl, r⟩
theorem Vals.zero : ∀ {us : List Value}, Vals [] us → us = []
  | _, .nil => rfl
theorem Vals.rep {xs : List V} {us : List Value} (h : Vals xs us) : ∀ k : Nat, Vals (List.replicate k xs).flatten (List.replicate k us).flatten
  | 0 => .nil
  | k + 1 => by
    rw [List.replicate_succ, List.replicate_succ, List.flatten_cons, List.flatten_cons]
    exact Vals.append h (Vals.rep h k)
theorem foldl_rep (its : List Value) : ∀ (k : Nat) (acc : List Value),
    List.foldl (fun x1 x2 => x1 ++ x2) acc.toArray (List.replicate k its.toArray) = (acc ++ (List.replicate k its).flatten).toArray
  | 0, acc => by simp
  | k + 1, acc => by
    have e : acc.toArray ++ its.toArray = (acc ++ its).toArray := by simp
    have e2 : (acc ++ its) ++ (List.replicate k its).flatten = acc ++ (List.replicate (k + 1) its).flatten := by
      rw [List.replicate_succ, List.flatten_cons, List.append_assoc]
    rw [← e2, ← foldl_rep its k (acc ++ its), ← e, List.replicate_succ, List.foldl_cons]

section
variable {X : Cx} {pins : List (Addr × Obj)} {σ : St} {H : Hp} {s : Shared} {l b : Addr} {xs ys zs : List V}

/-! ### the two steps: a tracked list is rewritten, a new list is laid -/
theorem Inv.lset {its its' : List Value} {n : Nat} {f : Array Value → Array Value} {t' : Nat} (I : Inv X pins σ H s) (hH : H l = some (.lst xs))
    (e : s.heap.get? l = some { cls := .type "list", data := .seq its.toArray n }) (hf : f its.toArray = its'.toArray) (hv : Vals ys its') (hz : ys.length ≤ sizeLine) :
    Inv X pins σ (upd H l (.lst ys)) { s with heap := s.heap.update l (Obj.mapSeq f), toks := t' } := by
  have q := PySem.IsL.update e f
  rw [hf] at q
  refine I.write (x := l) (e := l) (by rw [hH]; exact trivial) (.inl rfl) (fun b' u hb hu => (Heap.get?_update_other s.heap (Obj.mapSeq f) (Ne.symm hb)).trans hu) ⟨_, q⟩ ?_
  exact ⟨hz, its', _, hv, q⟩
theorem Inv.lnew {its : List Value} {t' : Nat} (I : Inv X pins σ H s) (hv : Vals ys its) (hz : ys.length ≤ sizeLine) :
    Inv X pins σ (upd H s.heap.objs.size (.lst ys)) { s with heap := s.heap.push { cls := .type "list", data := .seq its.toArray }, toks := t' } :=
  I.laid (fun _ _ q => Heap.get?_push_of_some _ q) (Nat.le_refl _) ⟨hz, its, 0, hv, Heap.get?_push_size _ rfl⟩
theorem Inv.fresh (I : Inv X pins σ H s) : H s.heap.objs.size = none := I.hok.fresh (Nat.le_refl _)
theorem Inv.lstM (I : Inv X pins σ H s) (hH : H l = some (.lst xs)) : xs.length ≤ sizeLine ∧ ∃ (its : List Value) (n : Nat), Vals xs its ∧ xs.length = its.length ∧ s.heap.get? l = some { cls := .type "list", data := .seq its.toArray n } := by
  obtain ⟨z, its, n, r, e⟩ := I.hok l _ hH
  exact ⟨z, its, n, r, r.length, e⟩

theorem notLongL {n : Nat} (h : n ≤ sizeLine) : Builtin.List.listTooLong n = false := by
  unfold Builtin.List.listTooLong
  exact decide_eq_false (by omega)
end

section
variable {X : Cx}

/-! ### methods -/
def rAppend : V → List V → Hp → VK → Prop := fun x vs H Q => ∃ l xs y, x = .ref l ∧ vs = [y] ∧ H l = some (.lst xs) ∧ xs.length < sizeLine ∧ Q .non (upd H l (.lst (xs ++ [y])))
theorem mt_append : MtM X "list.append" rAppend := by
  intro pins s σ H x vs v us Q I rx rv h
  obtain ⟨l, xs, y, rfl, rfl, hH, hz, q⟩ := h
  cases rx
  obtain ⟨u, rfl, ru⟩ := rv.one
  obtain ⟨z, its, n, r, hl, e⟩ := I.lstM hH
  refine call_meets F.slot_list_append ⟨_, e, rfl⟩ F.entry_list_append (F.args_list_append_2 _ _) (PySem.list_append l its.toArray n u (by rw [List.size_toArray]; omega)) ⟨e, ?_⟩
  refine ⟨.non, _, I.lset (its' := its ++ [u]) hH e (by simp) (r.append (.cons ru .nil)) ?_, rfl, q⟩
  rw [List.length_append, List.length_singleton]
  omega





def rClear : V → List V → Hp → VK → Prop := fun x vs H Q => ∃ l xs, x = .ref l ∧ vs = [] ∧ H l = some (.lst xs) ∧ Q .non (upd H l (.lst []))
theorem mt_clear : MtM X "list.clear" rClear := by
  intro pins s σ H x vs v us Q I rx rv h
  obtain ⟨l, xs, rfl, rfl, hH, q⟩ := h
  cases rx
  have hus := rv.zero
  subst hus
  obtain ⟨z, its, n, r, hl, e⟩ := I.lstM hH
  refine call_meets F.slot_list_clear ⟨_, e, rfl⟩ F.entry_list_clear (F.args_list_clear_1 _) (AutoSeq1.list_clear_list_0 l its.toArray n (by rw [List.size_toArray]; omega)) ⟨e, ?_⟩
  exact ⟨.non, _, I.lset (its' := []) (ys := []) hH e rfl .nil (Nat.zero_le _), rfl, q⟩

/-! ### list + list, list += list, list * int -/
def rCat : R2 := fun x y H Q => ∃ l b xs zs, x = .ref l ∧ y = .ref b ∧ H l = some (.lst xs) ∧ H b = some (.lst zs) ∧ xs.length + zs.length ≤ sizeLine ∧ ∀ p, H p = none → Q (.ref p) (upd H p (.lst (xs ++ zs)))
theorem op_cat : OpR X (binaryOp .Add) rCat := by
  intro pins s σ H x y v u Q I rx ry h
  obtain ⟨l, b, xs, zs, rfl, rfl, hH, hB, hz, q⟩ := h
  cases rx
  cases ry
  obtain ⟨z, its, n, r, hl, e⟩ := I.lstM hH
  obtain ⟨z2, its2, n2, r2, hl2, e2⟩ := I.lstM hB
  refine PySem.P.add_list e e2 ?_ (by rw [List.size_toArray, List.size_toArray]; omega)
  have ea : its.toArray ++ its2.toArray = (its ++ its2).toArray := by simp
  rw [ea]
  exact ⟨.ref _, _, I.lnew (t' := s.toks) (r.append r2) (by rw [List.length_append]; omega), rfl, q _ I.fresh⟩
/-- a list times an int (a negative one is nothing) -/
def rRep : R2 := fun x y H Q => ∃ l k xs, x = .ref l ∧ y = .int k ∧ H l = some (.lst xs) ∧ -(2 ^ 63) ≤ k ∧ k < 2 ^ 63 ∧ xs.length * k.toNat ≤ sizeLine ∧
  ∀ p, H p = none → Q (.ref p) (upd H p (.lst (List.replicate k.toNat xs).flatten))
theorem len_rep {α : Type} (xs : List α) (k : Nat) : (List.replicate k xs).flatten.length = k * xs.length := by
  induction k with
  | zero => simp
  | succ k ih => rw [List.replicate_succ, List.flatten_cons, List.length_append, ih, Nat.succ_mul, Nat.add_comm]
theorem op_rep : OpR X (binaryOp .Mult) rRep := by
  intro pins s σ H x y v u Q I rx ry h
  obtain ⟨l, k, xs, rfl, rfl, hH, h1, h2, hz, q⟩ := h
  cases rx
  obtain ⟨t, rfl⟩ := ry
  obtain ⟨z, its, n, r, hl, e⟩ := I.lstM hH
  have hlen : its.toArray.size * k.toNat ≤ sizeLine := by rw [List.size_toArray, ← hl]; exact hz
  have hcap : ¬ its.toArray.size * k.toNat > (2 ^ 63 - 1) / 8 := by
    have : (sizeLine : Nat) ≤ (2 ^ 63 - 1) / 8 := by decide
    omega
  have hfit : ¬ (!Builtin.List.listFitsIndex k) = true := by
    rw [fitsIndex_both h1 h2]
    exact Bool.false_ne_true
  have hlong : ¬ Builtin.List.listTooLong (its.toArray.size * k.toNat) = true := by
    rw [notLongL hlen]
    exact Bool.false_ne_true
  have hnew : List.foldl (fun x1 x2 => x1 ++ x2) #[] (List.replicate (if its.toArray.isEmpty = true then 0 else k.toNat) its.toArray) = (List.replicate k.toNat its).flatten.toArray := by
    have f0 : ∀ m : Nat, List.foldl (fun x1 x2 => x1 ++ x2) #[] (List.replicate m its.toArray) = (List.replicate m its).flatten.toArray := fun m => by
      have := foldl_rep its m []
      rw [List.nil_append] at this
      exact this
    rw [f0]
    cases its with
    | nil => simp
    | cons a r' => rw [if_neg (by simp)]
  refine wpAny_binaryOp_repeat_ref (T := "list") (U := "int") (by decide) ⟨_, e, rfl⟩ (fun s' => typeIs_int s' k t) noFill_list_mul F.fills_int_mul F.slot_int_rmul repeat_list F.slot_int_index.lookup
    (call_meets F.slot_int_rmul (typeIs_int s k t) F.entry_int_rmul (F.args_int_rmul_2 _ _) (int___rmul___int_list k t l its.toArray n)
      ⟨e, rfl, ⟨_, e, rfl⟩, call_meets F.slot_list_mul ⟨_, e, rfl⟩ F.entry_list_mul (F.args_list_mul_2 _ _) (AutoListH.list___mul___list_int_3 l its.toArray n k t hfit hcap hlong) ⟨e, ?_⟩⟩)
  rw [hnew]
  exact ⟨.ref _, _, I.lnew (t' := s.toks) (r.rep k.toNat) (by rw [len_rep, Nat.mul_comm]; exact hz), rfl, q _ I.fresh⟩

/-! ### del xs[i] -/
end

/-! ### xs[a:b] = ys -/
section
variable {prog : Program} {w : World} {A : Around} {E : Value → Shared → Prop} {s : Shared}
end

section
variable {X : Cx}
end
end L2

namespace Att
open PySem PySem.W PySem.Calls PyProof.Rows

/-! ### the script -/
theorem ints_of_wellAll {P : Params} {h : Heap} : ∀ (ns : List Int) (vs : List Value), WellAll P h vs (ns.map WData.int) → IntsAre vs ns := by
  intro ns
  induction ns with
  | nil =>
    intro vs w
    rw [List.map_nil] at w
    cases w
    exact .nil
  | cons n ns ih =>
    intro vs w
    rw [List.map_cons] at w
    cases w with
    | cons a b =>
      cases a
      exact .cons _ _ (ih _ b)

theorem script_of {l : OpenLaw} {n : Nat} (hn : l.most = some n) {P : Params} {h : Heap} {args : List WData} {vals : List Value}
    (hpre : l.row.toRowW.claim.pre args = true) (hwl : WellAll P h vals args) :
    ∃ a vs ns, vals = [Value.ref a] ∧ args = [WData.list (ns.map WData.int)] ∧ h.get? a = some { cls := .type "list", data := .seq vs.toArray } ∧ IntsAre vs ns ∧ ns.length ≤ n := by
  have hsh : WShape.hasAll [] args [.list .int] = true := (pre_splitW hpre).1
  have hc : l.pre.holds [] { args := args } = true := (pre_splitW hpre).2
  obtain ⟨d, r, rfl, h1, h2⟩ := hasAllW_cons hsh
  obtain rfl := hasAllW_nil h2
  obtain ⟨xs, rfl, h3⟩ := hasW_list h1
  obtain ⟨ns, rfl⟩ := items_int h3
  have hlen : ns.length ≤ n := by
    unfold OpenLaw.pre at hc
    have h4 : (WTm.not (.lt (.lit (.int (n : Int))) (.len (.arg 0)))).holds [] { args := [.list (ns.map .int)] } = true := by
      have h4 := (holds_andW hc).1
      rw [hn] at h4
      exact h4
    have h5 := condW_of h4 (w_not (w_lt w_lit (w_len_list (w_arg rfl))))
    rw [List.length_map] at h5
    refine Nat.le_of_not_lt fun q => ?_
    have q' : (n : Int) < ((ns.length : Nat) : Int) := by omega
    first
      | (rw [decide_eq_true q'] at h5; exact absurd h5 (by decide))
      | (simp at h5; omega)
  cases hwl with
  | cons w1 w2 =>
    cases w2
    cases w1 with
    | list ho hall => exact ⟨_, _, ns, rfl, rfl, ho, ints_of_wellAll ns _ hall, hlen⟩

theorem post_true (l : OpenLaw) (args : List WData) : l.row.toRowW.claim.post args (.bool true) args = true :=
  postW_of (r := l.row.toRowW) (X := (true == true))
    (show WShape.has [] (.bool true) .bool = true by first | rfl | decide | simp [WShape.has, WShape.arms, WShape.armsAll])
    (show (WTm.eq .res (.lit (.bool true))).value [] { args := args, res := some (.bool true), after := args } = some (.bool (true == true)) from w_eq_bool (w_res rfl) w_lit) rfl

/-! ### the attachment: holds_open's last premise (the goal 'hc' behind k_head) from a wpAny of the law's body -/

/-- the same from a codeAny of the CALL (for a layer whose function contracts speak of calls) -/
theorem attach_call {l : OpenLaw} {n : Nat} {q : Program} {loose : List Str} {XP : (Str → Option Value) → Heap → Prop} {YP : World → Heap → Prop} {d : DefRec}
    (hn : l.most = some n) (hdf : d.params.defaults = [])
    (call : ∀ (w : World) (s₀ s₁ : Shared) (mg mb : Str → Option Value) (fa : Addr) (o : Obj) (pm cd doc : Value) (a : Addr) (vs : List Value) (ns : List Int),
      Ground q loose [] XP w s₀ mg mb s₁.heap → YP w s₁.heap →
      s₁.heap.get? fa = some o → o.data = .func (docDef d.name d.params d.body d.scope pm cd doc) → s₁.heap.CodeRec cd d.name → mg d.name = some (.ref fa) →
      s₁.heap.get? a = some { cls := .type "list", data := .seq vs.toArray } → IntsAre vs ns → ns.length ≤ n → s₁.gens = #[] →
      codeAny (model l.prog w) callerA (.call (.ref fa) ⟨[.ref a], []⟩) (fun r s' => r = .ok (.ret (.bool true)) ∧ OldK s₁.heap s'.heap ∧ s'.os = s₁.os ∧ AllBare s'.gens) s₁) :
    WalkO q loose XP YP l.row.toRowW d [] (fun f vs => PySem.call f vs) := by
  intro w s₀ s₁ mg mb G Y fa o pm cd doc dV kV ho hd hcd hD hmg hg args vals as hpre hlay hrd hwl hlo
  obtain rfl : dV = .none := Dflts.none hD hdf
  obtain rfl : kV = .none := Dflts.noKw hD
  obtain ⟨a, vs, ns, rfl, rfl, hobj, hints, hlen⟩ := script_of hn hpre hwl
  refine enter_call (codeAny_mono (call w s₀ s₁ mg mb fa o pm cd doc a vs ns G Y ho (fd_plain hd) hcd hmg hobj hints hlen hg) fun r s' hq => ?_)
  obtain ⟨rfl, h2, h3, h4⟩ := hq
  exact ⟨.inl ⟨.bool true, .bool true, [], rfl, fun _ => rfl, .bool true, post_true l _, fun _ => ⟨List.Pairwise.nil, fun _ hm => (nomatch hm)⟩⟩, h2, h3, h4⟩


/-! ### rules over ANY heap (no ledger) from facts about the written part K: the library's own take a ledger (News) for what they write -/
section
variable {prog : Program} {w : World} {A : Around} {E : Value → Shared → Prop} {s : Shared} {K : Frag}





/-! the whole heap as the ledger: makes every rule that writes through a ledger a rule over any heap -/

end
end Att

namespace L2
open PySem PySem.Spec PyProof.Rows

theorem vals_ints : ∀ {vs : List Value} {ns : List Int}, IntsAre vs ns → Vals (ns.map V.int) vs
  | _, _, .nil => .nil
  | _, _, .cons n t h => .cons ⟨t, rfl⟩ (vals_ints h)

/-- nothing is tracked but the script, known to the object (or it is an object of the module) -/
def Only (H : Hp) : Prop := ∀ b, H b = none ∨ ∃ o xs, H b = some (.frz o (.lst xs))

/-- THE HEAD: the law's promise, at the heap behind the top. F, the promise of the law's def, may use that base is part of the heap (so K.In base, base.Ns mainGlobals mg stand in Mod) -/
theorem law_call {P : Program} {w : World} {K : PySem.W.Frag} {mg mb : Str → Option Value} {CX : CXT} {k : Nat} {fa a : Addr} {fd : FuncData} {x : Str} {sp : Sp} {s₁ : Shared} {vs : List Value} {ns : List Int}
    (KX : K.In s₁.heap) (hns : s₁.heap.Ns mainGlobals mg) (hb : s₁.heap.Ns builtinsNs mb) (hbb : ∀ x : Str, x ≠ "__name__" → mb x = bootBuiltins x) (hlim : s₁.heap.NoLimit) (hg : s₁.gens = #[])
    (ha : s₁.heap.get? a = some { cls := .type "list", data := .seq vs.toArray }) (hi : IntsAre vs ns) (hl : ns.length ≤ sizeLine) (hr : Room k callerA)
    (F : ∀ base : Heap, K.In base → base.Ns mainGlobals mg → FnOk P w K mg base CX k fa fd [x] sp) (hbind : ∀ (s : Shared) (u : Value), BindsTo s fd ⟨[u], []⟩ [(x, u)])
    (hsp : ∀ H : Hp, Only H → SqL K H a (ns.map V.int) → sp [.ref a] H (fun v _ => v = .bl true) fun _ _ _ => False)
    (hCX : ∀ H e s', CX [] H s₁ (fun _ _ _ => False) e s' → False) :
    codeAny (model P w) callerA (.call (.ref fa) ⟨[.ref a], []⟩) (fun r s' => r = .ok (.ret (.bool true)) ∧ OldK s₁.heap s'.heap ∧ s'.os = s₁.os ∧ AllBare s'.gens) s₁ := by
  have rv := vals_ints hi
  have lenV := hi.length
  -- from an abstract heap in which nothing but the script may be tracked
  have core : ∀ H : Hp, Only H → SqL K H a (ns.map V.int) → HOk P w H s₁.heap → (∀ b, H b ≠ none → b = a) → (H a ≠ none → K.lookup a = none) →
      codeAny (model P w) callerA (.call (.ref fa) ⟨[.ref a], []⟩) (fun r s' => r = .ok (.ret (.bool true)) ∧ OldK s₁.heap s'.heap ∧ s'.os = s₁.os ∧ AllBare s'.gens) s₁ := by
    intro H hO hS hok hA hK
    have base_of : ∀ {b : Addr} {o : Obj}, s₁.heap.get? b = some o → H b = none → (hidT s₁.heap H).get? b = some o := fun e n => hidT_get e n
    have noA : ∀ {b : Addr} {o : Obj} {es : Array DictEntry} {ep : Nat}, s₁.heap.get? b = some o → o.data = .dict es ep → H b = none := fun {b o es ep} e d => by
      cases q : H b with
      | none => rfl
      | some u =>
        have e' : b = a := hA b (by rw [q]; simp)
        subst e'
        rw [ha] at e; cases e
        have d' : Data.seq vs.toArray _ = Data.dict es ep := d
        cases d'
    have nsK : ∀ {b : Addr} {m : Str → Option Value}, s₁.heap.Ns b m → (hidT s₁.heap H).Ns b m := fun {b m} ⟨o, es, ep, e, d, r⟩ => ⟨o, es, ep, base_of e (noA e d), d, r⟩
    have hKb : K.In (hidT s₁.heap H) := fun b o e => base_of (KX b o e) (by
      cases q : H b with
      | none => rfl
      | some u =>
        have e' : b = a := hA b (by rw [q]; simp)
        subst e'
        rw [hK (by rw [q]; simp)] at e; cases e)
    have hM : Mod K mg (hidT s₁.heap H) := ⟨hKb, nsK hns, ⟨mb, nsK hb, hbb⟩, let ⟨mc, h1, h2⟩ := hlim; ⟨mc, nsK h1, h2⟩⟩
    have e0 : Env0 P w K mg (hidT s₁.heap H) callerA [] s₁ H := ⟨rfl, hM, fun b o e => of_hidT e, Nat.le_of_eq (hidT_size _ _), trivial, fun b hb => absurd (show b ∈ ([] : List Addr) from hb) (by simp), hok, .of_eq hg⟩
    refine codeAny_mono ((F _ hKb (nsK hns)).run callerA [] s₁ H ⟨[.ref a], []⟩ [.ref a] [.ref a] _ _ hr e0 (hbind s₁ (.ref a)) (.cons rfl .nil) (hsp H hO hS)) fun r s' h => ?_
    cases r with
    | error e => exact (hCX H e s' h).elim
    | ok fl =>
      cases fl with
      | next => exact False.elim h
      | brk => exact False.elim h
      | cont => exact False.elim h
      | ret u =>
        obtain ⟨v, H', os, bare, un, hok', r', q⟩ := h
        have q' : v = .bl true := q
        subst q'
        obtain rfl : u = Value.bool true := r'
        refine ⟨rfl, OldK.of_keep fun b o e => ?_, os, bare⟩
        cases q : H b with
        | none => exact un.keep b o e q (by intro z; exact absurd (show b ∈ ([] : List Addr) from z) (by simp)) (by simp)
        | some u =>
          rcases hO b with z | ⟨ob, xs, z⟩
          · rw [q] at z; cases z
          · have z2 := un.frzs b ob _ z
            obtain ⟨e1, _⟩ := hok b _ z
            obtain ⟨e2, _⟩ := hok' b _ z2
            rw [e] at e1; cases e1
            exact e2
  cases hk : K.lookup a with
  | some o =>
    -- the script is one of the module's own objects
    have e := KX a o hk
    rw [ha] at e
    cases e
    refine core (fun _ => none) (fun _ => .inl rfl) (.inr ⟨_, vs.toArray, _, hk, rfl, rfl, rfl, by rw [List.size_toArray, lenV]; exact hl, by simpa using rv⟩) (fun b u z => by have z' : (none : Option HO) = some u := z; cases z') (fun b z => absurd rfl z) fun z => absurd rfl z
  | none =>
    refine core (fun b => if b = a then some (.frz { cls := .type "list", data := .seq vs.toArray } (.lst (ns.map V.int))) else none) (fun b => ?_) (.inl (.inr ⟨{ cls := .type "list", data := .seq vs.toArray }, if_pos rfl⟩)) (fun b u z => ?_) (fun b z => ?_) fun _ => hk
    · by_cases hb : b = a
      · exact .inr ⟨_, _, if_pos hb⟩
      · exact .inl (if_neg hb)
    · by_cases hb : b = a
      · have z' := (if_pos hb).symm.trans z
        cases z'
        subst hb
        exact ⟨ha, by rw [List.length_map]; exact hl, vs, _, rv, ha⟩
      · have z' := (if_neg hb).symm.trans z
        cases z'
    · by_cases hb : b = a
      · exact hb
      · exact absurd (if_neg hb) z
end L2

namespace L2
open PySem PySem.Spec PyProof.Rows


/-- the goal that k_head leaves (case hc), from the law's promise. F gives the function object fd (K's own) once, then the promise over every base -/
theorem walk_of {l : PySem.W.OpenLaw} {n k : Nat} {q : Program} {loose : List Str} {XP : (Str → Option Value) → Heap → Prop} {YP : World → Heap → Prop} {d : DefRec} {K : Params → PySem.W.Frag} {CX : World → CXT} {sp : World → Sp} {x : Str}
    (hn : l.most = some n) (hn2 : n ≤ sizeLine) (hdf : d.params.defaults = []) (hr : Room k callerA)
    (hY : ∀ (w : World) (h : Heap), YP w h → (K w.params).In h)
    (F : ∀ (w : World) (mg : Str → Option Value) (fa : Addr) (h : Heap), (K w.params).In h → h.Ns mainGlobals mg → mg d.name = some (.ref fa) →
      ∃ fd : FuncData, (∀ (s : Shared) (u : Value), BindsTo s fd ⟨[u], []⟩ [(x, u)]) ∧
        ∀ base : Heap, (K w.params).In base → base.Ns mainGlobals mg → FnOk l.prog w (K w.params) mg base (CX w) k fa fd [x] (sp w))
    (hsp : ∀ (w : World) (H : Hp) (a : Addr) (ns : List Int), ns.length ≤ n → Only H → SqL (K w.params) H a (ns.map V.int) → sp w [.ref a] H (fun v _ => v = .bl true) fun _ _ _ => False)
    (hCX : ∀ (w : World) (H : Hp) (s : Shared) (e : Value) (s' : Shared), CX w [] H s (fun _ _ _ => False) e s' → False) :
    PySem.W.WalkO q loose XP YP l.row.toRowW d [] (fun f vs => PySem.call f vs) := by
  refine Att.attach_call hn hdf fun w s₀ s₁ mg mb fa o pm cd doc a vs ns G Y ho hd hcd hmg hobj hints hlen hg => ?_
  have KX := hY w _ Y
  obtain ⟨fd, hb, hF⟩ := F w mg fa _ KX G.T.g hmg
  exact law_call KX G.T.g G.T.b G.T.builtins G.T.nolimit hg hobj hints (Nat.le_trans hlen hn2) hr hF hb (fun H hO hS => hsp w H a ns hlen hO hS) fun H e s' => hCX w H s₁ e s'
end L2

/- THE LAST THEOREM (shape; LID, My.* are yours):
   My.Adr: a structure of the addresses that your layer names (classes, functions); My.Txt K t: a structure (Prop) of the equations over K;
   My.txt_mk : {K} {implicit addresses ..} (e1 : nsIn K mainGlobals "law" = some (some (.ref f))) (e2 : K.lookup f = some ⟨oc, od, .func (fnOf "law" "law" params body scope dV kV doc pm an cdv ct), sl⟩) (e3 : codeIn K cdv "law" = true) .. : ∃ t, My.Txt K t

set_option maxRecDepth 100000 in
set_option maxHeartbeats 0 in
theorem PySem.Challenge.cw_LID_holds : PySem.Challenge.rw_LID.Holds := by
  w_on; o_law; k_head; (case hw => w_witness2)
  k_fill
  refine L2.walk_of (l := PySem.Challenge.rw_LID) (n := 63) (k := 40) (x := "script") (CX := fun w => ..) (sp := fun _ => My.sp_law) rfl (by decide) rfl ⟨rfl, by decide, by decide⟩ (fun w h Y => PySem.W.kIn_of Y) ?F ?S ?C
  case F =>
    intro w mg fa h KX G hmg
    have T : ∃ t, My.Txt (L2.KOf KX) t := by
      dsimp only [L2.KOf]                          -- K must stand as «<heap const> w.params» for k_is
      refine' My.txt_mk ?e1 ?e2 ?e3 ..
      (case e1 => PySem.W.k_is)                    -- in the order: a name -> its address -> its object -> its parts
      (case e2 => PySem.W.k_is)
      ..
    obtain ⟨t, T⟩ := T
    have e0 := hmg.symm.trans (PySem.W.mg_of KX G T.law)
    cases e0                                       -- fa is the law's own address
    exact ⟨_, fun s u => .of_eq rfl, fun base kb nb => My.law_fn T kb nb⟩     -- if «.of_eq rfl» comes too early: refine' ⟨_, ?b, fun base kb nb => My.law_fn T kb nb⟩; exact fun s u => .of_eq rfl
  case S => exact fun w H a ns hl hO hS => ..
  case C => exact ..
(the tactic k_is has no namespace: write k_is) -/

/-! SHORT WORDS over the layer: a def of the text, its body, what a loop and a test want. -/
namespace L2
open PySem PySem.Spec PyProof.Rows

/-! ### the text by places -/
def defArgs (s : Stmt) : Arguments := match s with
  | .FunctionDef _ a _ _ _ _ _ _ _ _ => a
  | _ => { posonlyargs := [], args := [], vararg := none, kwonlyargs := [], kw_defaults := [], kwarg := none, defaults := [] }
def defBody (s : Stmt) : List Stmt := match s with
  | .FunctionDef _ _ b _ _ _ _ _ _ _ => b
  | _ => []
def defScope (s : Stmt) : Scope := match s with
  | .FunctionDef _ _ _ _ _ _ sc _ _ _ => sc
  | _ => { kind := .function, names := [], isGenerator := false, isCoroutine := false }

/-! ### no exception leaves a def -/
abbrev CX0 : CXT := fun _ _ _ _ _ _ => False
abbrev E0 : XK := fun _ _ _ => False
theorem pass0 {X : Cx} : Passes CX0 X E0 := fun _ _ _ _ _ _ _ h => h.elim

/-! ### a def (or method) of the text as it stands behind the top -/
structure Fun (K : PySem.W.Frag) (x qual : Str) (st : Stmt) (f : Addr) (fd : FuncData) : Prop where
  ex : ∃ (oc : Value) (od : Option Addr) (kV doc pm : Value) (an : Option Addr) (cdv ct : Value) (osl : Array (Option Value)),
    fd = PySem.W.fnOf x qual (defArgs st) (defBody st) (defScope st) .none kV doc pm an cdv ct ∧ K.lookup f = some ⟨oc, od, .func fd, osl⟩ ∧ PySem.W.codeIn K cdv qual = true
  kp : PySem.W.keepIn K (.ref f) = true
section
variable {P : Program} {w : World} {K : PySem.W.Frag} {mg : Str → Option Value} {base : Heap}
/-- THE RULE for a def: its body as a term of rules, and the reading of that term -/
theorem Fun.ok {x qual : Str} {st : Stmt} {f : Addr} {fd : FuncData} {N ps : List Str} {k : Nat} {sp : Sp} (F : Fun K x qual st f fd) (S : FnScope N ps (defScope st)) (len : ∀ vs H Q E, sp vs H Q E → vs.length = ps.length)
    (hbody : ∀ (cdv : Value) (A : Around) (outer : List Env) (s : Shared) (H : Hp) (vs : List V) (Q : VK) (E : XK), Room k (A.deeper (envOfC qual (defScope st) s.heap.objs.size f cdv)) → sp vs H Q E →
      ∃ t, PSs (cxOf CX0 P w K mg base N qual (defScope st) f cdv A outer s H E).nox (defBody st) t ∧ t { nx := fun _ H' => Q .non H', rt := Q } (start N vs) H) : FnOk P w K mg base CX0 (k + 1) f fd ps sp := by
  obtain ⟨oc, od, kV, doc, pm, an, cdv, ct, osl, rfl, lk, hcd⟩ := F.ex
  refine fn_of lk hcd S len fun A outer s H vs Q E hr hsp => ?_
  obtain ⟨t, h, q⟩ := hbody cdv A outer s H vs Q E hr hsp
  exact ⟨t, h.nox, q⟩
/-- how its arguments bind (no defaults): h is «fun _ _ _ _ _ _ us hl => match us, hl with | [_, _], _ => rfl», one _ a parameter -/
theorem Fun.binds {x qual : Str} {st : Stmt} {f : Addr} {fd : FuncData} {ps : List Str} (F : Fun K x qual st f fd)
    (h : ∀ (kV doc pm : Value) (an : Option Addr) (cdv ct : Value) (us : List Value), us.length = ps.length → bindArgs (PySem.W.fnOf x qual (defArgs st) (defBody st) (defScope st) .none kV doc pm an cdv ct) ⟨us, []⟩ = pure (ps.zip us)) : Binds K fd ps [] := by
  obtain ⟨oc, od, kV, doc, pm, an, cdv, ct, osl, rfl, lk, hcd⟩ := F.ex
  exact .all (h kV doc pm an cdv ct)
theorem fun_mk {x qual : Str} {st : Stmt} {f : Addr} {oc : Value} {od an : Option Addr} {osl : Array (Option Value)} {kV doc pm cdv ct : Value} (l : K.lookup f = some ⟨oc, od, .func (PySem.W.fnOf x qual (defArgs st) (defBody st) (defScope st) .none kV doc pm an cdv ct), osl⟩)
    (c : PySem.W.codeIn K cdv qual = true) (k : PySem.W.keepIn K (.ref f) = true) : Fun K x qual st f (PySem.W.fnOf x qual (defArgs st) (defBody st) (defScope st) .none kV doc pm an cdv ct) := ⟨⟨oc, od, kV, doc, pm, an, cdv, ct, osl, rfl, l, c⟩, k⟩
end
theorem small1000 {n : Nat} (h : n ≤ 1000) : n < sizeLine := Nat.lt_of_le_of_lt h (by decide)

/-! ### expressions in short: the name that stands in the i-th slot -/
section
variable {X : Cx}
theorem pv (i : Nat) {x : Str} {pos : Pos} (hN : X.N[i]? = some x := by rfl) (hv : Vis X.env.scope x := by first | exact Or.inl rfl | exact Or.inr (Or.inl rfl) | exact Or.inr (Or.inr rfl)) (hd : (x == ("__debug__" : Str)) = false := by decide)
    (hcd : (x == ("__classdict__" : Str)) = false := by decide) : PE X (.Name x pos) (tVar i) := pe_var hN hv hd hcd
end

/-! ### tests -/
theorem iteF {A B : Prop} (h : B) : if false = true then A else B := by
  rw [if_neg Bool.false_ne_true]
  exact h
theorem iteT {A B : Prop} (h : A) : if true = true then A else B := by
  rw [if_pos rfl]
  exact h

/-! ### heaps -/
/-- all that was tracked is as it was -/
def Same (H H' : Hp) : Prop := ∀ b o, H b = some o → H' b = some o
theorem Same.trans {H H1 H2 : Hp} (a : Same H H1) (b : Same H1 H2) : Same H H2 := fun c o h => b c o (a c o h)
theorem Same.seq {K : PySem.W.Frag} {H H' : Hp} {a : Addr} {xs : List V} (e : Same H H') (h : SqL K H a xs) : SqL K H' a xs := by
  rcases h with (h | ⟨o, h⟩) | h
  · exact .inl (.inl (e _ _ h))
  · exact .inl (.inr ⟨o, e _ _ h⟩)
  · exact .inr h

end L2
namespace BF
open PySem PySem.Spec PyProof.Rows L2

/-! Own rules over the hand layer: a reading may be narrowed; kinds of values; isinstance; is True, is not False; written powers of ten. -/
theorem pe_imp {X : Cx} {e : Expr} {t t' : TE} (h : PE X e t) (k : ∀ σ H Q, t' σ H Q → t σ H Q) : PE X e t' :=
  fun pins s σ H Q I hw => h pins s σ H Q I (k σ H Q hw)

inductive Kn where
  | non | bl | int | str | lst | tup | dic
def Kn.nm : Kn → String
  | .non => "NoneType" | .bl => "bool" | .int => "int" | .str => "str" | .lst => "list" | .tup => "tuple" | .dic => "dict"
/-- the kind of a value, as it stands in the heap -/
inductive Knd (H : Hp) : V → Kn → Prop where
  | non : Knd H .non .non
  | bl (b : Bool) : Knd H (.bl b) .bl
  | int (i : Int) : Knd H (.int i) .int
  | str (x : Str) : Knd H (.str x) .str
  | lst {a : Addr} {xs : List V} (e : H a = some (.lst xs)) : Knd H (.ref a) .lst
  | tup {a : Addr} {xs : List V} (e : H a = some (.tup xs)) : Knd H (.ref a) .tup
  | dic {a : Addr} {kvs : List (Key × V)} (e : H a = some (.dK kvs)) : Knd H (.ref a) .dic
theorem Knd.ty {K : PySem.W.Frag} {H : Hp} {v : V} {k : Kn} (h : Knd H v k) : TyOf K H v (.type k.nm) := by
  cases h with
  | non => exact .non
  | bl b => exact .bl b
  | int i => exact .int i
  | str x => exact .str x
  | lst e => exact .lst e
  | tup e => exact .tup e
  | dic e => exact .dK e
def isaK : Kn → Kn → Bool
  | .non, .non => true
  | .bl, .bl => true
  | .bl, .int => true
  | .int, .int => true
  | .str, .str => true
  | .lst, .lst => true
  | .tup, .tup => true
  | .dic, .dic => true
  | _, _ => false
theorem kit_of (K : PySem.W.Frag) (k c : Kn) : PySem.W.kitOne K (.type k.nm) (.type c.nm) = some (isaK k c) := by
  cases k <;> cases c <;> kernel_rfl
theorem call_isi {X : Cx} : CallR X (.builtin "isinstance") (fun xs H Q => ∃ x k c, xs = [x, .ty (Kn.nm c)] ∧ Knd H x k ∧ Q (.bl (isaK k c)) H) := by
  intro pins s σ H xs us Q I r h
  obtain ⟨x, k, c, rfl, kd, q⟩ := h
  obtain ⟨u, w', rfl, r1, r2⟩ := vals2 r
  have e : w' = Value.type (Kn.nm c) := r2
  subst e
  exact isinst_ok I r1 kd.ty (kit_of X.K k c) fun tk => ⟨.bl (isaK k c), H, I.tok tk, rfl, q⟩
theorem pe_p9 {X : Cx} {j1 j2 : Nat} {p1 p2 pos : Pos} : PE X (.BinOp (.Constant (.int 10) j1 p1) .Pow (.Constant (.int 9) j2 p2) pos) (tC (.int 1000000000)) :=
  pe_imp (pe_op op_pow pe_int pe_int) fun σ H Q q => ⟨10, 9, rfl, rfl, ⟨by decide, by decide, by decide⟩, by
    have e : ((10 : Int) ^ (9 : Int).toNat) = 1000000000 := by decide
    show Q (V.int _) H
    rw [e]; exact q⟩

/-! tests over ints -/
theorem ifI_pos {i j : Int} {A B : Prop} (h : i = j) (a : A) : if decide (V.int i = V.int j) = true then A else B := by
  rw [if_pos (by rw [h]; exact decide_eq_true rfl)]; exact a
theorem ifI_neg {i j : Int} {A B : Prop} (h : i ≠ j) (b : B) : if decide (V.int i = V.int j) = true then A else B := by
  rw [if_neg (by intro z; have z' := of_decide_eq_true z; injection z' with z'; exact h z')]; exact b
theorem ifD_pos {p : Prop} [Decidable p] {A B : Prop} (h : p) (a : A) : if decide p = true then A else B := by
  rw [if_pos (decide_eq_true h)]; exact a
theorem ifD_neg {p : Prop} [Decidable p] {A B : Prop} (h : ¬ p) (b : B) : if decide p = true then A else B := by
  rw [if_neg (by intro z; exact h (of_decide_eq_true z))]; exact b
theorem ifB_neg {c : Bool} {A B : Prop} (h : c = false) (b : B) : if c = true then A else B := by
  rw [if_neg (by rw [h]; exact Bool.false_ne_true)]; exact b

/-! heaps -/
theorem same_upd {H : Hp} {p : Addr} {o : HO} (h : H p = none) : Same H (upd H p o) := fun b u e => by
  rw [upd_ne (ne_of_none e h)]; exact e
theorem sz {n : Nat} (h : n ≤ 1000) : n ≤ sizeLine := Nat.le_of_lt (small1000 h)
theorem szr {n : Nat} (h : Nat.ble n 1000 = true) : n ≤ sizeLine := sz (Nat.le_of_ble_eq_true h)
theorem cut_mem {xs : List V} {lo hi : Option Int} {x : V} (h : x ∈ cutV xs lo hi) : x ∈ xs := by
  unfold cutV at h
  exact List.mem_of_mem_drop (List.mem_of_mem_take h)

/-! holes and lines, as the program tells them -/

/-- a def of the text, and the name under which it stands -/
structure Df (K : PySem.W.Frag) (mg : Str → Option Value) (x : Str) (st : Stmt) (f : Addr) (fd : FuncData) : Prop where
  F : Fun K x x st f fd
  m : mg x = some (.ref f)
theorem df_mk {K : PySem.W.Frag} {mg : Str → Option Value} {h : Heap} (X : K.In h) (G : h.Ns mainGlobals mg) {x : Str} {st : Stmt} {f : Addr} {oc : Value} {od an : Option Addr} {osl : Array (Option Value)} {kV doc pm cdv ct : Value}
    (a : PySem.W.nsIn K mainGlobals x = some (some (.ref f))) (l : K.lookup f = some ⟨oc, od, .func (PySem.W.fnOf x x (defArgs st) (defBody st) (defScope st) .none kV doc pm an cdv ct), osl⟩)
    (c : PySem.W.codeIn K cdv x = true) (k : PySem.W.keepIn K (.ref f) = true) : Df K mg x st f (PySem.W.fnOf x x (defArgs st) (defBody st) (defScope st) .none kV doc pm an cdv ct) :=
  ⟨fun_mk l c k, PySem.W.mg_of X G a⟩
end BF
namespace BF
open PySem PySem.Spec PyProof.Rows L2

/-! A list comprehension with one walk and at most one test, its names read from the def round it through cells. -/
/-- the cells that a comprehension's block takes along -/
def clOf (env : Env) : List (Str × NameKind) → List (Str × Addr) → List (Str × Addr)
  | [], acc => acc
  | (n, k) :: r, acc => if (k == NameKind.free) = true then (match env.cells.lookup n with | some a => clOf env r ((n, a) :: acc) | none => clOf env r acc) else clOf env r acc
theorem clOf_sub (env : Env) : ∀ (l : List (Str × NameKind)) (acc : List (Str × Addr)), (∀ p ∈ acc, env.cells.lookup p.1 = some p.2) → ∀ p ∈ clOf env l acc, env.cells.lookup p.1 = some p.2
  | [], _, h => h
  | (n, k) :: r, acc, h => by
    unfold clOf
    split
    · split
      · rename_i a e
        refine clOf_sub env r _ fun p hp => ?_
        rcases List.mem_cons.mp hp with rfl | hp
        · exact e
        · exact h p hp
      · exact clOf_sub env r acc h
    · exact clOf_sub env r acc h
theorem clOf_acc (env : Env) : ∀ (l : List (Str × NameKind)) (acc : List (Str × Addr)) (x : Str), (∃ c, acc.lookup x = some c) → ∃ c, (clOf env l acc).lookup x = some c
  | [], _, _, h => h
  | (n, k) :: r, acc, x, h => by
    unfold clOf
    split
    · split
      · rename_i a e
        refine clOf_acc env r _ x ?_
        rw [List.lookup_cons]
        cases q : x == n with
        | true => exact ⟨a, rfl⟩
        | false => exact h
      · exact clOf_acc env r acc x h
    · exact clOf_acc env r acc x h
theorem clOf_has (env : Env) : ∀ (l : List (Str × NameKind)) (acc : List (Str × Addr)) (x : Str), l.lookup x = some NameKind.free → (∃ c, env.cells.lookup x = some c) → ∃ c, (clOf env l acc).lookup x = some c
  | [], _, _, h, _ => by simp at h
  | (n, k) :: r, acc, x, h, hc => by
    rw [List.lookup_cons] at h
    cases q : x == n with
    | true =>
      rw [q] at h
      have ek : k = NameKind.free := Option.some.inj h
      have en : x = n := eq_of_beq q
      subst ek en
      obtain ⟨c, e⟩ := hc
      unfold clOf
      rw [if_pos (by decide : (NameKind.free == NameKind.free) = true), e]
      refine clOf_acc env r _ x ⟨c, ?_⟩
      rw [List.lookup_cons, q]
    | false =>
      rw [q] at h
      unfold clOf
      split
      · split
        · exact clOf_has env r _ x h hc
        · exact clOf_has env r _ x h hc
      · exact clOf_has env r _ x h hc
def lab (env : Env) (p : Str × NameKind) : Str × NameKind := if (p.2 == NameKind.free && env.scope.kind == .function && env.kindOf p.1 == some .cell) then (p.1, NameKind.cell) else (p.1, p.2)
theorem lab_eq (env : Env) (n : Str) (k : NameKind) : lab env (n, k) = (n, if (k == NameKind.free && env.scope.kind == .function && env.kindOf n == some .cell) then NameKind.cell else k) := by
  unfold lab
  split <;> rfl
theorem relabel_names (scope : Scope) (env : Env) : (relabel scope env).names = scope.names.map (lab env) := rfl
theorem relabel_lookup (env : Env) : ∀ (l : List (Str × NameKind)) (x : Str),
    (l.map (lab env)).lookup x = (l.lookup x).map fun k => if (k == NameKind.free && env.scope.kind == .function && env.kindOf x == some .cell) then NameKind.cell else k
  | [], _ => rfl
  | (n, k) :: r, x => by
    have ih := relabel_lookup env r x
    rw [List.map_cons, lab_eq, List.lookup_cons, List.lookup_cons]
    cases q : x == n with
    | true =>
      have en : x = n := eq_of_beq q
      subst en
      rfl
    | false => exact ih

/-- the context of a comprehension's block: the def's, its own frame and cells; no exception leaves it -/
def compCx (X : Cx) (N' : List Str) (scope : Scope) (C : Addr) (s₀ : Shared) (H₀ : Hp) (fp : List Addr) (pn : List (Addr × Obj)) : Cx where
  prog := X.prog
  w := X.w
  K := X.K
  mg := X.mg
  base := X.base
  A := X.A
  N := N'
  s₀ := s₀
  H₀ := H₀
  env := compEnvC scope (clOf X.env scope.names []) C X.env
  outer := X.stack
  stack := X.stack
  ex := fp
  fn := fun _ => false
  calm := X.calm
  pn := pn
  xe := fun _ _ => False

/-- the block's slots at its begin: for each of its names the def's slot, or none -/
def pick (idx : List (Option Nat)) (σ : L2.St) : L2.St := idx.map fun o => match o with | none => none | some i => (σ[i]?).getD none

structure CompOk (X : Cx) (scope : Scope) (N' : List Str) (idx : List (Option Nat)) : Prop where
  kind : scope.kind = .function
  cell : ∀ y ∈ scope.names, y.2 ≠ .cell
  names : ∀ y ∈ scope.names, y.2 = .local → scope.names.lookup y.1 = some .local
  free : ∀ y ∈ scope.names, y.2 = .free → X.env.kindOf y.1 = some .cell
  len : idx.length = N'.length
  idx : ∀ p ∈ idx.zip N', ∀ i, p.1 = some i → X.N[i]? = some p.2 ∧ X.env.kindOf p.2 = some .cell ∧ scope.names.lookup p.2 = some .free

/-- what a comprehension's scope must be, decided: the def's scope and slots, its own -/
def compB (osc scope : Scope) (ON N' : List Str) (idx : List (Option Nat)) : Bool :=
  (scope.kind == .function) && scope.names.all (fun y => y.2 != .cell) && scope.names.all (fun y => y.2 != .local || scope.names.lookup y.1 == some .local) &&
    scope.names.all (fun y => y.2 != .free || osc.names.lookup y.1 == some .cell) && (idx.length == N'.length) &&
    (idx.zip N').all fun p => match p.1 with | none => true | some i => (ON[i]? == some p.2) && (osc.names.lookup p.2 == some .cell) && (scope.names.lookup p.2 == some .free)
theorem compOk_of {X : Cx} {scope : Scope} {N' : List Str} {idx : List (Option Nat)} (h : compB X.env.scope scope X.N N' idx = true) : CompOk X scope N' idx := by
  unfold compB at h
  simp only [Bool.and_eq_true, List.all_eq_true] at h
  obtain ⟨⟨⟨⟨⟨h1, h2⟩, h3⟩, h4⟩, h5⟩, h6⟩ := h
  refine ⟨by simpa using h1, fun y hy => by simpa using h2 y hy, fun y hy e => ?_, fun y hy e => ?_, by simpa using h5, fun p hp i e => ?_⟩
  · have := h3 y hy
    rw [e] at this
    simpa using this
  · have := h4 y hy
    rw [e] at this
    show X.env.scope.names.lookup y.1 = some .cell
    simpa using this
  · have := h6 p hp
    rw [e] at this
    simp only [Bool.and_eq_true] at this
    obtain ⟨⟨g1, g2⟩, g3⟩ := this
    exact ⟨by simpa using g1, by show X.env.scope.names.lookup p.2 = some .cell; simpa using g2, by simpa using g3⟩

def CompW (J : It) (idx : List (Option Nat)) (g : TG) (tt : TT) (te : TE) (σ : L2.St) (H1 : Hp) (D : Addr) (Q : VK) : Prop :=
  ∃ W : Nat → Nat → L2.St → Hp → Prop, (∃ m, W 0 m (pick idx σ) (upd H1 D (.lst []))) ∧ ∀ i m σ2 H2, W i m σ2 H2 →
    (J.stop i H2 ∧ Q (.ref D) H2) ∨
    (J.go i H2 ∧ ∀ x H3, J.yld i H2 x H3 → g x σ2 H3 fun σ4 H4 => tt σ4 H4 fun b H5 =>
      if b = true then te σ4 H5 fun v H6 => ∃ ys, H6 D = some (.lst ys) ∧ ys.length < sizeLine ∧ ∃ m', m' < m ∧ W (i + 1) m' σ4 (upd H6 D (.lst (ys ++ [v])))
      else ∃ m', m' < m ∧ W (i + 1) m' σ4 H5)
def tComp (wi : TI) (idx : List (Option Nat)) (g : TG) (tt : TT) (te : TE) : TE := fun σ H Q => wi σ H fun J H1 => ∀ D, H1 D = none → CompW J idx g tt te σ H1 D Q

/-- the block's tests -/
def PTs (X : Cx) (ifs : List Expr) (t : TT) : Prop :=
  ∀ (pins : List (Addr × Obj)) (s : Shared) (σ : L2.St) (H : Hp) (Q : Bool → Hp → Prop), Inv X pins σ H s → t σ H Q →
    wpAny (model X.prog X.w) X.A (forIn ifs true fun c r => if r = true then do let ok ← isTrue c X.env (eval c X.env); pure (ForInStep.yield ok) else pure (ForInStep.yield r)) (TP X pins σ Q) X.xe s
def tYes : TT := fun _ H Q => Q true H
theorem pts_nil {X : Cx} : PTs X [] tYes := fun pins s σ H Q I h => wpAny_tests_nil ⟨H, I, h⟩

theorem comp_loop {prog : Program} {w : World} {A : Around} {elt target iter : Expr} {ifs : List Expr} {scope : Scope} {pos : Pos} {it acc : Value} {env : Env} {R : Result → Shared → Prop} {s : Shared} (I : Nat → Shared → Prop)
    (turn : ∀ n s, I n s → wpAny (model prog w) A (pyNext it) (fun r s₁ => match r with
      | none => R (.ok .next) s₁
      | some v => wpAny (model prog w) A (letOwnedTupleGo target it v) (fun _ s₀ => wpAny (model prog w) A (assign target env v) (fun _ s₂ =>
          wpAny (model prog w) A (forIn ifs true fun c r => if r = true then do let ok ← isTrue c env (eval c env); pure (ForInStep.yield ok) else pure (ForInStep.yield r)) (fun ok s₃ =>
            if ok = true then wpAny (model prog w) A (eval elt env) (fun x s₄ =>
              wpAny (model prog w) A (call (.builtin "list.append") [acc, x]) (fun _ s₅ => ∃ m, m < n ∧ I m s₅) (fun _ _ => False) s₄) (fun _ _ => False) s₃
            else ∃ m, m < n ∧ I m s₃) (fun _ _ => False) s₂) (fun _ _ => False) s₀) (fun _ _ => False) s₁) (fun _ _ => False) s)
    (n : Nat) (h : I n s) : codeAny (model prog w) A (.compLoop (.ListComp elt [⟨target, iter, ifs, 0⟩] scope pos) 0 it acc env) R s := by
  refine codeAny_loop rfl I (fun n s hI => ?_) n h
  show wpAny _ A ((compTurn (.ListComp elt [⟨target, iter, ifs, 0⟩] scope pos) 0 it acc env).onRaise (fun x => do noteFrame x env; theTreesLotGoes x)) _ _ s
  refine wpAny_noted (wpAny_mono (E := fun _ _ => False) ?_ (fun _ _ q => q) fun _ _ z => z.elim)
  rw [compTurn_list]
  refine wpAny_bind (wpAny_standAt (wpAny_bind (wpAny_mono (turn n s hI) (fun r s₁ h₁ => ?_) fun _ _ h' => h')))
  cases r with
  | none => exact wpAny_pure h₁
  | some v =>
    refine wpAny_bind (wpAny_mono h₁ (fun _ s₀ h₀' => ?_) fun _ _ h' => h')
    refine wpAny_bind (wpAny_mono h₀' (fun _ s₂ h₂ => ?_) fun _ _ h' => h')
    refine wpAny_bind (wpAny_mono h₂ (fun ok s₃ h₃ => ?_) fun _ _ h' => h')
    cases ok with
    | false => exact wpAny_pure ⟨rfl, h₃⟩
    | true =>
      exact wpAny_bind (wpAny_bind (wpAny_mono h₃ (fun x s₄ h₄ => wpAny_bind (wpAny_mono h₄ (fun _ s₅ h₅ => wpAny_pure (wpAny_pure ⟨rfl, h₅⟩)) fun _ _ h' => h')) fun _ _ h' => h'))

section
variable {X : Cx} {elt tg iter : Expr} {ifs : List Expr} {scope : Scope} {pos : Pos} {N' : List Str} {idx : List (Option Nat)} {wi : TI} {g : TG} {tt : TT} {te : TE}

/-- the block's context stands -/
theorem comp_ok {pins : List (Addr × Obj)} {σ : L2.St} {H : Hp} {s : Shared} {C : Addr} {fp : List Addr} (S : CompOk X scope N' idx) (I : Inv X pins σ H s) (hC : s.heap.objs.size ≤ C) (hf : ∀ b ∈ fp, FpOk X pins H b) (hlt : ∀ b ∈ fp, b < s.heap.objs.size) (pn : List (Addr × Obj)) :
    (compCx X N' scope C s H fp pn).Ok := by
  have sub : ∀ x c, (clOf X.env scope.names []).lookup x = some c → X.env.cells.lookup x = some c := fun x c e => clOf_sub X.env scope.names [] (fun p hp => (nomatch hp)) (x, c) (PySem.mem_of_lookup e)
  have cne : ∀ x c, (clOf X.env scope.names []).lookup x = some c → c < s.heap.objs.size := fun x c e => by
    obtain ⟨v, q⟩ := I.cell x c (sub x c e)
    exact q.lt
  refine ⟨I.ok.mod, S.kind, I.ok.glob, I.ok.blt, hC, fun x y c h1 h2 => I.ok.inj x y c (sub _ _ h1) (sub _ _ h2), fun x hx => ?_, fun x c h _ => absurd h Bool.false_ne_true, I.ok.hd, I.ok.frames, .inl rfl, fun b hb => ⟨?_, fun x c e z => ?_⟩, I.bs, Nat.le_trans I.ok.bsz I.sz, fun b o e hb => ?_, fun b hb z => ?_, I.stack, I.stkFree⟩
  · have hx' : ((relabel scope X.env).names.lookup x = some .cell) ∨ ((relabel scope X.env).names.lookup x = some .free) := hx
    rw [relabel_names, relabel_lookup] at hx'
    have hfr : scope.names.lookup x = some .free := by
      cases q : scope.names.lookup x with
      | none => rw [q] at hx'; rcases hx' with z | z <;> cases z
      | some k =>
        rw [q] at hx'
        simp only [Option.map_some, Option.some.injEq] at hx'
        cases k with
        | free => rfl
        | cell => exact absurd rfl (S.cell _ (PySem.mem_of_lookup q))
        | _ => exfalso; rcases hx' with z | z <;> simp at z
    exact clOf_has X.env scope.names [] x hfr (I.ok.has x (.inl (S.free _ (PySem.mem_of_lookup hfr) rfl)))
  · exact Nat.ne_of_lt (Nat.lt_of_lt_of_le (hlt b hb) hC)
  · exact (hf b hb).2.2.2.2.1 x c (sub x c e) z
  · rcases (hf b hb).2.2.2.1 with z | z
    · exact I.ok.noex b o e z
    · exact absurd (Nat.lt_of_lt_of_le (Heap.lt_size (I.ok.bs b o e).1) z) (Nat.lt_irrefl _)
  · rcases List.mem_cons.mp (I.stkSub b z) with e | e
    · exact (hf b hb).2.1 e
    · exact (hf b hb).2.2.1 e

theorem pe_comp (S : CompOk X scope N' idx) (hclos : closureFor scope X.env = pure (clOf X.env scope.names [])) (hc : X.calm = true) (hi : PI X tg iter wi)
    (hg : ∀ C s₀ H₀ fp pn, PG (compCx X N' scope C s₀ H₀ fp pn) tg g) (ht : ∀ C s₀ H₀ fp pn, PTs (compCx X N' scope C s₀ H₀ fp pn) ifs tt) (he : ∀ C s₀ H₀ fp pn, PE (compCx X N' scope C s₀ H₀ fp pn) elt te)
    (hs : ∀ x, foldedSetIterable iter X.env x = pure x := by intro _; rfl) : PE X (.ListComp elt [⟨tg, iter, ifs, 0⟩] scope pos) (tComp wi idx g tt te) := by
  intro pins s σ H Q I h
  rw [eval_ListComp]
  refine wpAny_comprehension_free (use := none) rfl hs hclos S.kind S.names (thn (hi pins s σ H _ I h) fun xv s₁ h₁ => thn h₁ fun itv s₂ h₂ => ?_)
  obtain ⟨it, fp, tn, J, H2, e, I2, T, st2, f2, hJ⟩ := h₂
  subst e
  obtain ⟨W, ⟨m0, w0⟩, turn⟩ := hJ s₂.heap.objs.size (I2.hok.fresh (Nat.le_refl _))
  have hlt : ∀ b ∈ fp, b < s₂.heap.objs.size := fun b hb => by
    obtain ⟨o, e, _⟩ := T.obj _ _ st2 b hb
    exact Heap.lt_size e
  refine wpAny_newObj_type (wpAny_newFunctionEnv S.cell (by intro y hy; simp at hy) (fun h₁ hns₁ hsb₁ => ?_) S.kind)
  dsimp only at hns₁ hsb₁ ⊢
  generalize hH2 : s₂.heap.push { cls := .type "list", dict := none, data := .seq ([] : List Value).toArray } = P2 at hns₁ hsb₁ ⊢
  have hC : P2.objs.size = s₂.heap.objs.size + 1 := by rw [← hH2, Heap.size_push]
  have neC : ∀ b : Addr, b < s₂.heap.objs.size → b ≠ P2.objs.size := fun b hb => Nat.ne_of_lt (by rw [hC]; exact Nat.lt_succ_of_lt hb)
  have neD : s₂.heap.objs.size ≠ P2.objs.size := Nat.ne_of_lt (by rw [hC]; exact Nat.lt_succ_self _)
  have old : ∀ b o, s₂.heap.get? b = some o → h₁.get? b = some o := fun b o e =>
    hsb₁.extBut b o (neC b (Heap.lt_size e)) (Heap.get?_push_of_some _ (hH2 ▸ Heap.get?_push_of_some _ e))
  have hacc : h₁.get? s₂.heap.objs.size = some { cls := .type "list", data := .seq ([] : List Value).toArray } :=
    hsb₁.extBut _ _ neD (Heap.get?_push_of_some _ (hH2 ▸ Heap.get?_push_size _ rfl))
  have nD : H2 s₂.heap.objs.size = none := I2.hok.fresh (Nat.le_refl _)
  have nC : H2 P2.objs.size = none := I2.hok.fresh (by omega)
  have ok := comp_ok (C := P2.objs.size) S I2 (by omega) f2 hlt (X.pn ++ pins)
  have pinlt : ∀ p ∈ X.pn ++ pins, p.1 < s₂.heap.objs.size := fun p hp => Heap.lt_size (I2.pin p hp).1
  have sub : ∀ x c, (clOf X.env scope.names []).lookup x = some c → X.env.cells.lookup x = some c := fun x c e => clOf_sub X.env scope.names [] (fun p hp => (nomatch hp)) (x, c) (PySem.mem_of_lookup e)
  have I3 : Inv (compCx X N' scope P2.objs.size s₂ H2 fp (X.pn ++ pins)) [] (pick idx σ) (upd H2 s₂.heap.objs.size (.lst [])) { s₂ with heap := h₁, toks := s₂.toks + ([] : List (Str × Value)).length } := by
    refine ⟨ok, rfl, I2.bare, ?_, ⟨_, hns₁, fun j x v h1 h2 h3 => ?_⟩, fun x c e => ?_, ?_, fun x c e => ?_, fun p hp => ?_, ?_, ?_⟩
    · exact Un.laid old (Nat.le_refl _) nD
    · have hj : j < idx.length := by
        have := (List.getElem?_eq_some_iff.mp h2).1
        unfold pick at this
        rwa [List.length_map] at this
      unfold pick at h2
      rw [List.getElem?_map, List.getElem?_eq_getElem hj] at h2
      have h2' := Option.some.inj h2
      cases q : idx[j] with
      | none => rw [q] at h2'; cases h2'
      | some i =>
        have h2' : (σ[i]?).getD none = some v := by rw [q] at h2'; exact h2'
        have hmem : (idx[j], x) ∈ idx.zip N' := by
          refine List.mem_iff_getElem?.mpr ⟨j, ?_⟩
          rw [List.getElem?_zip_eq_some]
          exact ⟨List.getElem?_eq_getElem hj, h1⟩
        obtain ⟨z1, z2, z3⟩ := S.idx _ hmem i q
        have hσ : σ[i]? = some (some v) := by
          cases r : σ[i]? with
          | none => rw [r] at h2'; cases h2'
          | some y => rw [r] at h2'; rw [show y = some v from h2']
        obtain ⟨m, hn, hl⟩ := I2.loc
        obtain ⟨u, ru, lk⟩ := hl i x v z1 hσ (.inr (.inl z2))
        refine ⟨u, ru, .inr ⟨.inl ?_, ?_⟩⟩
        · show (relabel scope X.env).names.lookup x = some .cell
          rw [relabel_names, relabel_lookup, z3, I2.ok.kind]
          simp [z2]
        · obtain ⟨c, hcl⟩ := clOf_has X.env scope.names [] x z3 (I2.ok.has x (.inl z2))
          rcases lk with ⟨k1, _⟩ | ⟨_, c', e1, e2⟩
          · rw [z2] at k1; cases k1
          · refine ⟨c, hcl, ?_⟩
            have e3 := sub x c hcl
            rw [e1] at e3
            cases e3
            obtain ⟨o, ho, hd⟩ := e2
            exact ⟨o, old _ _ ho, hd⟩
    · obtain ⟨v, o, ho, hd⟩ := I2.cell x c (sub x c e)
      exact ⟨v, o, old _ _ ho, hd⟩
    · show upd H2 _ _ P2.objs.size = none
      rw [upd_ne (Ne.symm neD)]; exact nC
    · obtain ⟨v, q⟩ := I2.cell x c (sub x c e)
      rw [upd_ne (Nat.ne_of_lt q.lt)]
      exact I2.freeC x c (sub x c e)
    · rw [List.append_nil] at hp
      obtain ⟨e, n, ne, nf, d⟩ := I2.pin p hp
      refine ⟨old _ _ e, ?_, ?_, fun z => ?_, d⟩
      · rw [upd_ne (Nat.ne_of_lt (pinlt p hp))]; exact n
      · exact neC _ (pinlt p hp)
      · rcases List.mem_cons.mp (I2.stkSub _ z) with z | z
        · exact ne z
        · exact nf z
    · exact I2.hok.laid old (Nat.le_refl _) ⟨Nat.zero_le _, [], 0, .nil, hacc⟩
    · show (pick idx σ).length = N'.length
      unfold pick
      rw [List.length_map]
      exact S.len
  have stat : ∀ {pl : List (Addr × Obj)} {H' : Hp}, (∀ b ∈ fp, H' b = none) → (∀ p ∈ pl, p.1 ∉ fp) → ∀ b ∈ fp, FpOk (compCx X N' scope P2.objs.size s₂ H2 fp (X.pn ++ pins)) pl H' b := fun {pl H'} hn hp b hb => by
    refine ⟨hn b hb, (ok.exf b hb).1, ok.exfs b hb, .inl hb, (ok.exf b hb).2, fun p hpp z => ?_⟩
    rcases List.mem_append.mp hpp with h1 | h1
    · exact (f2 b hb).2.2.2.2.2 p h1 z
    · exact hp p h1 (z ▸ hb)
  have loop : codeAny (model X.prog X.w) X.A (.compLoop (.ListComp elt [⟨tg, iter, ifs, 0⟩] scope pos) 0 (.ref it) (.ref s₂.heap.objs.size) (compEnvC scope (clOf X.env scope.names []) P2.objs.size X.env))
      (compPost (model X.prog X.w) X.A X.xe none (EP X pins σ Q) (.ref s₂.heap.objs.size) P2.objs.size) { s₂ with heap := h₁, toks := s₂.toks + ([] : List (Str × Value)).length } := by
    refine comp_loop (fun n s' => ∃ i σ' H', Inv (compCx X N' scope P2.objs.size s₂ H2 fp (X.pn ++ pins)) [] σ' H' s' ∧ tn i s'.heap ∧ (∀ b ∈ fp, H' b = none) ∧ W i n σ' H') ?_ m0
      ⟨0, _, _, I3, T.keep _ _ _ st2 fun b _ o e => old b o e, fun b hb => by rw [upd_ne (Nat.ne_of_lt (hlt b hb))]; exact (f2 b hb).1, w0⟩
    rintro n s3 ⟨i, σ3, H3, J3, st3, fr3, w3⟩
    rcases turn i n σ3 H3 w3 with ⟨stop, q⟩ | ⟨go, step⟩
    · refine wpAny_mono (T.done (compCx X N' scope P2.objs.size s₂ H2 fp (X.pn ++ pins)) rfl rfl rfl hc i [] s3 σ3 H3 (fun _ _ => False) J3 (stat fr3 (fun _ z => nomatch z)) st3 stop) (fun r s4 hr => ?_) fun _ _ z => z
      obtain ⟨rfl, J4⟩ := hr
      obtain ⟨m, hn, _⟩ := J4.loc
      refine ⟨m, hn, fun h' hs' => ?_⟩
      have fC : H3 P2.objs.size = none := J4.free
      have up : ∀ b o, b ≠ P2.objs.size → s4.heap.get? b = some o → h'.get? b = some o := fun b o hb e => hs'.extBut b o hb e
      have un : Un (frs X.stack) fp H2 H3 s₂.heap h' := by
        have u := J4.base
        refine ⟨fun b o e n1 h1 h2 => ?_, fun b o e n1 h1 h2 => ?_, u.free, fun b o e h2 => ?_, u.tups, u.frzs, u.tbls⟩
        · exact up b o (neC b (Heap.lt_size e)) (u.keep b o e n1 h1 h2)
        · obtain ⟨sl, e1⟩ := u.slot b o e n1 h1 h2
          exact ⟨sl, up b _ (neC b (Heap.lt_size e)) e1⟩
        · obtain ⟨o', e1⟩ := u.there b o e h2
          exact ⟨o', up b _ (neC b (Heap.lt_size e)) e1⟩
      have hok : HOk X.prog X.w H3 h' := fun b o e => (J4.hok b o e).stay (fun c v hcc e1 => up c v (fun z => by
        subst z
        rcases hcc with z | z
        · subst z; rw [fC] at e; cases e
        · rw [fC] at z; cases z) e1) (fun _ z => z) fun _ _ z => z
      refine ⟨.ref s₂.heap.objs.size, H3, ?_, rfl, q⟩
      refine I2.call' (s' := { s4 with heap := h' }) (ch := fp) ?_ un hok J4.bare fun b hb => ?_
      · exact J4.os
      · obtain ⟨f0, f1, f2', f3, f4, f5⟩ := f2 b hb
        exact ⟨f3, f1, f4, f5⟩
    · refine wpAny_mono (T.item (compCx X N' scope P2.objs.size s₂ H2 fp (X.pn ++ pins)) rfl rfl rfl hc i [] s3 σ3 H3 (fun _ _ => False) J3 (stat fr3 (fun _ z => nomatch z)) st3 go) (fun r s4 hr => ?_) fun _ _ z => z
      obtain ⟨u, rfl, h4⟩ := hr
      refine wpAny_mono h4 (fun _ s5 h5 => ?_) fun _ _ z => z
      obtain ⟨x, H5, J5, r5, y5, st5, fr5⟩ := h5
      have J5' := J5.pinned (stat fr5 (fun _ z => nomatch z)) (T.obj _ _ st5)
      refine wpAny_mono (hg _ _ _ _ _ _ s5 σ3 H5 x u _ J5' r5 (step x H5 y5)) (fun _ s6 h6 => ?_) fun _ _ z => z
      obtain ⟨σ6, H6, J6, q6⟩ := h6
      have again : ∀ {s9 : Shared} {σ9 : L2.St} {H9 : Hp}, Inv (compCx X N' scope P2.objs.size s₂ H2 fp (X.pn ++ pins)) ([] ++ pinsAt fp s5.heap) σ9 H9 s9 → (∃ m', m' < n ∧ W (i + 1) m' σ9 H9) →
          ∃ m, m < n ∧ ∃ i σ' H', Inv (compCx X N' scope P2.objs.size s₂ H2 fp (X.pn ++ pins)) [] σ' H' s9 ∧ tn i s9.heap ∧ (∀ b ∈ fp, H' b = none) ∧ W i m σ' H' := fun {s9 σ9 H9} J9 hw => by
        obtain ⟨m', hm, w9⟩ := hw
        refine ⟨m', hm, i + 1, σ9, H9, J9.unpinned, T.keep _ _ _ st5 fun b hb o e => (J9.pin (b, o) (List.mem_append_right _ (List.mem_append_right _ (mem_pinsAt hb e)))).1, fun b hb => ?_, w9⟩
        obtain ⟨o, e, d⟩ := T.obj _ _ st5 b hb
        exact (J9.pin (b, o) (List.mem_append_right _ (List.mem_append_right _ (mem_pinsAt hb e)))).2.1
      refine wpAny_mono (ht _ _ _ _ _ _ s6 σ6 H6 _ J6 q6) (fun ok' s7 h7 => ?_) fun _ _ z => z
      obtain ⟨H7, J7, q7⟩ := h7
      cases ok' with
      | false => exact again J7 q7
      | true =>
        refine wpAny_mono (he _ _ _ _ _ _ s7 σ6 H7 _ J7 q7) (fun xv2 s8 h8 => ?_) fun _ _ z => z
        obtain ⟨v, H8, J8, r8, ys, hD, hz, hw⟩ := h8
        refine wpAny_mono (mt_append (X := compCx X N' scope P2.objs.size s₂ H2 fp (X.pn ++ pins)) _ s8 σ6 H8 (.ref s₂.heap.objs.size) [v] (.ref s₂.heap.objs.size) [xv2] (fun _ H9 => ∃ m', m' < n ∧ W (i + 1) m' σ6 H9) J8 rfl (.cons r8 .nil) ⟨_, ys, v, rfl, rfl, hD, hz, hw⟩) (fun _ s9 h9 => ?_) fun _ _ z => z
        obtain ⟨_, H9, J9, _, q9⟩ := h9
        exact again J9 q9
  exact codeAny_compStart_list loop (T.self X.A 0 _ _ _ (T.keep _ _ _ st2 fun b _ o e => old b o e) loop)
end
end BF
namespace BF
open PySem PySem.Spec PyProof.Rows L2

/-! A comprehension over n items, by what holds behind each turn. -/
theorem comp_n {J : It} {n : Nat} {idx : List (Option Nat)} {g : TG} {tt : TT} {te : TE} {σ : L2.St} {H1 : Hp} {D : Addr} {Q : VK} (Pv : Nat → L2.St → Hp → Prop)
    (h0 : Pv 0 (pick idx σ) (upd H1 D (.lst []))) (hgo : ∀ i σ2 H2, i < n → Pv i σ2 H2 → J.go i H2) (hstop : ∀ σ2 H2, Pv n σ2 H2 → J.stop n H2 ∧ Q (.ref D) H2)
    (hs : ∀ i σ2 H2, i < n → Pv i σ2 H2 → ∀ x H3, J.yld i H2 x H3 → g x σ2 H3 fun σ4 H4 => tt σ4 H4 fun b H5 =>
      if b = true then te σ4 H5 fun v H6 => ∃ ys, H6 D = some (.lst ys) ∧ ys.length < sizeLine ∧ Pv (i + 1) σ4 (upd H6 D (.lst (ys ++ [v]))) else Pv (i + 1) σ4 H5) :
    CompW J idx g tt te σ H1 D Q := by
  refine ⟨fun i m σ H => m = n - i ∧ i ≤ n ∧ Pv i σ H, ⟨n, by simp, Nat.zero_le _, h0⟩, ?_⟩
  rintro i m σ2 H2 ⟨rfl, hi, p⟩
  by_cases hlt : i < n
  · refine .inr ⟨hgo i σ2 H2 hlt p, fun x H3 y => ?_⟩
    have key : ∀ (σ' : L2.St) (H' : Hp), (∃ m', m' < n - i ∧ m' = n - (i + 1) ∧ i + 1 ≤ n ∧ Pv (i + 1) σ' H') = Pv (i + 1) σ' H' := fun σ' H' =>
      propext ⟨fun ⟨_, _, _, _, q⟩ => q, fun q => ⟨n - (i + 1), by omega, rfl, hlt, q⟩⟩
    simp only [key]
    exact hs i σ2 H2 hlt p x H3 y
  · have e : i = n := by omega
    subst e
    exact .inl (hstop σ2 H2 p)

theorem atI_of {α : Type} {xs : List α} {m : Int} (h0 : 0 ≤ m) (h1 : m < xs.length) : ∃ c, atI xs m = some c ∧ c ∈ xs := by
  obtain ⟨j, rfl⟩ := Int.eq_ofNat_of_zero_le h0
  have hj : j < xs.length := by omega
  exact ⟨xs[j], atI_nat (List.getElem?_eq_getElem hj), List.getElem_mem hj⟩

/-! texts -/

/-! a small letter, a colour -/

/-! a <= b <= v, v written: one answer -/

theorem cmulR {i j : Int} (h1 : -(2 ^ 64) < j) (h2 : j < 2 ^ 64) : CMul i j := Or.inr ⟨h1, h2⟩
end BF
namespace BF
open PySem PySem.Spec PyProof.Rows L2

/-! Arguments that are no stars, by their kind: the argument itself is not looked into. -/
section
variable {rest : List Expr} {env : Env}
theorem se_name {x p} : starEach (.Name x p :: rest) env = (false, eval (.Name x p) env) :: starEach rest env := rfl
theorem se_const {c k p} : starEach (.Constant c k p :: rest) env = (false, eval (.Constant c k p) env) :: starEach rest env := rfl
theorem se_sub {a b p} : starEach (.Subscript a b p :: rest) env = (false, eval (.Subscript a b p) env) :: starEach rest env := rfl
theorem se_call {f a k p} : starEach (.Call f a k p :: rest) env = (false, eval (.Call f a k p) env) :: starEach rest env := rfl
theorem se_bin {a o b p} : starEach (.BinOp a o b p :: rest) env = (false, eval (.BinOp a o b p) env) :: starEach rest env := rfl
theorem se_tup {l k p} : starEach (.Tuple l k p :: rest) env = (false, eval (.Tuple l k p) env) :: starEach rest env := rfl
theorem se_cmp {a o b p} : starEach (.Compare a o b p :: rest) env = (false, eval (.Compare a o b p) env) :: starEach rest env := rfl
end
section
variable {X : Cx} {e : Expr} {es : List Expr} {te : TE} {t : TA} {pos : Pos}
theorem pac (ha : PE X e te) (hr : PA X es t) (hs : starEach (e :: es) X.env = (false, eval e X.env) :: starEach es X.env := by
    first | exact se_name | exact se_const | exact se_sub | exact se_call | exact se_bin | exact se_tup | exact se_list | exact se_dict | exact se_comp | exact se_attr | exact se_cmp | exact se_bool | exact se_un | exact se_if) :
    PA X (e :: es) (tCons te t) := pa_cons ha hr hs
variable {CX : CXT} {k : Nat} {f : Addr} {fd : FuncData} {ps : List Str} {sp : Sp} {dvs : List V} {ds : List Value} {E : XK} {x : Str} {p : Pos}
/-- a def's call; at most four arguments -/
theorem pec (F : FnOk X.prog X.w X.K X.mg X.base CX k f fd ps sp) (hr : Room k X.A) (hg : Gl X x) (hm : X.mg x = some (.ref f)) (hk : PySem.W.keepIn X.K (.ref f) = true) (hb : Binds X.K fd ps ds) (hd : Vals dvs ds) (hx : Passes CX X E)
    (ha : PA X (e :: es) t) (hdb : (x == ("__debug__" : Str)) = false := by decide)
    (he : starEach (e :: es) X.env = (false, eval e X.env) :: starEach es X.env := by
      first | exact se_name | exact se_const | exact se_sub | exact se_call | exact se_bin | exact se_tup | exact se_list | exact se_dict | exact se_comp | exact se_attr | exact se_cmp | exact se_bool | exact se_un | exact se_if)
    (hpl : (backTo pos (starEach es X.env)).any (·.1) = false := by rfl) : PE X (.Call (.Name x p) (e :: es) [] pos) (tCall sp dvs E t) := pe_call F hr hg hm hk hb hd hx ha hdb he hpl
end
end BF
namespace BF
open PySem PySem.Spec PyProof.Rows L2 PySem.SeqAt

/-! Data that is told: ints, texts, tuples of such; how it lies in the heap; equality. -/
inductive Dt where
  | int (i : Int)
  | str (x : Str)
  | tup (l : List Dt)
mutual
def Dt.beq : Dt → Dt → Bool
  | .int i, .int j => i == j
  | .str x, .str y => x == y
  | .tup l, .tup m => Dt.beqs l m
  | _, _ => false
def Dt.beqs : List Dt → List Dt → Bool
  | [], [] => true
  | a :: l, b :: m => Dt.beq a b && Dt.beqs l m
  | _, _ => false
end
mutual
theorem Dt.beq_iff : ∀ a b : Dt, Dt.beq a b = true ↔ a = b
  | .int i, .int j => by simp [Dt.beq]
  | .str x, .str y => by simp [Dt.beq]
  | .tup l, .tup m => by simp [Dt.beq, Dt.beqs_iff l m]
  | .int i, .str y => by simp [Dt.beq]
  | .int i, .tup m => by simp [Dt.beq]
  | .str x, .int j => by simp [Dt.beq]
  | .str x, .tup m => by simp [Dt.beq]
  | .tup l, .int j => by simp [Dt.beq]
  | .tup l, .str y => by simp [Dt.beq]
theorem Dt.beqs_iff : ∀ l m : List Dt, Dt.beqs l m = true ↔ l = m
  | [], [] => by simp [Dt.beqs]
  | a :: l, b :: m => by simp [Dt.beqs, Dt.beq_iff a b, Dt.beqs_iff l m]
  | [], b :: m => by simp [Dt.beqs]
  | a :: l, [] => by simp [Dt.beqs]
end
theorem Dt.beq_self (a : Dt) : Dt.beq a a = true := (Dt.beq_iff a a).mpr rfl
mutual
def Dt.dp : Dt → Nat
  | .int _ => 0
  | .str _ => 0
  | .tup l => Dt.dps l + 1
def Dt.dps : List Dt → Nat
  | [] => 0
  | a :: l => max (Dt.dp a) (Dt.dps l)
end
mutual
inductive DtIs (H : Hp) : V → Dt → Prop where
  | int (i : Int) : DtIs H (.int i) (.int i)
  | str (x : Str) : DtIs H (.str x) (.str x)
  | tup {a : Addr} {xs : List V} {ds : List Dt} (e : H a = some (.tup xs)) (h : DtsIs H xs ds) : DtIs H (.ref a) (.tup ds)
inductive DtsIs (H : Hp) : List V → List Dt → Prop where
  | nil : DtsIs H [] []
  | cons {v : V} {d : Dt} {vs : List V} {ds : List Dt} (h : DtIs H v d) (t : DtsIs H vs ds) : DtsIs H (v :: vs) (d :: ds)
end
mutual
theorem DtIs.inj {H : Hp} : ∀ {d : Dt} {v : V} {d' : Dt}, DtIs H v d → DtIs H v d' → d = d'
  | .int i, _, d', .int _, h => by cases h; rfl
  | .str x, _, d', .str _, h => by cases h; rfl
  | .tup ds, _, d', .tup e q, h => by
    cases h with
    | tup e2 q2 =>
      rw [e] at e2
      cases e2
      rw [DtsIs.inj q q2]
theorem DtsIs.inj {H : Hp} : ∀ {ds : List Dt} {vs : List V} {ds' : List Dt}, DtsIs H vs ds → DtsIs H vs ds' → ds = ds'
  | [], _, _, .nil, h => by cases h; rfl
  | d :: ds, _, _, .cons q t, h => by
    cases h with
    | cons q2 t2 => rw [DtIs.inj q q2, DtsIs.inj t t2]
end
mutual
theorem DtIs.same {H H' : Hp} (S : Same H H') : ∀ {d : Dt} {v : V}, DtIs H v d → DtIs H' v d
  | .int i, _, .int _ => .int i
  | .str x, _, .str _ => .str x
  | .tup ds, _, .tup e q => .tup (S _ _ e) (DtsIs.same S q)
theorem DtsIs.same {H H' : Hp} (S : Same H H') : ∀ {ds : List Dt} {vs : List V}, DtsIs H vs ds → DtsIs H' vs ds
  | [], _, .nil => .nil
  | d :: ds, _, .cons q t => .cons (DtIs.same S q) (DtsIs.same S t)
end
theorem DtsIs.length {H : Hp} : ∀ {ds : List Dt} {vs : List V}, DtsIs H vs ds → vs.length = ds.length
  | [], _, .nil => rfl
  | d :: ds, _, .cons q t => by rw [List.length_cons, List.length_cons, DtsIs.length t]

/-- item by item -/
def itEq (ds ds' : List Dt) (j : Nat) : Bool := match ds[j]?, ds'[j]? with
  | some a, some b => Dt.beq a b
  | _, _ => true
theorem all_itEq : ∀ ds ds' : List Dt, ((List.range (min ds.length ds'.length)).all (itEq ds ds') && ds.length == ds'.length) = Dt.beqs ds ds'
  | [], [] => rfl
  | [], b :: m => by simp [Dt.beqs]
  | a :: l, [] => by simp [Dt.beqs]
  | a :: l, b :: m => by
    have ih := all_itEq l m
    rw [List.length_cons, List.length_cons, Nat.succ_min_succ, List.range_succ_eq_map, List.all_cons, List.all_map]
    have e0 : itEq (a :: l) (b :: m) 0 = Dt.beq a b := rfl
    have e1 : (itEq (a :: l) (b :: m) ∘ Nat.succ) = itEq l m := by
      funext j
      simp [itEq]
    rw [e0, e1]
    show _ = (Dt.beq a b && Dt.beqs l m)
    rw [← ih, Bool.and_assoc]
    simp

section
variable {X : Cx} {pins : List (Addr × Obj)} {σ : L2.St} {H : Hp} {s : Shared}
theorem dp_at : ∀ {ds : List Dt} {j : Nat} {d : Dt}, ds[j]? = some d → d.dp ≤ Dt.dps ds
  | [], j, d, e => by simp at e
  | a :: l, 0, d, e => by
    have e' := Option.some.inj e
    subst e'
    simp only [Dt.dps]
    omega
  | a :: l, j + 1, d, e => by
    have := dp_at (ds := l) (j := j) (d := d) (by simpa using e)
    simp only [Dt.dps]
    omega
theorem rel_at : ∀ {ds : List Dt} {vs : List V} {us : List Value}, DtsIs H vs ds → Vals vs us → ∀ {j : Nat} {u : Value}, us[j]? = some u → ∃ v d, ds[j]? = some d ∧ DtIs H v d ∧ RelV v u
  | _, _, _, .nil, .nil, j, u, e => by simp at e
  | _, _, _, .cons h t, .cons r rs, 0, u, e => by
    have e' := Option.some.inj e
    subst e'
    exact ⟨_, _, rfl, h, r⟩
  | _, _, _, .cons h t, .cons r rs, j + 1, u, e => by
    obtain ⟨v, d, a, b, c⟩ := rel_at t rs (j := j) (u := u) (by simpa using e)
    exact ⟨v, d, by simpa using a, b, c⟩
theorem eqAt_n (I : Inv X pins σ H s) (n : Nat) : ∀ {d d' : Dt} {v v' : V} {u u' : Value} (A : Around), d.dp ≤ n → DtIs H v d → RelV v u → DtIs H v' d' → RelV v' u' → A.units + n < cLine → EqAt A s u u' (Dt.beq d d') := by
  induction n with
  | zero =>
    intro d d' v v' u u' A hn h r h' r' hu
    cases h with
    | int i =>
      obtain ⟨t, rfl⟩ := r
      cases h' with
      | int j => obtain ⟨t', rfl⟩ := r'; exact EqAt.int_int i t j t'
      | str y => obtain ⟨t', rfl⟩ := r'; exact EqAt.int_str i t y t'
      | tup e q => cases r'; obtain ⟨its, _, p, _⟩ := I.tuple (SqT.of e); exact EqAt.int_tuple i t p hu
    | str x =>
      obtain ⟨t, rfl⟩ := r
      cases h' with
      | int j => obtain ⟨t', rfl⟩ := r'; exact EqAt.str_int x t j t'
      | str y => obtain ⟨t', rfl⟩ := r'; exact EqAt.str_str x t y t'
      | tup e q => cases r'; obtain ⟨its, _, p, _⟩ := I.tuple (SqT.of e); exact EqAt.str_tuple x t p hu
    | tup e q => simp only [Dt.dp] at hn; omega
  | succ n ih =>
    intro d d' v v' u u' A hn h r h' r' hu
    by_cases h0 : d.dp ≤ n
    · exact ih A h0 h r h' r' (by omega)
    cases h with
    | int i => simp only [Dt.dp] at h0; omega
    | str x => simp only [Dt.dp] at h0; omega
    | @tup a xs l e q =>
      cases r
      cases h' with
      | int j => obtain ⟨t', rfl⟩ := r'; obtain ⟨its, _, p, _⟩ := I.tuple (SqT.of e); exact EqAt.tuple_int j t' p (by omega)
      | str y => obtain ⟨t', rfl⟩ := r'; obtain ⟨its, _, p, _⟩ := I.tuple (SqT.of e); exact EqAt.tuple_str y t' p (by omega)
      | @tup b ys m e' q' =>
        cases r'
        by_cases hab : a = b
        · subst hab
          have z := DtIs.inj (DtIs.tup e q) (DtIs.tup e' q')
          rw [z, Dt.beq_self]
          exact EqAt.same _
        · obtain ⟨its, rv, p, _⟩ := I.tuple (SqT.of e)
          obtain ⟨its', rv', p', _⟩ := I.tuple (SqT.of e')
          have n1 : its.toArray.size = l.length := by rw [List.size_toArray, ← rv.length, q.length]
          have n2 : its'.toArray.size = m.length := by rw [List.size_toArray, ← rv'.length, q'.length]
          simp only [Dt.dp] at hn
          have R := RcAt.tuples (A := A) (s := s) (e := itEq l m) p p' (by omega) (fun j h1 h2 => by
            obtain ⟨v1, d1, a1, b1, c1⟩ := rel_at q rv (j := j) (u := its.toArray[j]) (by simp)
            obtain ⟨v2, d2, a2, b2, c2⟩ := rel_at q' rv' (j := j) (u := its'.toArray[j]) (by simp)
            have z : itEq l m j = Dt.beq d1 d2 := by unfold itEq; rw [a1, a2]
            rw [z]
            exact ih A.in1 (by have := dp_at a1; omega) b1 c1 b2 c2 (by show A.units + 1 + _ < _; omega))
          rw [n1, n2, all_itEq] at R
          exact EqAt.of_refs hab R
theorem eqsAt_D (I : Inv X pins σ H s) {ds ds' : List Dt} {vs vs' : List V} {us us' : List Value} (A : Around) (q : DtsIs H vs ds) (rv : Vals vs us) (q' : DtsIs H vs' ds') (rv' : Vals vs' us') (hu : A.units + Dt.dps ds < cLine)
    (j : Nat) (u u' : Value) (e : us[j]? = some u) (e' : us'[j]? = some u') : EqAt A s u u' (itEq ds ds' j) := by
  obtain ⟨v1, d1, a1, b1, c1⟩ := rel_at q rv e
  obtain ⟨v2, d2, a2, b2, c2⟩ := rel_at q' rv' e'
  have z : itEq ds ds' j = Dt.beq d1 d2 := by unfold itEq; rw [a1, a2]
  rw [z]
  exact eqAt_n I _ A (dp_at a1) b1 c1 b2 c2 hu
/-- a == b, a != b of told data -/
theorem op_eqD {k : Nat} (hr : Room k X.A) : OpR X (compareOp .Eq) (fun x y H Q => ∃ d d', DtIs H x d ∧ DtIs H y d' ∧ d.dp ≤ 60 ∧ (∃ l, d = .tup l) ∧ (∃ l, d' = .tup l) ∧ Q (.bl (Dt.beq d d')) H) := by
  intro pins s σ H x y v u Q I rx ry h
  obtain ⟨d, d', hd, hd', h60, ⟨l, rfl⟩, ⟨m, rfl⟩, q⟩ := h
  have hu := hr.units
  cases hd with
  | @tup a xs _ e h1 =>
    cases hd' with
    | @tup b ys _ e' h2 =>
      cases rx
      cases ry
      obtain ⟨its, rv, p, _⟩ := I.tuple (SqT.of e)
      obtain ⟨its', rv', p', _⟩ := I.tuple (SqT.of e')
      have n1 : its.toArray.size = l.length := by rw [List.size_toArray, ← rv.length, h1.length]
      have n2 : its'.toArray.size = m.length := by rw [List.size_toArray, ← rv'.length, h2.length]
      have hd : Dt.dps l + 1 ≤ 60 := by simpa only [Dt.dp] using h60
      have R := RcAt.tuples (A := X.A) (s := s) (e := itEq l m) p p' (by omega) (fun j j1 j2 => eqsAt_D I X.A.in1 h1 rv h2 rv' (by show X.A.units + 1 + _ < _; omega) j _ _ (by simp) (by simp))
      rw [n1, n2, all_itEq] at R
      exact R X.prog X.w X.xe _ ⟨.bl _, H, I, rfl, q⟩
end
end BF
namespace BF
open PySem PySem.Spec PyProof.Rows L2
section
variable {prog : Program} {w : World} {A : Around} {E : Value → Shared → Prop} {s : Shared}
/-- min(a, b) by what b < a answers at the states ahead -/
theorem two_min {a b : Value} {bt : Bool} {Q : Value → Shared → Prop} (hh : A.handled = none)
    (hcmp : ∀ (s' : Shared) (Q' : Value → Shared → Prop) (E' : Value → Shared → Prop), (∀ c o, s.heap.get? c = some o → s'.heap.get? c = some o) → Q' (.bool bt) s' → wpAny (model prog w) A.in1 (richCompare .Lt b a) Q' E' s')
    (h : ∀ h' tk, (∀ c o, s.heap.get? c = some o → h'.get? c = some o) → Q (if bt = true then b else a) { s with heap := h', toks := tk }) : wpAny (model prog w) A (call (.builtin "min") [a, b]) Q E s := by
  have nm : (toString "min" ++ toString ".loop" : String) = "min.loop" := by decide
  refine call_function_tree F.kind_min F.plain_min F.entry_min (F.args_min2 a b) ?_
  refine wpAny_bind (m := Builtin.Builtins.bindParams "min" ["key", "default"] 0 ⟨[], []⟩) (wpAny_of_eq (a := [none, none]) rfl ?_)
  refine wpAny_bind (m := newTuple [a, b]) (wpAny_newObj_type ?_)
  generalize ho : ({ cls := .type "tuple", dict := none, data := .seq [a, b].toArray } : Obj) = ot
  have k1 : ∀ c o, s.heap.get? c = some o → (s.heap.push ot).get? c = some o := fun c o e => Heap.get?_push_of_some _ e
  have t1 : (s.heap.push ot).IsTuple s.heap.objs.size #[a, b] := ⟨ot, Heap.get?_push_size _ (by rw [← ho]; rfl), by rw [← ho], 0, by rw [← ho]⟩
  have z1 : s.heap.objs.size < (s.heap.push ot).objs.size := by rw [Heap.size_push]; exact Nat.lt_succ_self _
  refine wpAny_bind (wpAny_pyIter_tuple t1 ?_)
  have zs : ∀ c o, s.heap.get? c = some o → c < s.heap.objs.size := fun c o e => Heap.lt_size e
  generalize s.heap.push ot = h1 at k1 t1 z1 ⊢
  generalize hoi : ({ cls := .type "tuple_iterator", data := .fields #[.ref s.heap.objs.size, .int 0 0] } : Obj) = oi
  dsimp only
  have i2 : (h1.push oi).IsTupleIter h1.objs.size s.heap.objs.size 0 := ⟨oi, Heap.get?_push_size _ (by rw [← hoi]; rfl), by rw [← hoi], by rw [← hoi]; rfl⟩
  have t2 : (h1.push oi).IsTuple s.heap.objs.size #[a, b] := t1.push _
  have z2 : h1.objs.size < (h1.push oi).objs.size := by rw [Heap.size_push]; exact Nat.lt_succ_self _
  have k2 : ∀ c o, s.heap.get? c = some o → (h1.push oi).get? c = some o := fun c o e => Heap.get?_push_of_some _ (k1 c o e)
  generalize hI : h1.objs.size = I at i2 z1 z2 ⊢
  generalize hT : s.heap.objs.size = T at i2 t2 z1 zs ⊢
  generalize h1.push oi = h2 at i2 t2 z2 k2 ⊢
  refine wpAny_bind (m := newList []) (wpAny_newObj_type ?_)
  generalize hol : ({ cls := .type "list", dict := none, data := .seq ([] : List Value).toArray } : Obj) = ol
  have gS : (h2.push ol).get? h2.objs.size = some { cls := .type "list", dict := none, data := .seq #[] 0, slots := #[] } := by rw [← hol]; exact Heap.get?_push_size _ rfl
  have i3 : (h2.push ol).IsTupleIter I T 0 := by
    obtain ⟨o, e, c, d⟩ := i2
    exact ⟨o, Heap.get?_push_of_some _ e, c, d⟩
  have t3 := t2.push ol
  have k3 : ∀ c o, s.heap.get? c = some o → (h2.push ol).get? c = some o := fun c o e => Heap.get?_push_of_some _ (k2 c o e)
  have nSI : h2.objs.size ≠ I := Nat.ne_of_gt z2
  have nST : h2.objs.size ≠ T := Nat.ne_of_gt (Nat.lt_trans z1 z2)
  have nS : ∀ c o, s.heap.get? c = some o → c ≠ h2.objs.size := fun c o e => Nat.ne_of_lt (Nat.lt_trans (zs c o e) (Nat.lt_trans z1 z2))
  have nI : ∀ c o, s.heap.get? c = some o → c ≠ I := fun c o e => Nat.ne_of_lt (Nat.lt_trans (zs c o e) z1)
  generalize h2.objs.size = S at gS nSI nST nS ⊢
  generalize h2.push ol = h3 at gS i3 t3 k3 ⊢
  have W : Walks prog w A.in1 I [I, T] [I] 2 (fun i v => (#[a, b] : Array Value)[i]? = some v) (fun i h => h.IsTupleIter I T i ∧ h.IsTuple T #[a, b]) := Walks.tuple (A := A.in1) hh I T (Nat.ne_of_lt z1) #[a, b]
  rw [nm]
  refine wpAny_pure ⟨plainId_quiet F.plain_min_loop _, ?_⟩
  -- the first item
  refine codeAny_builtin F.entry_min_loop ?_
  rw [Around.under_plainId F.plain_min_loop _]
  refine wpAny_bind (m := seqItems? (.ref S)) (wpAny_seqItems gS rfl ?_)
  show wpAny _ A.in1 (tryCatch (pyNext (.ref I)) _ >>= _) _ _ _
  refine wpAny_bind (wpAny_tryCatch (W.item 0 _ _ _ (by decide) ⟨i3, t3⟩ fun v h4 tk hv st4 q4 => ?_))
  have ev : a = v := Option.some.inj hv
  subst ev
  have g4 := q4 S _ (by simpa using nSI) gS
  have k4 : ∀ c o, s.heap.get? c = some o → h4.get? c = some o := fun c o e => q4 c o (by simpa using nI c o e) (k3 c o e)
  refine wpAny_bind (m := updateSeq S _) ?_
  refine wpAny_updateSeq g4 rfl ?_
  rw [nm]
  have st5 := W.frame 1 _ (h4.update S (Obj.mapSeq fun _ => #[a, a])) st4 fun c hc o e => by
    rw [Heap.get?_update_other _ _ (fun z => by subst z; simp at hc; rcases hc with z | z <;> contradiction)]; exact e
  have g5 := Heap.get?_update_self (Obj.mapSeq fun _ => #[a, a]) g4 rfl
  have k5 : ∀ c o, s.heap.get? c = some o → (h4.update S (Obj.mapSeq fun _ => #[a, a])).get? c = some o := fun c o e => (Heap.get?_update_other _ _ (Ne.symm (nS c o e))).trans (k4 c o e)
  dsimp only
  generalize h4.update S (Obj.mapSeq fun _ => #[a, a]) = h5 at st5 g5 k5 ⊢
  refine wpAny_pure ⟨plainId_quiet F.plain_min_loop _, ?_⟩
  -- the second
  refine codeAny_builtin F.entry_min_loop ?_
  rw [Around.under_plainId F.plain_min_loop _]
  refine wpAny_bind (m := seqItems? (.ref S)) (wpAny_seqItems g5 rfl ?_)
  show wpAny _ A.in1 (tryCatch (pyNext (.ref I)) _ >>= _) _ _ _
  refine wpAny_bind (wpAny_tryCatch (W.item 1 _ _ _ (by decide) st5 fun v h6 tk6 hv st6 q6 => ?_))
  have ev : b = v := Option.some.inj hv
  subst ev
  have g6 := q6 S _ (by simpa using nSI) g5
  have k6 : ∀ c o, s.heap.get? c = some o → h6.get? c = some o := fun c o e => q6 c o (by simpa using nI c o e) (k5 c o e)
  show wpAny _ A.in1 (tryCatch (holding [b, b] (richCompare .Lt b a >>= _)) _ >>= _) _ _ _
  refine wpAny_bind (wpAny_tryCatch (wpAny_holding (wpAny_bind (hcmp _ _ _ k6 ?_))))
  refine wpAny_bind (wpAny_holding (wpAny_truthy_bool ?_))
  refine wpAny_bind (wpAny_letGo (wpAny_pure ?_))
  -- the end
  have fin : ∀ (s7 : Shared) (v : Value) (c : Nat), s7.heap.IsTupleIter I T 2 ∧ s7.heap.IsTuple T #[a, b] → s7.heap.get? S = some { cls := .type "list", dict := none, data := .seq #[v, v] c, slots := #[] } →
      (∀ c o, s.heap.get? c = some o → s7.heap.get? c = some o) → (∀ h' tk, (∀ c o, s.heap.get? c = some o → h'.get? c = some o) → Q v { s7 with heap := h', toks := tk }) →
      codeAny (model prog w) A (.builtin "min.loop" ⟨[.ref I, .none, .ref S], []⟩) (fun r s' => match r with | .ok (.ret v) => Q v s' | .ok _ => False | .error e => E e s') s7 := fun s7 v c st7 g7 k7 hq => by
    refine codeAny_builtin F.entry_min_loop ?_
    rw [Around.under_plainId F.plain_min_loop _]
    refine wpAny_bind (m := seqItems? (.ref S)) (wpAny_seqItems g7 rfl ?_)
    show wpAny _ A.in1 (tryCatch (pyNext (.ref I)) _ >>= _) _ _ _
    refine wpAny_bind (wpAny_tryCatch (W.done _ _ _ st7 fun h8 tk8 q8 => ?_))
    have g8 := q8 S _ (by simpa using nSI) g7
    refine wpAny_bind (m := updateSeq S _) ?_
    refine wpAny_updateSeq g8 rfl (wpAny_bind (wpAny_letGo (wpAny_pure ?_)))
    exact hq _ tk8 fun c o e => (Heap.get?_update_other _ _ (Ne.symm (nS c o e))).trans (q8 c o (by simpa using nI c o e) (k7 c o e))
  cases bt with
  | true =>
    simp only [if_true]
    refine wpAny_bind (m := updateSeq S _) ?_
    refine wpAny_updateSeq g6 rfl (wpAny_bind (wpAny_letGo ?_))
    rw [nm]
    refine wpAny_pure ⟨plainId_quiet F.plain_min_loop _, fin _ b _ (W.frame 2 _ _ st6 fun c hc o e => ?_) (Heap.get?_update_self _ g6 rfl) (fun c o e => ?_) fun h' tk k => ?_⟩
    · exact (Heap.get?_update_other _ _ (fun z => by subst z; simp at hc; rcases hc with z | z <;> contradiction)).trans e
    · exact (Heap.get?_update_other _ _ (Ne.symm (nS c o e))).trans (k6 c o e)
    · have := h h' tk k
      rw [if_pos rfl] at this
      exact this
  | false =>
    simp only [Bool.false_eq_true, if_false]
    refine wpAny_bind (wpAny_letGo ?_)
    rw [nm]
    refine wpAny_pure ⟨plainId_quiet F.plain_min_loop _, fin _ a _ st6 g6 k6 fun h' tk k => ?_⟩
    have := h h' tk k
    rw [if_neg Bool.false_ne_true] at this
    exact this
/-- max(a, b) by what b > a answers at the states ahead -/
theorem two_max {a b : Value} {bt : Bool} {Q : Value → Shared → Prop} (hh : A.handled = none)
    (hcmp : ∀ (s' : Shared) (Q' : Value → Shared → Prop) (E' : Value → Shared → Prop), (∀ c o, s.heap.get? c = some o → s'.heap.get? c = some o) → Q' (.bool bt) s' → wpAny (model prog w) A.in1 (richCompare .Gt b a) Q' E' s')
    (h : ∀ h' tk, (∀ c o, s.heap.get? c = some o → h'.get? c = some o) → Q (if bt = true then b else a) { s with heap := h', toks := tk }) : wpAny (model prog w) A (call (.builtin "max") [a, b]) Q E s := by
  have nm : (toString "max" ++ toString ".loop" : String) = "max.loop" := by decide
  refine call_function_tree F.kind_max F.plain_max F.entry_max (F.args_max2 a b) ?_
  refine wpAny_bind (m := Builtin.Builtins.bindParams "max" ["key", "default"] 0 ⟨[], []⟩) (wpAny_of_eq (a := [none, none]) rfl ?_)
  refine wpAny_bind (m := newTuple [a, b]) (wpAny_newObj_type ?_)
  generalize ho : ({ cls := .type "tuple", dict := none, data := .seq [a, b].toArray } : Obj) = ot
  have k1 : ∀ c o, s.heap.get? c = some o → (s.heap.push ot).get? c = some o := fun c o e => Heap.get?_push_of_some _ e
  have t1 : (s.heap.push ot).IsTuple s.heap.objs.size #[a, b] := ⟨ot, Heap.get?_push_size _ (by rw [← ho]; rfl), by rw [← ho], 0, by rw [← ho]⟩
  have z1 : s.heap.objs.size < (s.heap.push ot).objs.size := by rw [Heap.size_push]; exact Nat.lt_succ_self _
  refine wpAny_bind (wpAny_pyIter_tuple t1 ?_)
  have zs : ∀ c o, s.heap.get? c = some o → c < s.heap.objs.size := fun c o e => Heap.lt_size e
  generalize s.heap.push ot = h1 at k1 t1 z1 ⊢
  generalize hoi : ({ cls := .type "tuple_iterator", data := .fields #[.ref s.heap.objs.size, .int 0 0] } : Obj) = oi
  dsimp only
  have i2 : (h1.push oi).IsTupleIter h1.objs.size s.heap.objs.size 0 := ⟨oi, Heap.get?_push_size _ (by rw [← hoi]; rfl), by rw [← hoi], by rw [← hoi]; rfl⟩
  have t2 : (h1.push oi).IsTuple s.heap.objs.size #[a, b] := t1.push _
  have z2 : h1.objs.size < (h1.push oi).objs.size := by rw [Heap.size_push]; exact Nat.lt_succ_self _
  have k2 : ∀ c o, s.heap.get? c = some o → (h1.push oi).get? c = some o := fun c o e => Heap.get?_push_of_some _ (k1 c o e)
  generalize hI : h1.objs.size = I at i2 z1 z2 ⊢
  generalize hT : s.heap.objs.size = T at i2 t2 z1 zs ⊢
  generalize h1.push oi = h2 at i2 t2 z2 k2 ⊢
  refine wpAny_bind (m := newList []) (wpAny_newObj_type ?_)
  generalize hol : ({ cls := .type "list", dict := none, data := .seq ([] : List Value).toArray } : Obj) = ol
  have gS : (h2.push ol).get? h2.objs.size = some { cls := .type "list", dict := none, data := .seq #[] 0, slots := #[] } := by rw [← hol]; exact Heap.get?_push_size _ rfl
  have i3 : (h2.push ol).IsTupleIter I T 0 := by
    obtain ⟨o, e, c, d⟩ := i2
    exact ⟨o, Heap.get?_push_of_some _ e, c, d⟩
  have t3 := t2.push ol
  have k3 : ∀ c o, s.heap.get? c = some o → (h2.push ol).get? c = some o := fun c o e => Heap.get?_push_of_some _ (k2 c o e)
  have nSI : h2.objs.size ≠ I := Nat.ne_of_gt z2
  have nST : h2.objs.size ≠ T := Nat.ne_of_gt (Nat.lt_trans z1 z2)
  have nS : ∀ c o, s.heap.get? c = some o → c ≠ h2.objs.size := fun c o e => Nat.ne_of_lt (Nat.lt_trans (zs c o e) (Nat.lt_trans z1 z2))
  have nI : ∀ c o, s.heap.get? c = some o → c ≠ I := fun c o e => Nat.ne_of_lt (Nat.lt_trans (zs c o e) z1)
  generalize h2.objs.size = S at gS nSI nST nS ⊢
  generalize h2.push ol = h3 at gS i3 t3 k3 ⊢
  have W : Walks prog w A.in1 I [I, T] [I] 2 (fun i v => (#[a, b] : Array Value)[i]? = some v) (fun i h => h.IsTupleIter I T i ∧ h.IsTuple T #[a, b]) := Walks.tuple (A := A.in1) hh I T (Nat.ne_of_lt z1) #[a, b]
  rw [nm]
  refine wpAny_pure ⟨plainId_quiet F.plain_max_loop _, ?_⟩
  -- the first item
  refine codeAny_builtin F.entry_max_loop ?_
  rw [Around.under_plainId F.plain_max_loop _]
  refine wpAny_bind (m := seqItems? (.ref S)) (wpAny_seqItems gS rfl ?_)
  show wpAny _ A.in1 (tryCatch (pyNext (.ref I)) _ >>= _) _ _ _
  refine wpAny_bind (wpAny_tryCatch (W.item 0 _ _ _ (by decide) ⟨i3, t3⟩ fun v h4 tk hv st4 q4 => ?_))
  have ev : a = v := Option.some.inj hv
  subst ev
  have g4 := q4 S _ (by simpa using nSI) gS
  have k4 : ∀ c o, s.heap.get? c = some o → h4.get? c = some o := fun c o e => q4 c o (by simpa using nI c o e) (k3 c o e)
  refine wpAny_bind (m := updateSeq S _) ?_
  refine wpAny_updateSeq g4 rfl ?_
  rw [nm]
  have st5 := W.frame 1 _ (h4.update S (Obj.mapSeq fun _ => #[a, a])) st4 fun c hc o e => by
    rw [Heap.get?_update_other _ _ (fun z => by subst z; simp at hc; rcases hc with z | z <;> contradiction)]; exact e
  have g5 := Heap.get?_update_self (Obj.mapSeq fun _ => #[a, a]) g4 rfl
  have k5 : ∀ c o, s.heap.get? c = some o → (h4.update S (Obj.mapSeq fun _ => #[a, a])).get? c = some o := fun c o e => (Heap.get?_update_other _ _ (Ne.symm (nS c o e))).trans (k4 c o e)
  dsimp only
  generalize h4.update S (Obj.mapSeq fun _ => #[a, a]) = h5 at st5 g5 k5 ⊢
  refine wpAny_pure ⟨plainId_quiet F.plain_max_loop _, ?_⟩
  -- the second
  refine codeAny_builtin F.entry_max_loop ?_
  rw [Around.under_plainId F.plain_max_loop _]
  refine wpAny_bind (m := seqItems? (.ref S)) (wpAny_seqItems g5 rfl ?_)
  show wpAny _ A.in1 (tryCatch (pyNext (.ref I)) _ >>= _) _ _ _
  refine wpAny_bind (wpAny_tryCatch (W.item 1 _ _ _ (by decide) st5 fun v h6 tk6 hv st6 q6 => ?_))
  have ev : b = v := Option.some.inj hv
  subst ev
  have g6 := q6 S _ (by simpa using nSI) g5
  have k6 : ∀ c o, s.heap.get? c = some o → h6.get? c = some o := fun c o e => q6 c o (by simpa using nI c o e) (k5 c o e)
  show wpAny _ A.in1 (tryCatch (holding [b, b] (richCompare .Gt b a >>= _)) _ >>= _) _ _ _
  refine wpAny_bind (wpAny_tryCatch (wpAny_holding (wpAny_bind (hcmp _ _ _ k6 ?_))))
  refine wpAny_bind (wpAny_holding (wpAny_truthy_bool ?_))
  refine wpAny_bind (wpAny_letGo (wpAny_pure ?_))
  -- the end
  have fin : ∀ (s7 : Shared) (v : Value) (c : Nat), s7.heap.IsTupleIter I T 2 ∧ s7.heap.IsTuple T #[a, b] → s7.heap.get? S = some { cls := .type "list", dict := none, data := .seq #[v, v] c, slots := #[] } →
      (∀ c o, s.heap.get? c = some o → s7.heap.get? c = some o) → (∀ h' tk, (∀ c o, s.heap.get? c = some o → h'.get? c = some o) → Q v { s7 with heap := h', toks := tk }) →
      codeAny (model prog w) A (.builtin "max.loop" ⟨[.ref I, .none, .ref S], []⟩) (fun r s' => match r with | .ok (.ret v) => Q v s' | .ok _ => False | .error e => E e s') s7 := fun s7 v c st7 g7 k7 hq => by
    refine codeAny_builtin F.entry_max_loop ?_
    rw [Around.under_plainId F.plain_max_loop _]
    refine wpAny_bind (m := seqItems? (.ref S)) (wpAny_seqItems g7 rfl ?_)
    show wpAny _ A.in1 (tryCatch (pyNext (.ref I)) _ >>= _) _ _ _
    refine wpAny_bind (wpAny_tryCatch (W.done _ _ _ st7 fun h8 tk8 q8 => ?_))
    have g8 := q8 S _ (by simpa using nSI) g7
    refine wpAny_bind (m := updateSeq S _) ?_
    refine wpAny_updateSeq g8 rfl (wpAny_bind (wpAny_letGo (wpAny_pure ?_)))
    exact hq _ tk8 fun c o e => (Heap.get?_update_other _ _ (Ne.symm (nS c o e))).trans (q8 c o (by simpa using nI c o e) (k7 c o e))
  cases bt with
  | true =>
    simp only [if_true]
    refine wpAny_bind (m := updateSeq S _) ?_
    refine wpAny_updateSeq g6 rfl (wpAny_bind (wpAny_letGo ?_))
    rw [nm]
    refine wpAny_pure ⟨plainId_quiet F.plain_max_loop _, fin _ b _ (W.frame 2 _ _ st6 fun c hc o e => ?_) (Heap.get?_update_self _ g6 rfl) (fun c o e => ?_) fun h' tk k => ?_⟩
    · exact (Heap.get?_update_other _ _ (fun z => by subst z; simp at hc; rcases hc with z | z <;> contradiction)).trans e
    · exact (Heap.get?_update_other _ _ (Ne.symm (nS c o e))).trans (k6 c o e)
    · have := h h' tk k
      rw [if_pos rfl] at this
      exact this
  | false =>
    simp only [Bool.false_eq_true, if_false]
    refine wpAny_bind (wpAny_letGo ?_)
    rw [nm]
    refine wpAny_pure ⟨plainId_quiet F.plain_max_loop _, fin _ a _ st6 g6 k6 fun h' tk k => ?_⟩
    have := h h' tk k
    rw [if_neg Bool.false_ne_true] at this
    exact this
end
end BF

namespace BF
open PySem PySem.Spec PyProof.Rows
section
/-- what u > t answers of two tuples of ints -/
def lexGt : List Int → List Int → Bool
  | x :: xs, y :: ys => if x = y then lexGt xs ys else decide (y < x)
  | _ :: _, [] => true
  | [], _ => false
theorem lexGt_lt : ∀ (xs ys : List Int), lexGt xs ys = HT.lexLt ys xs
  | [], [] => rfl
  | [], _ :: _ => rfl
  | _ :: _, [] => rfl
  | x :: xs, y :: ys => by
    show (if x = y then lexGt xs ys else decide (y < x)) = (if y = x then HT.lexLt ys xs else decide (y < x))
    by_cases h : x = y
    · rw [if_pos h, if_pos h.symm, lexGt_lt xs ys]
    · rw [if_neg h, if_neg (Ne.symm h)]
open PySem.SeqAt
open PySem.AutoSeq1 (wpAny_loadPart')
open PySem.MeetsSeq PySem.MeetsSeq2 PySem.MeetsSeq3
theorem tuple_gt_ints (l b : Addr) (pa pb : Array Value) (n n2 : Nat) (dd dd2 : Option Addr) (sl sl2 : Array (Option Value)) (ns ms : List Int) (hi : IntsAre pa.toList ns) (hj : IntsAre pb.toList ms) :
    Meets (Builtin.«tuple.__gt__» ⟨[.ref l, .ref b], []⟩)
      (fun _ R s => s.heap.get? l = some { cls := .type "tuple", dict := dd, data := .seq pa n, slots := sl } ∧ s.heap.get? b = some { cls := .type "tuple", dict := dd2, data := .seq pb n2, slots := sl2 } ∧
        R (.ok (.ret (.bool (lexGt ns ms)))) s) :=
  .of_wp fun prog w A R s h => by
    obtain ⟨hp, g, d, tk, os⟩ := s
    obtain ⟨hl, hb, h⟩ := h
    have f2 := AutoSeq1.sub_tuple_tuple
    have z1 : pa.size = ns.length := by rw [← hi.length]; simp
    have z2 : pb.size = ms.length := by rw [← hj.length]; simp
    wp_walk using wpAny_loadPart' hl, wpAny_loadPart' hb, wpAny_forIn_list _ (fun rest q s' => q.1 = none ∧ s' = ⟨hp, g, d, tk, os⟩ ∧ ∃ (vs ws : List Value) (xs ys : List Int), rest = vs.zip ws ∧
      IntsAre vs xs ∧ IntsAre ws ys ∧ xs.length + pb.size = ys.length + pa.size ∧ R (.ok (.ret (.bool (lexGt xs ys)))) ⟨hp, g, d, tk, os⟩) _
    case turn =>
      rintro ⟨y, x⟩ rest q s' ⟨hq, rfl, vs, ws, xs, ys, hz, ix, iy, hlen, hR⟩
      cases ix with
      | nil => rw [List.zip_nil_left] at hz; cases hz
      | cons a t ix' =>
        cases iy with
        | nil => rw [List.zip_nil_right] at hz; cases hz
        | cons c u iy' =>
          rw [List.zip_cons_cons] at hz
          injection hz with hd hrest
          injection hd with e1 e2
          subst e1 e2
          simp only [List.length_cons] at hlen
          obtain ⟨e, he, hiff⟩ := HT.eqAt_int A.in1 ⟨hp, g, d, tk, os⟩ a t c u
          refine wpAny_bind (he prog w _ _ ?_)
          cases e with
          | true =>
            have hR' := hR
            rw [show lexGt (a :: _) (c :: _) = _ from if_pos (hiff.mp rfl)] at hR'
            wp_walk
            exact ⟨rfl, rfl, _, _, _, _, hrest, ix', iy', by omega, hR'⟩
          | false =>
            have hR' := hR
            rw [show lexGt (a :: _) (c :: _) = _ from if_neg (fun q => absurd (hiff.mpr q) Bool.false_ne_true)] at hR'
            have hri : ∀ (E : Value → Shared → Prop) (Q : Value → Shared → Prop), Q (.bool (decide (a > c))) ⟨hp, g, d, tk, os⟩ → wpAny (model prog w) A.in1 (richCompare .Gt (.int a t) (.int c u)) Q E ⟨hp, g, d, tk, os⟩ :=
              fun E Q h => (PyProof.Rows.gt_int h : wpAny (model prog w) A.in1 (compareOp .Gt (.int a t) (.int c u)) Q E ⟨hp, g, d, tk, os⟩)
            wp_walk using hri
            exact ⟨_, rfl, by simpa using hR'⟩
    case fin =>
      rintro ⟨b1, b2⟩ s' ⟨hq, rfl, vs, ws, xs, ys, hz, ix, iy, hlen, hR⟩
      simp only at hq
      subst hq
      have hv : lexGt xs ys = decide (pb.size < pa.size) := by
        cases ix with
        | nil =>
          simp only [List.length_nil] at hlen
          exact (decide_eq_false (by omega)).symm
        | cons a t hv =>
          cases iy with
          | nil =>
            simp only [List.length_nil, List.length_cons] at hlen
            exact (decide_eq_true (by omega)).symm
          | cons c u hw =>
            rw [List.zip_cons_cons] at hz
            cases hz
      rw [hv] at hR
      wp_walk
      exact ⟨_, rfl, by simpa [Builtin.Tuple.tupleCompareSizes] using hR⟩
    case h =>
      exact ⟨rfl, rfl, pa.toList, pb.toList, ns, ms, rfl, hi, hj, by omega, h⟩
end
section
variable {prog : Program} {w : World} {A : Around} {E : Value → Shared → Prop} {s : Shared}
theorem gt_tupInts {l b : Addr} {pa pb : Array Value} {ns ms : List Int} {Q : Value → Shared → Prop} (hl : IsTup s.heap l pa) (hb : IsTup s.heap b pb) (hi : IntsAre pa.toList ns) (hj : IntsAre pb.toList ms)
    (hu : A.units < cLine) (h : Q (.bool (HT.lexLt ms ns)) s) : wpAny (model prog w) A (compareOp .Gt (.ref l) (.ref b)) Q E s := by
  obtain ⟨⟨cls, dd, data, sl⟩, ho, hc, n, hd⟩ := id hl
  obtain ⟨⟨cls2, dd2, data2, sl2⟩, ho2, hc2, n2, hd2⟩ := id hb
  simp only at hc hd hc2 hd2
  subst hc hd hc2 hd2
  rw [← lexGt_lt] at h
  exact richCompare_meets_room (op := .Gt) ⟨_, ho, rfl⟩ ⟨_, ho2, rfl⟩ PySem.F.slot_tuple_gt PySem.F.entry_tuple_gt (PySem.F.args_tuple_gt_2 _ _) (tuple_gt_ints l b pa pb n n2 dd dd2 sl sl2 ns ms hi hj)
    ⟨ho, ho2, show Value.bool (lexGt ns ms) ≠ Value.notImplemented ∧ Q (.bool (lexGt ns ms)) s from ⟨(fun x => nomatch x), h⟩⟩ hu
end
section
open L2
variable {X : Cx}
theorem isTup_keep {h h' : Heap} {l : Addr} {xs : Array Value} (p : IsTup h l xs) (k : ∀ c o, h.get? c = some o → h'.get? c = some o) : IsTup h' l xs := by
  obtain ⟨o, e, r⟩ := p
  exact ⟨o, k _ _ e, r⟩
/-- min(t, u), max(t, u) of two tuples of ints -/
theorem call_minT (hc : X.calm = true) (hu : X.A.units + 1 < cLine) : CallR X (.builtin "min") (fun xs H Q => ∃ a b ns ms, xs = [.ref a, .ref b] ∧ SqT X.K H a (ns.map V.int) ∧ SqT X.K H b (ms.map V.int) ∧ Q (if HT.lexLt ms ns = true then .ref b else .ref a) H) := by
  intro pins s σ H xs us Q I r h
  obtain ⟨a, b, ns, ms, rfl, ha, hb, q⟩ := h
  obtain ⟨u, w', rfl, r1, r2⟩ := vals2 r
  cases r1
  cases r2
  obtain ⟨its, r1, p1, _⟩ := I.tuple ha
  obtain ⟨its2, r2, p2, _⟩ := I.tuple hb
  refine two_min (bt := HT.lexLt ms ns) (I.ok.hd hc) (fun s' Q' E' k hq => ?_) fun h' tk k => ⟨_, H, I.kept k, ?_, q⟩
  · exact HT.lt_tupInts (A := X.A.in1) (isTup_keep p2 k) (isTup_keep p1 k) (intsAre_of r2) (intsAre_of r1) hu hq
  · cases HT.lexLt ms ns <;> rfl
theorem call_maxT (hc : X.calm = true) (hu : X.A.units + 1 < cLine) : CallR X (.builtin "max") (fun xs H Q => ∃ a b ns ms, xs = [.ref a, .ref b] ∧ SqT X.K H a (ns.map V.int) ∧ SqT X.K H b (ms.map V.int) ∧ Q (if HT.lexLt ns ms = true then .ref b else .ref a) H) := by
  intro pins s σ H xs us Q I r h
  obtain ⟨a, b, ns, ms, rfl, ha, hb, q⟩ := h
  obtain ⟨u, w', rfl, r1, r2⟩ := vals2 r
  cases r1
  cases r2
  obtain ⟨its, r1, p1, _⟩ := I.tuple ha
  obtain ⟨its2, r2, p2, _⟩ := I.tuple hb
  refine two_max (bt := HT.lexLt ns ms) (I.ok.hd hc) (fun s' Q' E' k hq => ?_) fun h' tk k => ⟨_, H, I.kept k, ?_, q⟩
  · exact gt_tupInts (A := X.A.in1) (isTup_keep p2 k) (isTup_keep p1 k) (intsAre_of r2) (intsAre_of r1) hu hq
  · cases HT.lexLt ns ms <;> rfl
end
end BF
namespace BF
open PySem PySem.Spec PyProof.Rows L2
/-! what may stand for a hole: a hole, or something else; and the lines of two such -/
theorem lex2 (x y z w : Int) : HT.lexLt [x, y] [z, w] = (decide (x < z) || (decide (x = z) && decide (y < w))) := by
  show (if x = z then (if y = w then false else decide (y < w)) else decide (x < z)) = _
  by_cases h : x = z
  · rw [if_pos h, decide_eq_true h, decide_eq_false (by omega : ¬ x < z)]
    by_cases k : y = w
    · rw [if_pos k, decide_eq_false (by omega : ¬ y < w)]; rfl
    · rw [if_neg k]; simp
  · rw [if_neg h, decide_eq_false h]; simp
theorem lex_asy {x y z w : Int} (h : HT.lexLt [x, y] [z, w] = true) : HT.lexLt [z, w] [x, y] = false := by
  rw [lex2] at h ⊢
  simp at h ⊢
  omega
end BF
namespace BF
open PySem PySem.Spec PyProof.Rows L2
/-! the eight turnings of a hole -/
def two (H : Hp) (q : Addr) (p : Int × Int) : Prop := H q = some (.tup [.int p.1, .int p.2])
theorem two_dt {H : Hp} {q : Addr} {p : Int × Int} (h : two H q p) : DtIs H (.ref q) (.tup [.int p.1, .int p.2]) := .tup h (.cons (.int _) (.cons (.int _) .nil))
end BF
namespace BF
open PySem PySem.Spec PyProof.Rows L2 PySem.SeqAt
/-! == and != of lists of told data -/
theorem dps_le : ∀ {ds : List Dt} {n : Nat}, (∀ d ∈ ds, d.dp ≤ n) → Dt.dps ds ≤ n
  | [], n, _ => by simp [Dt.dps]
  | d :: ds, n, h => by
    simp only [Dt.dps]
    have := h d List.mem_cons_self
    have := dps_le (ds := ds) fun x hx => h x (List.mem_cons_of_mem _ hx)
    omega
section
variable {X : Cx}
theorem op_eqL {k : Nat} (hr : Room k X.A) : OpR X (compareOp .Eq) (fun x y H Q => ∃ a b xs ys ds es, x = .ref a ∧ y = .ref b ∧ SqL X.K H a xs ∧ SqL X.K H b ys ∧ DtsIs H xs ds ∧ DtsIs H ys es ∧ (∀ d ∈ ds, d.dp ≤ 50) ∧ Q (.bl (Dt.beqs ds es)) H) := by
  intro pins s σ H x y v u Q I rx ry h
  obtain ⟨a, b, xs, ys, ds, es, rfl, rfl, hx, hy, hd, he, h5, q⟩ := h
  have hu := hr.units
  have h5' := dps_le h5
  cases rx
  cases ry
  obtain ⟨its, rv, p, _⟩ := I.list hx
  obtain ⟨its', rv', p', _⟩ := I.list hy
  have n1 : its.toArray.size = ds.length := by rw [List.size_toArray, ← rv.length, hd.length]
  have n2 : its'.toArray.size = es.length := by rw [List.size_toArray, ← rv'.length, he.length]
  have fin : ∀ c, c = Dt.beqs ds es → RcAt X.A s (.ref a) (.ref b) c → wpAny (model X.prog X.w) X.A (richCompare .Eq (.ref a) (.ref b)) (EP X pins σ Q) X.xe s := fun c hc R => by
    subst hc
    exact R X.prog X.w X.xe _ ⟨.bl _, H, I, rfl, q⟩
  by_cases hl : ds.length = es.length
  · have R := RcAt.lists (A := X.A) (s := s) (e := itEq ds es) p.isList p'.isList (by rw [n1, n2, hl]) (by omega) (fun j j1 j2 => eqsAt_D I X.A.in1 hd rv he rv' (by show X.A.units + 1 + _ < _; omega) j _ _ (by simp) (by simp))
    refine fin _ ?_ R
    rw [n1, ← all_itEq, hl, Nat.min_self]
    simp
  · refine fin false ?_ (RcAt.lists_lengths p.isList p'.isList (by rw [n1, n2]; simpa using hl) (by omega))
    rw [← all_itEq]
    simp [hl]
end
theorem Dt.beqs_self (l : List Dt) : Dt.beqs l l = true := (Dt.beqs_iff l l).mpr rfl
/-! pictures: lines with their colours -/
def hD (p : Int × Int) : Dt := .tup [.int p.1, .int p.2]
def hLt (p q : Int × Int) : Bool := HT.lexLt [p.1, p.2] [q.1, q.2]
theorem hLt_iff (p q : Int × Int) : hLt p q = true ↔ p.1 < q.1 ∨ (p.1 = q.1 ∧ p.2 < q.2) := by
  unfold hLt
  rw [lex2]
  simp
theorem hLt_same {p q : Int × Int} (h1 : hLt p q = false) (h2 : hLt q p = false) : p = q := by
  have a : ¬ (p.1 < q.1 ∨ (p.1 = q.1 ∧ p.2 < q.2)) := fun z => by rw [(hLt_iff p q).mpr z] at h1; cases h1
  have b : ¬ (q.1 < p.1 ∨ (q.1 = p.1 ∧ q.2 < p.2)) := fun z => by rw [(hLt_iff q p).mpr z] at h2; cases h2
  obtain ⟨x, y⟩ := p
  obtain ⟨z, w⟩ := q
  simp only at a b
  have e1 : x = z := by omega
  have e2 : y = w := by omega
  rw [e1, e2]
mutual
theorem DtIs.updL {H : Hp} {a : Addr} {xs : List V} {o : HO} (ha : H a = some (.lst xs)) : ∀ {d : Dt} {v : V}, DtIs H v d → DtIs (upd H a o) v d
  | .int i, _, .int _ => .int i
  | .str x, _, .str _ => .str x
  | .tup ds, _, .tup (a := b) e q => .tup (by
      have : b ≠ a := fun z => by rw [z, ha] at e; cases e
      rw [upd_ne this]; exact e) (DtsIs.updL ha q)
theorem DtsIs.updL {H : Hp} {a : Addr} {xs : List V} {o : HO} (ha : H a = some (.lst xs)) : ∀ {ds : List Dt} {vs : List V}, DtsIs H vs ds → DtsIs (upd H a o) vs ds
  | [], _, .nil => .nil
  | d :: ds, _, .cons q t => .cons (DtIs.updL ha q) (DtsIs.updL ha t)
end
end BF
namespace BF
open PySem PySem.Spec PyProof.Rows L2
/-- two roads come together: what follows is asked once -/
theorem laterS {G : Prop} {A : L2.St → Hp → Prop} (C : L2.St → Hp → Prop) (main : (∀ σ H', C σ H' → A σ H') → G) (last : ∀ σ H', C σ H' → A σ H') : G := main last
theorem ifC {c : Bool} {A B : Prop} (a : c = true → A) (b : c = false → B) : if c = true then A else B := by
  cases c with
  | true => exact a rfl
  | false => exact b rfl
theorem same_updN {H H2 : Hp} {L : Addr} {o : HO} (s : Same H H2) (n : H L = none) : Same H (upd H2 L o) := fun b u e => by
  rw [upd_ne (fun z => by rw [z, n] at e; cases e)]
  exact s b u e
theorem DtsIs.snoc {H : Hp} {v : V} {d : Dt} (q : DtIs H v d) : ∀ {ds : List Dt} {vs : List V}, DtsIs H vs ds → DtsIs H (vs ++ [v]) (ds ++ [d])
  | [], _, .nil => .cons q .nil
  | _ :: _, _, .cons a t => .cons a (DtsIs.snoc q t)
def ordP (p q : Int × Int) : (Int × Int) × (Int × Int) := if hLt p q = true then (p, q) else (q, p)
theorem hD_two {H : Hp} {x : Addr} {p : Int × Int} (h : DtIs H (.ref x) (hD p)) : two H x p := by
  cases h with
  | tup e q =>
    cases q with
    | cons a b =>
      cases a
      cases b with
      | cons c d =>
        cases c
        cases d
        exact e
theorem DtsIs.at {H : Hp} : ∀ {ds : List Dt} {vs : List V}, DtsIs H vs ds → ∀ (i : Nat) (v : V), vs[i]? = some v → ∃ d, ds[i]? = some d ∧ DtIs H v d
  | [], _, .nil, i, v, e => by simp at e
  | d :: ds, _, .cons q t, 0, v, e => by simp at e; subst e; exact ⟨d, rfl, q⟩
  | d :: ds, _, .cons q t, i + 1, v, e => by
    simp at e
    obtain ⟨d', a, b⟩ := DtsIs.at t i v e
    exact ⟨d', by simpa using a, b⟩
theorem none_same {H H' : Hp} {l : Addr} (s : Same H H') (n : H' l = none) : H l = none := by
  cases h : H l with
  | none => rfl
  | some u => rw [s _ _ h] at n; cases n
theorem min_max {H : Hp} {x y : Addr} {p q : Int × Int} (hx : two H x p) (hy : two H y q) :
    DtIs H (if hLt q p = true then V.ref y else .ref x) (hD (ordP p q).1) ∧ DtIs H (if hLt p q = true then V.ref y else .ref x) (hD (ordP p q).2) := by
  unfold ordP
  cases h1 : hLt p q with
  | true =>
    have h2 : hLt q p = false := lex_asy h1
    rw [h2]
    exact ⟨two_dt hx, two_dt hy⟩
  | false =>
    cases h2 : hLt q p with
    | true => exact ⟨two_dt hy, two_dt hx⟩
    | false =>
      have := hLt_same h1 h2
      subst this
      exact ⟨two_dt hx, two_dt hx⟩
end BF
namespace BF
open PySem PySem.Spec PyProof.Rows L2
/-! x[::-1] of a tuple or a list; for over a zip -/
section
variable {prog : Program} {w : World} {A : Around} {E : Value → Shared → Prop} {s : Shared}
theorem adjust_rev (n : Nat) : Builtin.Slice.sliceAdjust none none (-1) (n : Int) = ((n : Int) - 1, -1) := by
  unfold Builtin.Slice.sliceAdjust
  have h1 : ((-1 : Int) < 0) := by omega
  simp only [h1, if_true]
theorem places_rev (n : Nat) : Builtin.Slice.slicePlaces ((n : Int) - 1) (-1) (-1) = n := by
  unfold Builtin.Slice.slicePlaces
  have h1 : ¬ ((-1 : Int) > 0) := by omega
  simp only [h1, if_false]
  have e : (- -1 : Int) = 1 := by omega
  simp only [e, Int.ediv_one]
  split <;> omega
theorem applied_rev {sl : Addr} {t : Tok} {n : Nat} {Q : Int × Int × Nat → Shared → Prop} (hs : s.heap.IsSliceOf sl .none .none (.int (-1) t))
    (h : Q ((n : Int) - 1, -1, n) s) : wpAny (model prog w) A (Builtin.Slice.sliceApplied (.ref sl) (pure (n : Int))) Q E s := by
  obtain ⟨os, hos, hcs, hds⟩ := id hs
  unfold Builtin.Slice.sliceApplied Builtin.Slice.sliceFields
  refine wpAny_bind (wpAny_bind (wpAny_field hos hds (x := .none) rfl (wpAny_bind (wpAny_field hos hds (x := .none) rfl (wpAny_bind (wpAny_field hos hds (x := .int (-1) t) rfl (wpAny_pure ?_)))))))
  refine wpAny_bind (HT.slicePart_ (.int (-1) t) ?_)
  show wpAny _ _ (if ((-1 : Int) == 0) = true then _ else _) _ _ s
  rw [if_neg (by decide)]
  refine wpAny_bind (HT.slicePart_ .none (wpAny_bind (HT.slicePart_ .none (wpAny_bind (wpAny_pure ?_)))))
  show wpAny _ _ (match Builtin.Slice.sliceAdjust none none (-1) (n : Int) with | (lo, hi) => pure (lo, (-1 : Int), Builtin.Slice.slicePlaces lo hi (-1))) _ _ s
  rw [adjust_rev n]
  show wpAny _ _ (pure ((n : Int) - 1, (-1 : Int), Builtin.Slice.slicePlaces ((n : Int) - 1) (-1) (-1))) _ _ s
  rw [places_rev]
  exact wpAny_pure h
theorem pick_rev (xs : Array Value) : ((List.range xs.size).filterMap fun (m : Nat) => xs[((xs.size : Int) - 1 + (m : Int) * (-1)).toNat]?).toArray = xs.toList.reverse.toArray := by
  have e : (fun (m : Nat) => xs[((xs.size : Int) - 1 + (m : Int) * (-1)).toNat]?) = (fun k => xs[k]?) ∘ fun (m : Nat) => ((xs.size : Int) - 1 - (m : Int)).toNat := by
    funext m
    show xs[((xs.size : Int) - 1 + (m : Int) * (-1)).toNat]? = xs[((xs.size : Int) - 1 - m).toNat]?
    congr 1
    omega
  rw [e, ← List.filterMap_map]
  have e2 : (List.range xs.size).map (fun (m : Nat) => ((xs.size : Int) - 1 - (m : Int)).toNat) = (List.range xs.size).reverse := by
    rw [← PySem.W.krv_range]
    apply List.map_congr_left
    intro k hk
    have := List.mem_range.mp hk
    omega
  rw [e2, List.filterMap_reverse, PySem.W.krv_all]
theorem tuple_rev {t sl : Addr} {items : Array Value} {tk : Tok} {Q : Value → Shared → Prop} (ht : IsTup s.heap t items) (hs : s.heap.IsSliceOf sl .none .none (.int (-1) tk))
    (h : Q (.ref s.heap.objs.size) { s with heap := s.heap.push { cls := .type "tuple", data := .seq items.toList.reverse.toArray } })
    (hsz : items.size ≤ sizeLine) : wpAny (model prog w) A (getItem (.ref t) (.ref sl)) Q E s := by
  have hfit : sizeOk (.seq items.toList.reverse.toArray) := by
    show items.toList.reverse.toArray.size ≤ sizeLine
    rw [List.size_toArray, List.length_reverse, Array.length_toList]
    exact hsz
  obtain ⟨os, hos, hcs, hds⟩ := id hs
  have hTs : s.TypeIs (.ref sl) "slice" := ⟨os, hos, hcs⟩
  unfold getItem; try with_reducible refine wpAny_holding ?_
  first | refine wpAny_bind (wpAny_pure ?_) | skip
  refine wpAny_bind (wpAny_sequenceKey ht.typeIs (by decide) (wpAny_bind (wpAny_callSpecial?_slot (name := Str.ofString "__getitem__") ht.typeIs PyProof.Rows.slot_tuple_getitem (wpAny_call_entry PyProof.Rows.slot_tuple_getitem ht.typeIs entry_tuple_getitem ?_ (args_tuple_getitem _ _)))))
  show wpAny _ _ (Builtin.Tuple.tupleItemsOf (.ref t) >>= _) _ _ s
  refine wpAny_bind (tupleItemsOf_ ht (wpAny_bind (wpAny_typeOf hTs ?_)))
  rw [if_pos (by decide)]
  refine wpAny_bind (applied_rev hs ?_)
  have hno : ¬ ((((items.size : Int) - 1) == 0 && (-1 : Int) == 1 && items.size == items.size) = true) := by
    rw [show ((-1 : Int) == 1) = false from rfl, Bool.and_false, Bool.false_and]
    exact Bool.false_ne_true
  show wpAny _ _ (if (((items.size : Int) - 1) == 0 && (-1 : Int) == 1 && items.size == items.size) = true then _ else _) _ _ s
  rw [if_neg hno, pick_rev]
  first
    | exact wpAny_bind (m := Builtin.Tuple.tupleExact _) (wpAny_newObj_type (wpAny_pure ⟨_, rfl, wpAny_pure h⟩) hfit)
    | exact wpAny_bind (m := Builtin.Tuple.tupleExact _) (wpAny_newObj_type (wpAny_bind (wpAny_pure (wpAny_pure ⟨_, rfl, wpAny_pure h⟩))) hfit)
    | exact wpAny_bind (wpAny_bind (m := Builtin.Tuple.tupleExact _) (wpAny_newObj_type (wpAny_pure (wpAny_pure ⟨_, rfl, wpAny_pure h⟩)) hfit))
    | exact wpAny_bind (wpAny_bind (m := Builtin.Tuple.tupleExact _) (wpAny_newObj_type (wpAny_pure ⟨_, rfl, wpAny_pure h⟩) hfit))
end
section
variable {X : Cx} {e st : Expr} {te ts : TE} {p2 pos : Pos}
theorem vals_rev {xs : List V} {us : List Value} (r : Vals xs us) : Vals xs.reverse us.reverse := by
  induction r with
  | nil => exact .nil
  | cons a _ ih => rw [List.reverse_cons, List.reverse_cons]; exact ih.append (.cons a .nil)
/-- x[::-1]: what is told of x by its value -/
def RvR (X : Cx) (r : V → Hp → VK → Prop) : Prop :=
  ∀ (pins : List (Addr × Obj)) (s : Shared) (σ : L2.St) (H : Hp) (x : V) (v : Value) (t : Tok) (sl : Addr) (Q : VK), Inv X pins σ H s → RelV x v → s.heap.IsSliceOf sl .none .none (.int (-1) t) → r x H Q →
    ∃ T id, typeLookup (.type T) "__getitem__" = pure (some (.builtin id)) ∧ s.TypeIs v T ∧ wpAny (model X.prog X.w) X.A (getItem v (.ref sl)) (EP X pins σ Q) X.xe s
def tRev (r : V → Hp → VK → Prop) (te ts : TE) : TE := fun σ H Q => te σ H fun x H1 => ts σ H1 fun y H2 => y = .int (-1) ∧ r x H2 Q
theorem pe_rev {r : V → Hp → VK → Prop} (hr : RvR X r) (he : PE X e te) (hs : PE X st ts) : PE X (.Subscript e (.Slice none none (some st) p2) pos) (tRev r te ts) := by
  intro pins s σ H Q I h
  refine Subscript_ (thn (he pins s σ H _ I h) fun v s1 ⟨x, H1, I1, r1, q1⟩ => ?_)
  refine wpAny_Slice ?_
  rw [evalPart_none, evalPart_some]
  refine wpAny_pure (wpAny_pure (thn (hs pins s1 σ H1 _ I1 q1) fun vk s3 ⟨y, H3, I3, r3, ey, q3⟩ => ?_))
  subst ey
  obtain ⟨t, rfl⟩ := r3
  have I4 : Inv X pins σ H3 { s3 with heap := s3.heap.push { cls := .type "slice", data := .fields #[.none, .none, .int (-1) t] } } := I3.kept (t' := s3.toks) fun b ob q => Heap.get?_push_of_some _ q
  obtain ⟨T, id, hT, ht, hg⟩ := hr pins { s3 with heap := s3.heap.push { cls := .type "slice", data := .fields #[.none, .none, .int (-1) t] } } σ H3 x v t s3.heap.objs.size Q I4 r1 (Heap.IsSliceOf.new ..) q3
  show wpAny (model X.prog X.w) X.A (subscriptTail e (.Slice none none (some st) p2) v (.ref s3.heap.objs.size)) (EP X pins σ Q) X.xe { s3 with heap := s3.heap.push { cls := .type "slice", data := .fields #[.none, .none, .int (-1) t] } }
  exact tail_any (ops := [v, .ref s3.heap.objs.size]) ht hT hg (by with_unfolding_all rfl)
theorem rv_tup : RvR X (fun x H Q => ∃ a xs, x = .ref a ∧ SqT X.K H a xs ∧ ∀ p, H p = none → Q (.ref p) (upd H p (.tup xs.reverse))) := by
  intro pins s σ H x v t sl Q I rx hs h
  obtain ⟨a, xs, rfl, hx, q⟩ := h
  cases rx
  obtain ⟨its, r, ht, hz⟩ := I.tuple hx
  have hlen : its.toArray.size = xs.length := by rw [List.size_toArray]; exact r.length.symm
  refine ⟨"tuple", _, PyProof.Rows.slot_tuple_getitem.lookup, ht.typeIs, ?_⟩
  refine tuple_rev ht hs ?_ (by rw [hlen]; exact hz)
  refine ⟨.ref s.heap.objs.size, _, I.laid (t' := s.toks) (o := .tup xs.reverse) (fun b ob q => Heap.get?_push_of_some _ q) (Nat.le_refl _) ?_, rfl, q _ (I.hok.fresh (Nat.le_refl _))⟩
  exact ⟨by rw [List.length_reverse]; exact hz, _, vals_rev r, IsTup.new _ _⟩
theorem rv_lst : RvR X (fun x H Q => ∃ a xs, x = .ref a ∧ SqL X.K H a xs ∧ ∀ p, H p = none → Q (.ref p) (upd H p (.lst xs.reverse))) := by
  intro pins s σ H x v t sl Q I rx hs h
  obtain ⟨a, xs, rfl, hx, q⟩ := h
  cases rx
  obtain ⟨its, r, ht, hz⟩ := I.list hx
  have hlen := r.length
  refine ⟨"list", _, slot_list_getitem.lookup, ht.isList.typeIs, ?_⟩
  refine wpAny_getItem_list_slice ht.isList hs .none .none (.int (-1) t) (by decide) ?_ (by rw [List.size_toArray] <;> omega)
  rw [PySem.W.krv_pick]
  refine ⟨.ref s.heap.objs.size, _, I.laid (t' := s.toks) (o := .lst xs.reverse) (fun b ob q => Heap.get?_push_of_some _ q) (Nat.le_refl _) ?_, rfl, q _ (I.hok.fresh (Nat.le_refl _))⟩
  exact ⟨by rw [List.length_reverse]; exact hz, _, 0, vals_rev r, Heap.get?_push_size _ rfl⟩
end
end BF
namespace BF
open PySem PySem.Spec PyProof.Rows L2
/-! threads: holes one behind the other -/
def thN (c : Int) : Int := c * 48271 % 2147483629
def thE (n : Int) : Int := if n / 9 % 6 = 1 then n / 64 % 19 - 9 else n % 3 - 1
def thM (n : Int) : Int := if n / 9 % 6 = 1 then n / 1216 % 19 - 9 else n / 3 % 3 - 1
def thO (n : Int) : Int := if thE n = 0 ∧ thM n = 0 then 1 else thM n
def thX (p : Int × Int) (f n : Int) : Int := if 12 < (if p.1 + thE n - f < 0 then -(p.1 + thE n - f) else p.1 + thE n - f) then 0 - thE n else thE n
def thY (p : Int × Int) (f n : Int) : Int := if 12 < (if p.2 + thO n + f < 0 then -(p.2 + thO n + f) else p.2 + thO n + f) then 0 - thO n else thO n
def thB (p : Int × Int) (c f : Int) : Int × Int := (p.1 + thX p f (thN c), p.2 + thY p f (thN c))
def ThIn (f : Int) (p : Int × Int) : Prop := -12 ≤ p.1 - f ∧ p.1 - f ≤ 12 ∧ -12 ≤ p.2 + f ∧ p.2 + f ≤ 12
def ThNx (p q : Int × Int) : Prop := (p.1 ≠ q.1 ∨ p.2 ≠ q.2) ∧ -9 ≤ p.1 - q.1 ∧ p.1 - q.1 ≤ 9 ∧ -9 ≤ p.2 - q.2 ∧ p.2 - q.2 ≤ 9
theorem thE_le (n : Int) : -9 ≤ thE n ∧ thE n ≤ 9 := by
  unfold thE
  split <;> omega
theorem thO_le (n : Int) : -9 ≤ thO n ∧ thO n ≤ 9 := by
  unfold thO thM
  split
  · omega
  · split <;> omega
theorem th_some (n : Int) : thE n ≠ 0 ∨ thO n ≠ 0 := by
  unfold thO
  split
  · exact .inr (by omega)
  · rename_i h
    by_cases e : thE n = 0
    · exact .inr fun z => h ⟨e, z⟩
    · exact .inl e
theorem thB_in {p : Int × Int} {f : Int} (h : ThIn f p) (c : Int) : ThIn f (thB p c f) ∧ ThNx p (thB p c f) := by
  obtain ⟨h1, h2, h3, h4⟩ := h
  have he := thE_le (thN c)
  have ho := thO_le (thN c)
  have hs := th_some (thN c)
  have hx : thX p f (thN c) = thE (thN c) ∧ -12 ≤ p.1 + thE (thN c) - f ∧ p.1 + thE (thN c) - f ≤ 12 ∨ thX p f (thN c) = - thE (thN c) ∧ (12 < p.1 + thE (thN c) - f ∨ p.1 + thE (thN c) - f < -12) := by
    unfold thX
    by_cases hc : 12 < (if p.1 + thE (thN c) - f < 0 then -(p.1 + thE (thN c) - f) else p.1 + thE (thN c) - f)
    · rw [if_pos hc]
      right
      refine ⟨by omega, ?_⟩
      split at hc <;> omega
    · rw [if_neg hc]
      left
      refine ⟨rfl, ?_⟩
      split at hc <;> omega
  have hy : thY p f (thN c) = thO (thN c) ∧ -12 ≤ p.2 + thO (thN c) + f ∧ p.2 + thO (thN c) + f ≤ 12 ∨ thY p f (thN c) = - thO (thN c) ∧ (12 < p.2 + thO (thN c) + f ∨ p.2 + thO (thN c) + f < -12) := by
    unfold thY
    by_cases hc : 12 < (if p.2 + thO (thN c) + f < 0 then -(p.2 + thO (thN c) + f) else p.2 + thO (thN c) + f)
    · rw [if_pos hc]
      right
      refine ⟨by omega, ?_⟩
      split at hc <;> omega
    · rw [if_neg hc]
      left
      refine ⟨rfl, ?_⟩
      split at hc <;> omega
  revert hx hy he ho hs
  show _ → _ → _ → _ → _ → (-12 ≤ p.1 + thX p f (thN c) - f ∧ p.1 + thX p f (thN c) - f ≤ 12 ∧ -12 ≤ p.2 + thY p f (thN c) + f ∧ p.2 + thY p f (thN c) + f ≤ 12) ∧
    ((p.1 ≠ p.1 + thX p f (thN c) ∨ p.2 ≠ p.2 + thY p f (thN c)) ∧ -9 ≤ p.1 - (p.1 + thX p f (thN c)) ∧ p.1 - (p.1 + thX p f (thN c)) ≤ 9 ∧ -9 ≤ p.2 - (p.2 + thY p f (thN c)) ∧ p.2 - (p.2 + thY p f (thN c)) ≤ 9)
  generalize thX p f (thN c) = X
  generalize thY p f (thN c) = Y
  generalize thE (thN c) = e
  generalize thO (thN c) = o
  generalize p.1 = a at *
  generalize p.2 = b at *
  intro he ho hs hx hy
  rcases hx with ⟨rfl, hx⟩ | ⟨rfl, hx⟩ <;> rcases hy with ⟨rfl, hy⟩ | ⟨rfl, hy⟩ <;> refine ⟨⟨?_, ?_, ?_, ?_⟩, ⟨?_, ?_, ?_, ?_, ?_⟩⟩ <;> omega
/-- a row of holes at l: near (f, -f), each a way from the one ahead -/
def ThL (H : Hp) (l : Addr) (hs : List (Int × Int)) : Prop := ∃ vs, H l = some (.lst vs) ∧ DtsIs H vs (hs.map hD)
theorem ThL.same {H H' : Hp} {l : Addr} {hs : List (Int × Int)} (h : ThL H l hs) (s : Same H H') : ThL H' l hs := by
  obtain ⟨vs, e, d⟩ := h
  exact ⟨vs, s _ _ e, d.same s⟩
def ThOk (f : Int) (hs : List (Int × Int)) : Prop := (∀ p ∈ hs, ThIn f p) ∧ ∀ (i : Nat) p q, hs[i]? = some p → hs[i + 1]? = some q → ThNx p q
theorem ThOk.snoc {f : Int} {hs : List (Int × Int)} {p q : Int × Int} (h : ThOk f (hs ++ [p])) (hq : ThIn f q) (n : ThNx p q) : ThOk f (hs ++ [p] ++ [q]) := by
  refine ⟨fun r hr => ?_, fun i a b ha hb => ?_⟩
  · rcases List.mem_append.mp hr with hr | hr
    · exact h.1 r hr
    · rw [List.mem_singleton.mp hr]; exact hq
  · by_cases hi : i + 1 < (hs ++ [p]).length
    · rw [List.getElem?_append_left (by omega)] at ha
      rw [List.getElem?_append_left hi] at hb
      exact h.2 i a b ha hb
    · have hl : (hs ++ [p]).length = hs.length + 1 := by simp
      have hb' := (List.getElem?_eq_some_iff.mp hb).1
      have hl2 : (hs ++ [p] ++ [q]).length = hs.length + 2 := by simp
      have e : i = hs.length := by omega
      subst e
      have e1 : a = p := by
        rw [List.append_assoc, List.getElem?_append_right (Nat.le_refl _)] at ha
        simp at ha
        exact ha.symm
      have e2 : b = q := by
        rw [List.getElem?_append_right (by omega)] at hb
        simp at hb
        exact hb.symm
      rw [e1, e2]
      exact n
end BF
namespace BF
open PySem PySem.Spec PyProof.Rows L2
/-! stitches -/
def fN (k : Nat) : Str := if k % 2 = 0 then "front" else "back"
theorem fN_0 {k : Nat} (h : k % 2 = 0) : fN k = "front" := if_pos h
theorem fN_1 {k : Nat} (h : ¬ k % 2 = 0) : fN k = "back" := if_neg h
theorem fN_mod {j k : Nat} (h : j % 2 = k % 2) : fN j = fN k := by unfold fN; rw [h]
def stD (f : Nat) (p q : Int × Int) : Dt := .tup [.str (fN f), .tup [hD (ordP p q).1, hD (ordP p q).2]]
def stL (f : Nat) (hs : List (Int × Int)) : List Dt := (List.range (hs.length - 1)).map fun i => stD (f + i) (hs.getD i (0, 0)) (hs.getD (i + 1) (0, 0))
theorem stL_len (f : Nat) (hs : List (Int × Int)) : (stL f hs).length = hs.length - 1 := by simp [stL]
theorem stL_at {f : Nat} {hs : List (Int × Int)} {i : Nat} {p q : Int × Int} (hp : hs[i]? = some p) (hq : hs[i + 1]? = some q) : (stL f hs)[i]? = some (stD (f + i) p q) := by
  have h1 := (List.getElem?_eq_some_iff.mp hq).1
  unfold stL
  rw [List.getElem?_map, List.getElem?_range (by omega)]
  show some (stD (f + i) (hs.getD i (0, 0)) (hs.getD (i + 1) (0, 0))) = _
  rw [List.getD_eq_getElem?_getD, List.getD_eq_getElem?_getD, hp, hq]
  rfl
theorem stL_take {f : Nat} {hs : List (Int × Int)} {i : Nat} {p q : Int × Int} (hp : hs[i]? = some p) (hq : hs[i + 1]? = some q) : (stL f hs).take (i + 1) = (stL f hs).take i ++ [stD (f + i) p q] := by
  rw [List.take_add_one, stL_at hp hq]
  rfl
theorem stL_all (f : Nat) (hs : List (Int × Int)) : (stL f hs).take (hs.length - 1) = stL f hs := by
  rw [List.take_of_length_le]
  rw [stL_len]
  exact Nat.le_refl _
theorem ordP_comm (p q : Int × Int) : ordP p q = ordP q p := by
  unfold ordP
  cases h1 : hLt p q with
  | true =>
    have h2 : hLt q p = false := lex_asy h1
    rw [h2]
    rfl
  | false =>
    cases h2 : hLt q p with
    | true => rfl
    | false =>
      have := hLt_same h1 h2
      subst this
      rfl
theorem stL_rev {f : Nat} {hs : List (Int × Int)} (h2 : 2 ≤ hs.length) : stL (f + (hs.length - 2)) hs.reverse = (stL f hs).reverse := by
  apply List.ext_getElem?
  intro i
  by_cases hi : i < hs.length - 1
  · have e1 : hs.reverse[i]? = some (hs[hs.length - 1 - i]) := by
      rw [List.getElem?_reverse (by omega), List.getElem?_eq_getElem]
    have e2 : hs.reverse[i + 1]? = some (hs[hs.length - 1 - (i + 1)]) := by
      rw [List.getElem?_reverse (by omega), List.getElem?_eq_getElem]
    rw [stL_at e1 e2]
    have e3 : (stL f hs)[hs.length - 2 - i]? = some (stD (f + (hs.length - 2 - i)) hs[hs.length - 1 - (i + 1)] hs[hs.length - 1 - i]) := by
      refine stL_at ?_ ?_
      · rw [List.getElem?_eq_getElem (by omega)]
        congr 1
        congr 1
        omega
      · rw [List.getElem?_eq_getElem (by omega)]
        congr 1
        congr 1
        omega
    rw [List.getElem?_reverse (by rw [stL_len]; exact hi), stL_len]
    have e4 : hs.length - 1 - 1 - i = hs.length - 2 - i := by omega
    rw [e4, e3]
    unfold stD
    rw [ordP_comm, fN_mod (j := f + (hs.length - 2) + i) (k := f + (hs.length - 2 - i)) (by omega)]
  · rw [List.getElem?_eq_none (by rw [stL_len, List.length_reverse]; omega), List.getElem?_eq_none (by rw [List.length_reverse, stL_len]; omega)]
def ThT (H : Hp) (t : Addr) (hs : List (Int × Int)) : Prop := ∃ vs, H t = some (.tup vs) ∧ DtsIs H vs (hs.map hD)
theorem ThT.same {H H' : Hp} {l : Addr} {hs : List (Int × Int)} (h : ThT H l hs) (s : Same H H') : ThT H' l hs := by
  obtain ⟨vs, e, d⟩ := h
  exact ⟨vs, s _ _ e, d.same s⟩
theorem ThT.dt {H : Hp} {l : Addr} {hs : List (Int × Int)} (h : ThT H l hs) : DtIs H (.ref l) (.tup (hs.map hD)) := by
  obtain ⟨vs, e, d⟩ := h
  exact .tup e d
def DtL (H : Hp) (l : Addr) (ds : List Dt) : Prop := ∃ vs, H l = some (.lst vs) ∧ DtsIs H vs ds
theorem DtL.same {H H' : Hp} {l : Addr} {ds : List Dt} (h : DtL H l ds) (s : Same H H') : DtL H' l ds := by
  obtain ⟨vs, e, d⟩ := h
  exact ⟨vs, s _ _ e, d.same s⟩
/-- the i-th hole of a row of holes -/
theorem th_at {H : Hp} {vs : List V} {hs : List (Int × Int)} (h : DtsIs H vs (hs.map hD)) {i : Nat} {v : V} (e : vs[i]? = some v) : ∃ q p, v = .ref q ∧ hs[i]? = some p ∧ two H q p := by
  obtain ⟨d, ed, dv⟩ := h.at i v e
  rw [List.getElem?_map] at ed
  cases hp : hs[i]? with
  | none => rw [hp] at ed; cases ed
  | some p =>
    rw [hp] at ed
    cases ed
    obtain ⟨q, rfl⟩ : ∃ q, v = .ref q := by cases dv; exact ⟨_, rfl⟩
    exact ⟨q, p, rfl, rfl, hD_two dv⟩
theorem DtsIs.rev {H : Hp} : ∀ {ds : List Dt} {vs : List V}, DtsIs H vs ds → DtsIs H vs.reverse ds.reverse
  | [], _, .nil => .nil
  | d :: ds, _, .cons q t => by
    rw [List.reverse_cons, List.reverse_cons]
    exact (DtsIs.rev t).snoc q
theorem hD_dp (p : Int × Int) : (hD p).dp ≤ 1 := by simp [hD, Dt.dp, Dt.dps]
theorem th_dps (hs : List (Int × Int)) : Dt.dps (hs.map hD) ≤ 1 := dps_le fun d hd => by
  obtain ⟨p, _, rfl⟩ := List.mem_map.mp hd
  exact hD_dp p
theorem stD_dp (f : Nat) (p q : Int × Int) : (stD f p q).dp ≤ 50 := by simp [stD, hD, Dt.dp, Dt.dps]
theorem thread_dp (f : Nat) (hs : List (Int × Int)) : (Dt.tup [.str (fN f), .tup (hs.map hD)]).dp ≤ 60 := by
  have := th_dps hs
  simp only [Dt.dp, Dt.dps]
  omega
theorem stD_at {H : Hp} {v : V} {f : Nat} {p q : Int × Int} (h : DtIs H v (stD f p q)) : ∃ r x xs, v = .ref r ∧ H r = some (.tup [.str (fN f), .ref x]) ∧ H x = some (.tup xs) := by
  unfold stD at h
  cases h with
  | tup e h1 =>
    cases h1 with
    | cons a r1 =>
      cases a
      cases r1 with
      | cons b r2 =>
        cases r2
        cases b with
        | tup e' _ => exact ⟨_, _, _, rfl, e, e'⟩
theorem stL_mem {f : Nat} {hs : List (Int × Int)} {d : Dt} (h : d ∈ stL f hs) : ∃ j p q, d = stD j p q := by
  obtain ⟨i, _, rfl⟩ := List.mem_map.mp h
  exact ⟨_, _, _, rfl⟩
end BF
namespace K42
open PySem PySem.Spec PyProof.Rows L2 BF
def top (i : Nat) : Stmt := PySem.Challenge.pw_bothfaces_k42_stitches.main.body.getD i (.Pass ⟨0, 0, 0, 0⟩)
abbrev sOrd : Stmt := top 1
abbrev sOther : Stmt := top 3
abbrev sAt : Stmt := top 4
abbrev sStitch : Stmt := top 5
abbrev sAbout : Stmt := top 6
abbrev sCell : Stmt := top 8
abbrev sBehind : Stmt := top 9
abbrev sFar : Stmt := top 10
abbrev sHoles : Stmt := top 11
abbrev sLStitch : Stmt := top 12
abbrev sIsThread : Stmt := top 13
abbrev sRow : Stmt := top 14
abbrev sLaw : Stmt := top 15
end K42
namespace K42
open PySem PySem.Spec PyProof.Rows L2 BF
seal L2.PE L2.PA L2.PS L2.PSs L2.PT L2.PW L2.PG L2.PI BF.PTs L2.PO
section
variable {P : Program} {w : World} {K : PySem.W.Frag} {mg : Str → Option Value} {base : Heap}
def spCell (K : PySem.W.Frag) : Sp := fun vs H Q _ => ∃ (a : Addr) (ns : List Int) (k : Nat), vs = [.ref a, .int k] ∧ SqL K H a (ns.map V.int) ∧ ∀ c, Q (.int c) H
theorem scCell : FnScope ["_law_script", "_law_k"] ["_law_script", "_law_k"] (defScope sCell) := ⟨rfl, rfl, rfl, by decide +kernel, rfl, by decide +kernel, by decide +kernel⟩
theorem ok_cell {f : Addr} {fd : FuncData} (D : Df K mg "_law_cell_at" sCell f fd) (hlen : mg "len" = none) : FnOk P w K mg base CX0 1 f fd ["_law_script", "_law_k"] (spCell K) := by
  refine D.F.ok scCell (fun vs H Q E h => ?_) (fun cdv A outer s H vs Q E hr h => ?_)
  · obtain ⟨a, ns, k, rfl, _⟩ := h
    rfl
  · obtain ⟨a, ns, k, rfl, hS, q⟩ := h
    refine ⟨_, pss_cons (ps_if (pt_cmpR op_lt (pv 1) (pe_callB call_len_seq (by rfl) hlen PySem.boot_len (pac (pv 0) pa_nil)) (nomark _)) (pss_one (ps_ret (pe_ix ix_list (pv 0) (pv 1) (fun _ _ => rfl)))) pss_nil) (pss_one (ps_ret pe_int)), ?_⟩
    refine ⟨_, rfl, _, rfl, a, _, rfl, .inl hS, _, _, rfl, rfl, _, rfl, ?_⟩
    rw [List.length_map]
    by_cases hk : (k : Int) < (ns.length : Int)
    · refine ifD_pos hk ?_
      obtain ⟨c, hc, hm⟩ := atI_of (xs := ns.map V.int) (m := (k : Int)) (by omega) (by rw [List.length_map]; exact hk)
      obtain ⟨z, _, rfl⟩ := List.mem_map.mp hm
      exact ⟨_, rfl, _, rfl, a, _, _, _, rfl, rfl, hS, hc, q z⟩
    · exact ifD_neg hk (q 0)

def spBehind : Sp := fun vs H Q _ => ∃ (q : Addr) (p : Int × Int) (c f : Int), vs = [.ref q, .int c, .int f] ∧ two H q p ∧ ∀ r H', Same H H' → two H' r (thB p c f) → Q (.ref r) H'
theorem scBehind : FnScope ["_law_hole", "_law_cell", "_law_far_here", "_law_number", "_law_east", "_law_north"] ["_law_hole", "_law_cell", "_law_far_here"] (defScope sBehind) := ⟨rfl, rfl, rfl, by decide +kernel, rfl, by decide +kernel, by decide +kernel⟩
theorem ok_behind {f : Addr} {fd : FuncData} (D : Df K mg "_law_hole_behind" sBehind f fd) (habs : mg "abs" = none) : FnOk P w K mg base CX0 1 f fd ["_law_hole", "_law_cell", "_law_far_here"] spBehind := by
  refine D.F.ok scBehind (fun vs H Q E h => ?_) (fun cdv A outer s H vs Q E hr h => ?_)
  · obtain ⟨q, p, c, f, rfl, _⟩ := h
    rfl
  · obtain ⟨q, p, c, f, rfl, hq, z⟩ := h
    refine ⟨_, (pss_cons (ps_set (i := 3) scBehind.nd rfl (Or.inl rfl) (pe_op op_mod (pe_op op_mul (pv 1) pe_int) pe_int))
      (pss_cons (ps_set (i := 4) scBehind.nd rfl (Or.inl rfl) (pe_op op_sub (pe_op op_mod (pv 3) pe_int) pe_int))
      (pss_cons (ps_set (i := 5) scBehind.nd rfl (Or.inl rfl) (pe_op op_sub (pe_op op_mod (pe_op op_fdiv (pv 3) pe_int) pe_int) pe_int))
      (pss_cons (ps_if (pt_cmpR op_eq (pe_op op_mod (pe_op op_fdiv (pv 3) pe_int) pe_int) pe_int (nomark _)) (pss_cons (ps_set (i := 4) scBehind.nd rfl (Or.inl rfl) (pe_op op_sub (pe_op op_mod (pe_op op_fdiv (pv 3) pe_int) pe_int) pe_int))
      (pss_one (ps_set (i := 5) scBehind.nd rfl (Or.inl rfl) (pe_op op_sub (pe_op op_mod (pe_op op_fdiv (pv 3) pe_int) pe_int) pe_int)))) pss_nil)
      (pss_cons (ps_if (PW.pt (pw_and (pt_cmpR op_eq (pv 4) pe_int (nomark _)) (pw_and1 (pt_cmpR op_eq (pv 5) pe_int (nomark _))))) (pss_one (ps_set (i := 5) scBehind.nd rfl (Or.inl rfl) pe_int)) pss_nil)
      (pss_cons (ps_if (pt_cmpR op_gt (pe_callB call_abs (by rfl) habs boot_abs (pac (pe_op op_sub (pe_op op_add (pe_ix ix_tup (pv 0) pe_int (fun _ _ => rfl)) (pv 4)) (pv 2)) pa_nil)) pe_int (nomark _)) (pss_one (ps_set (i := 4) scBehind.nd rfl (Or.inl rfl) (pe_op op_sub pe_int (pv 4)))) pss_nil)
      (pss_cons (ps_if (pt_cmpR op_gt (pe_callB call_abs (by rfl) habs boot_abs (pac (pe_op op_add (pe_op op_add (pe_ix ix_tup (pv 0) pe_int (fun _ _ => rfl)) (pv 5)) (pv 2)) pa_nil)) pe_int (nomark _)) (pss_one (ps_set (i := 5) scBehind.nd rfl (Or.inl rfl) (pe_op op_sub pe_int (pv 5)))) pss_nil)
      (pss_one (ps_ret (pe_tup (pac (pe_op op_add (pe_ix ix_tup (pv 0) pe_int (fun _ _ => rfl)) (pv 4)) (pac (pe_op op_add (pe_ix ix_tup (pv 0) pe_int (fun _ _ => rfl)) (pv 5)) pa_nil)))))))))))), ?_⟩
    refine ⟨_, rfl, _, _, rfl, rfl, cmulR (by decide) (by decide), _, _, rfl, rfl, (by show (0 : Int) < _; decide), ?_⟩
    refine ⟨_, rfl, _, _, rfl, rfl, (by show (0 : Int) < _; decide), _, _, rfl, rfl, ?_⟩
    refine ⟨_, rfl, _, _, rfl, rfl, ⟨by decide, by decide⟩, _, _, rfl, rfl, (by show (0 : Int) < _; decide), _, _, rfl, rfl, ?_⟩
    refine' laterS (fun σ H2 => σ = [some (.ref q), some (.int c), some (.int f), some (.int (thN c)), some (.int (thE (thN c))), some (.int (thM (thN c)))] ∧ H2 = H) (fun fin => _) _
    rotate_left
    · refine ⟨_, rfl, _, _, rfl, rfl, ⟨by decide, by decide⟩, _, _, rfl, rfl, (by show (0 : Int) < _; decide), rfl, _, rfl, ?_⟩
      by_cases h1 : thN c / 9 % 6 = 1
      · refine ifI_pos h1 ?_
        refine ⟨_, rfl, _, _, rfl, rfl, ⟨by decide, by decide⟩, _, _, rfl, rfl, (by show (0 : Int) < _; decide), _, _, rfl, rfl, ?_⟩
        refine ⟨_, rfl, _, _, rfl, rfl, ⟨by decide, by decide⟩, _, _, rfl, rfl, (by show (0 : Int) < _; decide), _, _, rfl, rfl, ?_⟩
        exact fin _ _ ⟨by unfold thE thM; rw [if_pos h1, if_pos h1]; rfl, rfl⟩
      · refine ifI_neg h1 ?_
        exact fin _ _ ⟨by unfold thE thM; rw [if_neg h1, if_neg h1]; rfl, rfl⟩
    · rintro σ H2 ⟨rfl, rfl⟩
      refine' laterS (fun σ H2' => σ = [some (.ref q), some (.int c), some (.int f), some (.int (thN c)), some (.int (thE (thN c))), some (.int (thO (thN c)))] ∧ H2' = H2) (fun fin => _) _
      rotate_left
      · refine ⟨_, rfl, rfl, _, rfl, ?_⟩
        by_cases h1 : thE (thN c) = 0
        rotate_left
        · refine ifI_neg h1 (iteF ?_)
          exact fin _ _ ⟨by unfold thO; rw [if_neg (fun z => h1 z.1)], rfl⟩
        · refine ifI_pos h1 ⟨_, rfl, rfl, _, rfl, ?_⟩
          by_cases h2 : thM (thN c) = 0
          · refine ifI_pos h2 ?_
            exact fin _ _ ⟨by unfold thO; rw [if_pos ⟨h1, h2⟩]; rfl, rfl⟩
          · refine ifI_neg h2 ?_
            exact fin _ _ ⟨by unfold thO; rw [if_neg (fun z => h2 z.2)], rfl⟩
      · rintro σ H3 ⟨rfl, rfl⟩
        refine' laterS (fun σ H2' => σ = [some (.ref q), some (.int c), some (.int f), some (.int (thN c)), some (.int (thX p f (thN c))), some (.int (thO (thN c)))] ∧ H2' = H3) (fun fin => _) _
        rotate_left
        · refine ⟨_, rfl, q, _, _, _, rfl, rfl, SqT.of hq, rfl, _, rfl, _, _, rfl, rfl, _, rfl, _, _, rfl, rfl, _, rfl, _, _, rfl, rfl, _, rfl, ?_⟩
          by_cases h1 : 12 < (if p.1 + thE (thN c) - f < 0 then -(p.1 + thE (thN c) - f) else p.1 + thE (thN c) - f)
          · refine ifD_pos h1 ⟨_, rfl, _, _, rfl, rfl, ?_⟩
            exact fin _ _ ⟨by unfold thX; rw [if_pos h1]; rfl, rfl⟩
          · refine ifD_neg h1 ?_
            exact fin _ _ ⟨by unfold thX; rw [if_neg h1], rfl⟩
        · rintro σ H4 ⟨rfl, rfl⟩
          refine' laterS (fun σ H2' => σ = [some (.ref q), some (.int c), some (.int f), some (.int (thN c)), some (.int (thX p f (thN c))), some (.int (thY p f (thN c)))] ∧ H2' = H4) (fun fin => _) _
          rotate_left
          · refine ⟨_, rfl, q, _, _, _, rfl, rfl, SqT.of hq, rfl, _, rfl, _, _, rfl, rfl, _, rfl, _, _, rfl, rfl, _, rfl, _, _, rfl, rfl, _, rfl, ?_⟩
            by_cases h1 : 12 < (if p.2 + thO (thN c) + f < 0 then -(p.2 + thO (thN c) + f) else p.2 + thO (thN c) + f)
            · refine ifD_pos h1 ⟨_, rfl, _, _, rfl, rfl, ?_⟩
              exact fin _ _ ⟨by unfold thY; rw [if_pos h1]; rfl, rfl⟩
            · refine ifD_neg h1 ?_
              exact fin _ _ ⟨by unfold thY; rw [if_neg h1], rfl⟩
          · rintro σ H5 ⟨rfl, rfl⟩
            refine ⟨_, rfl, q, _, _, _, rfl, rfl, SqT.of hq, rfl, _, rfl, _, _, rfl, rfl, _, rfl, q, _, _, _, rfl, rfl, SqT.of hq, rfl, _, rfl, _, _, rfl, rfl, szr rfl, fun r nr => ?_⟩
            exact z r _ (same_upd nr) upd_same

def spFar : Sp := fun vs H Q _ => ∃ c : Int, vs = [.int c] ∧ ∀ f H', Same H H' → -999999988 ≤ f → f ≤ 999999988 → Q (.int f) H'
theorem scFar : FnScope ["_law_cell"] ["_law_cell"] (defScope sFar) := ⟨rfl, rfl, rfl, by decide +kernel, rfl, by decide +kernel, by decide +kernel⟩
theorem ok_far {f : Addr} {fd : FuncData} (D : Df K mg "_law_far" sFar f fd) : FnOk P w K mg base CX0 1 f fd ["_law_cell"] spFar := by
  refine D.F.ok scFar (fun vs H Q E h => ?_) (fun cdv A outer s H vs Q E hr h => ?_)
  · obtain ⟨c, rfl, _⟩ := h
    rfl
  · obtain ⟨c, rfl, z⟩ := h
    refine ⟨_, (pss_one (ps_ret (pe_ix ix_list (pe_lst (pac (pe_int) (pac (pe_int) (pac (pe_int) (pac (pe_op op_sub pe_p9 pe_int) (pac (pe_op op_sub pe_int pe_p9) pa_nil)))))) (pe_op op_mod (pv 0) pe_int) (fun _ _ => rfl)))), ?_⟩
    have ix : ∃ d, atI [V.int 0, .int 0, .int 0, .int (1000000000 - 12), .int (12 - 1000000000)] (c % 5) = some (.int d) ∧ -999999988 ≤ d ∧ d ≤ 999999988 := by
      have h5 : c % 5 = 0 ∨ c % 5 = 1 ∨ c % 5 = 2 ∨ c % 5 = 3 ∨ c % 5 = 4 := by omega
      rcases h5 with e | e | e | e | e <;> rw [e]
      · exact ⟨_, rfl, by decide, by decide⟩
      · exact ⟨_, rfl, by decide, by decide⟩
      · exact ⟨_, rfl, by decide, by decide⟩
      · exact ⟨_, rfl, by decide, by decide⟩
      · exact ⟨_, rfl, by decide, by decide⟩
    obtain ⟨d, hd, d1, d2⟩ := ix
    refine ⟨_, _, rfl, rfl, _, _, rfl, rfl, szr rfl, fun l nl => ?_⟩
    exact ⟨_, rfl, _, _, rfl, rfl, (by show (0 : Int) < _; decide), l, _, _, _, rfl, rfl, SqL.of upd_same, hd, z d _ (same_upd nl) d1 d2⟩

def spHoles (K : PySem.W.Frag) : Sp := fun vs H Q _ => ∃ (a : Addr) (cs : List Int) (f : Int), vs = [.ref a, .int f] ∧ SqL K H a (cs.map V.int) ∧ cs.length ≤ 70 ∧ ∀ l hs H', Same H H' → H l = none → hs.length = cs.length + 1 → ThOk f hs → ThL H' l hs → Q (.ref l) H'
theorem scHoles : FnScope ["_law_cells", "_law_far_here", "_law_holes_here", "_law_cell"] ["_law_cells", "_law_far_here"] (defScope sHoles) := ⟨rfl, rfl, rfl, by decide +kernel, rfl, by decide +kernel, by decide +kernel⟩
theorem ok_holes {f fB : Addr} {fd fdB : FuncData} (D : Df K mg "_law_holes" sHoles f fd) (DB : Df K mg "_law_hole_behind" sBehind fB fdB) (bB : Binds K fdB ["_law_hole", "_law_cell", "_law_far_here"] []) (GB : FnOk P w K mg base CX0 1 fB fdB ["_law_hole", "_law_cell", "_law_far_here"] spBehind) :
    FnOk P w K mg base CX0 2 f fd ["_law_cells", "_law_far_here"] (spHoles K) := by
  refine D.F.ok scHoles (fun vs H Q E h => ?_) (fun cdv A outer s H vs Q E hr h => ?_)
  · obtain ⟨a, cs, f, rfl, _⟩ := h
    rfl
  · obtain ⟨a, cs, f, rfl, hS, hlen, z⟩ := h
    refine ⟨_, (pss_cons (ps_set (i := 2) scHoles.nd rfl (Or.inl rfl) (pe_lst (pac (pe_tup (pac (pv 1) (pac (pe_op op_sub pe_int (pv 1)) pa_nil))) pa_nil)))
      (pss_cons (ps_for PassesOwn.never rfl (pi_list (pv 0)) (pg_name (i := 3) scHoles.nd rfl (Or.inl rfl))
        (pss_one (ps_expr (pe_bm PySem.F.plainAttrs_list PySem.F.slot_list_append PySem.F.type_list_append mt_append (pv 2) (pac (pec GB hr rfl DB.m DB.F.kp bB .nil pass0 (pac (pe_ix ix_list (pv 2) (pe_un un_neg pe_int) (fun _ _ => rfl)) (pac (pv 3) (pac (pv 1) pa_nil)))) pa_nil)))))
      (pss_one (ps_ret (pv 2))))), ?_⟩
    refine ⟨_, rfl, _, rfl, _, _, rfl, rfl, szr rfl, fun q nq => ⟨szr rfl, fun L nL => ?_⟩⟩
    have S0 : Same H (upd (upd H q (.tup [.int f, .int (0 - f)])) L (.lst [.ref q])) := (same_upd nq).trans (same_upd nL)
    have HL : H L = none := none_same (same_upd nq) nL
    have hq0 : two (upd (upd H q (.tup [.int f, .int (0 - f)])) L (.lst [.ref q])) q (f, 0 - f) := (same_upd nL) _ _ upd_same
    have d0 : DtsIs (upd (upd H q (.tup [.int f, .int (0 - f)])) L (.lst [.ref q])) [.ref q] (List.map hD ([] ++ [(f, 0 - f)])) := .cons (two_dt hq0) .nil
    have o0 : ThOk f ([] ++ [(f, 0 - f)]) := by
      refine ⟨fun p hp => ?_, fun i p r hp hr' => ?_⟩
      · rw [List.mem_singleton.mp hp]
        refine ⟨?_, ?_, ?_, ?_⟩
        · show -12 ≤ f - f; omega
        · show f - f ≤ 12; omega
        · show -12 ≤ 0 - f + f; omega
        · show 0 - f + f ≤ 12; omega
      · simp at hr'
    refine ⟨_, rfl, a, rfl, ⟨_, S0.seq hS⟩, ?_⟩
    refine for_list (K := K) (a := a) (xs := cs.map V.int) (fun i σ H2 => (∃ v, σ = [some (.ref a), some (.int f), some (.ref L), v]) ∧ Same H H2 ∧ ∃ hs p vs, hs.length = i ∧ ThOk f (hs ++ [p]) ∧ H2 L = some (.lst vs) ∧ DtsIs H2 vs (List.map hD (hs ++ [p])))
      ⟨⟨_, rfl⟩, S0, [], (f, 0 - f), _, rfl, o0, upd_same, d0⟩ (fun i σ H2 _ ⟨_, s2, _⟩ => s2.seq hS) ?_ ?_
    · rintro i x σ H2 hx ⟨⟨v, rfl⟩, S2, hs, p, vs, hl, ho, eL, hd⟩
      rw [List.getElem?_map] at hx
      cases hc : cs[i]? with
      | none => rw [hc] at hx; cases hx
      | some c =>
        rw [hc] at hx
        cases hx
        have hi : i < cs.length := (List.getElem?_eq_some_iff.mp hc).1
        have hvl : vs.length = hs.length + 1 := by rw [hd.length]; simp
        obtain ⟨ws, y, rfl⟩ : ∃ ws y, vs = ws ++ [y] := ⟨vs.dropLast, vs.getLast (by intro e; rw [e] at hvl; cases hvl), (List.dropLast_concat_getLast _).symm⟩
        have hwl : ws.length = hs.length := by
          rw [List.length_append] at hvl
          have : ([y] : List V).length = 1 := rfl
          omega
        obtain ⟨d, ed, dy⟩ := hd.at ws.length y (by simp)
        have ed' : d = hD p := by
          rw [hwl, List.getElem?_map, List.getElem?_append_right (Nat.le_refl _)] at ed
          simp at ed
          exact ed.symm
        subst ed'
        obtain ⟨yq, rfl⟩ : ∃ yq, y = .ref yq := by cases dy; exact ⟨_, rfl⟩
        refine ⟨_, rfl, .inl ⟨rfl, _, SqL.of eL⟩, _, rfl, _, rfl, L, _, _, _, rfl, rfl, SqL.of eL, atI_last _ _, _, rfl, _, rfl, yq, p, c, f, rfl, hD_two dy, fun r H3 S3 h3 => ?_⟩
        refine ⟨L, _, _, rfl, rfl, S3 _ _ eL, ?_, ⟨_, rfl⟩, same_updN (S2.trans S3) HL, hs ++ [p], thB p c f, _, ?_, ho.snoc (thB_in (ho.1 p (by simp)) c).1 (thB_in (ho.1 p (by simp)) c).2, upd_same, ?_⟩
        · rw [List.length_append]
          exact small1000 (by show _ + 1 ≤ 1000; omega)
        · simp [hl]
        · rw [List.map_append]
          exact ((hd.same S3).updL (S3 _ _ eL)).snoc ((two_dt h3).updL (S3 _ _ eL))
    · rintro σ H2 ⟨⟨v, rfl⟩, S2, hs, p, vs, hl, ho, eL, hd⟩
      refine ⟨_, rfl, z L (hs ++ [p]) H2 S2 HL ?_ ho ⟨vs, eL, hd⟩⟩
      rw [List.length_append, hl, List.length_map]
      rfl
end
end K42
namespace K42
open PySem PySem.Spec PyProof.Rows L2 BF
seal L2.PE L2.PA L2.PS L2.PSs L2.PT L2.PW L2.PG L2.PI BF.PTs L2.PO
section
variable {P : Program} {w : World} {K : PySem.W.Frag} {mg : Str → Option Value} {base : Heap}
def spOrd : Sp := fun vs H Q _ => ∃ (x y : Addr) (p q : Int × Int), vs = [.ref x, .ref y] ∧ two H x p ∧ two H y q ∧ ∀ r H', Same H H' → DtIs H' (.ref r) (.tup [hD (ordP p q).1, hD (ordP p q).2]) → Q (.ref r) H'
theorem scOrd : FnScope ["one", "other"] ["one", "other"] (defScope sOrd) := ⟨rfl, rfl, rfl, by decide +kernel, rfl, by decide +kernel, by decide +kernel⟩
theorem ok_ord {f : Addr} {fd : FuncData} (D : Df K mg "ordered" sOrd f fd) : FnOk P w K mg base CX0 1 f fd ["one", "other"] spOrd := by
  refine D.F.ok scOrd (fun vs H Q E h => ?_) (fun cdv A outer s H vs Q E hr h => ?_)
  · obtain ⟨x, y, p, q, rfl, _⟩ := h
    rfl
  · obtain ⟨x, y, p, q, rfl, hx, hy, z⟩ := h
    refine ⟨_, (pss_one (ps_ret (pe_ifExp (pt_cmpR (op_ltT hr.units0) (pv 0) (pv 1) (nomark _)) (pe_tup (pac (pv 0) (pac (pv 1) pa_nil))) (pe_tup (pac (pv 1) (pac (pv 0) pa_nil)))))), ?_⟩
    refine ⟨_, rfl, _, rfl, x, y, [p.1, p.2], [q.1, q.2], rfl, rfl, SqT.of hx, SqT.of hy, _, rfl, ifC (fun hl => ?_) (fun hl => ?_)⟩
    · refine ⟨_, rfl, _, rfl, szr rfl, fun r nr => z r _ (same_upd nr) ?_⟩
      have : ordP p q = (p, q) := by unfold ordP; rw [if_pos (show hLt p q = true from hl)]
      rw [this]
      exact .tup upd_same (.cons (two_dt ((same_upd nr) _ _ hx)) (.cons (two_dt ((same_upd nr) _ _ hy)) .nil))
    · refine ⟨_, rfl, _, rfl, szr rfl, fun r nr => z r _ (same_upd nr) ?_⟩
      have : ordP p q = (q, p) := by unfold ordP; rw [if_neg (show ¬ hLt p q = true by rw [show hLt p q = false from hl]; simp)]
      rw [this]
      exact .tup upd_same (.cons (two_dt ((same_upd nr) _ _ hy)) (.cons (two_dt ((same_upd nr) _ _ hx)) .nil))

def spFace : Sp := fun vs H Q _ => ∃ k : Nat, vs = [.str (fN k)] ∧ Q (.str (fN (k + 1))) H
theorem scFace : FnScope ["face"] ["face"] (defScope sOther) := ⟨rfl, rfl, rfl, by decide +kernel, rfl, by decide +kernel, by decide +kernel⟩
theorem ok_face {f : Addr} {fd : FuncData} (D : Df K mg "other_face" sOther f fd) : FnOk P w K mg base CX0 1 f fd ["face"] spFace := by
  refine D.F.ok scFace (fun vs H Q E h => ?_) (fun cdv A outer s H vs Q E hr h => ?_)
  · obtain ⟨k, rfl, _⟩ := h
    rfl
  · obtain ⟨k, rfl, z⟩ := h
    refine ⟨_, (pss_one (ps_ret (pe_ifExp (pt_cmpR op_eq (pv 0) pe_str (nomark _)) pe_str pe_str))), ?_⟩
    by_cases hk : k % 2 = 0
    · rw [fN_1 (k := k + 1) (by omega)] at z
      rw [fN_0 hk]
      exact ⟨_, rfl, rfl, _, rfl, ifD_pos rfl z⟩
    · rw [fN_0 (k := k + 1) (by omega)] at z
      rw [fN_1 hk]
      exact ⟨_, rfl, rfl, _, rfl, ifD_neg (by decide +kernel) z⟩

theorem atI_nat {α : Type} {xs : List α} {i : Nat} {x : α} (h : xs[i]? = some x) : atI xs (i : Int) = some x := by
  have hl := (List.getElem?_eq_some_iff.mp h).1
  unfold atI ixN
  rw [if_pos (by omega), if_pos (by omega)]
  show xs[(i : Int).toNat]? = some x
  rw [Int.toNat_natCast]
  exact h
def spAt : Sp := fun vs H Q _ => ∃ (t : Addr) (f i : Nat) (th : V) (e : Int), vs = [.ref t, .int e] ∧ e = (i : Int) ∧ H t = some (.tup [.str (fN f), th]) ∧ Q (.str (fN (f + i))) H
theorem scAt : FnScope ["thread", "at"] ["thread", "at"] (defScope sAt) := ⟨rfl, rfl, rfl, by decide +kernel, rfl, by decide +kernel, by decide +kernel⟩
theorem ok_at {f fF : Addr} {fd fdF : FuncData} (D : Df K mg "face_at" sAt f fd) (DF : Df K mg "other_face" sOther fF fdF) (bF : Binds K fdF ["face"] []) (GF : FnOk P w K mg base CX0 1 fF fdF ["face"] spFace) : FnOk P w K mg base CX0 2 f fd ["thread", "at"] spAt := by
  refine D.F.ok scAt (fun vs H Q E h => ?_) (fun cdv A outer s H vs Q E hr h => ?_)
  · obtain ⟨t, f, i, th, e, rfl, _⟩ := h
    rfl
  · obtain ⟨t, f, i, th, e, rfl, he, et, z⟩ := h
    refine ⟨_, (pss_one (ps_ret (pe_ifExp (pt_cmpR op_eq (pe_op op_mod (pv 1) pe_int) pe_int (nomark _)) (pe_ix ix_tup (pv 0) pe_int (fun _ _ => rfl)) (pec GF hr rfl DF.m DF.F.kp bF .nil pass0 (pac (pe_ix ix_tup (pv 0) pe_int (fun _ _ => rfl)) pa_nil))))), ?_⟩
    refine ⟨_, rfl, _, _, rfl, rfl, (by show (0 : Int) < 2; decide), rfl, _, rfl, ?_⟩
    by_cases hk : e % 2 = 0
    · refine ifD_pos (show V.int (e % 2) = V.int 0 by rw [hk]) ?_
      rw [fN_mod (j := f + i) (k := f) (by omega)] at z
      exact ⟨_, rfl, t, _, _, _, rfl, rfl, SqT.of et, rfl, z⟩
    · refine ifD_neg (fun z => hk (V.int.inj z)) ?_
      rw [fN_mod (j := f + i) (k := f + 1) (by omega)] at z
      exact ⟨_, rfl, t, _, _, _, rfl, rfl, SqT.of et, rfl, f, rfl, z⟩

def spStitch : Sp := fun vs H Q _ => ∃ (t th : Addr) (f : Nat) (hs : List (Int × Int)), vs = [.ref t] ∧ H t = some (.tup [.str (fN f), .ref th]) ∧ ThT H th hs ∧ 2 ≤ hs.length ∧ hs.length ≤ 400 ∧
  ∀ l H', Same H H' → H l = none → DtL H' l (stL f hs) → Q (.ref l) H'
theorem scStitch : FnScope ["thread", "holes"] ["thread"] (defScope sStitch) := ⟨rfl, rfl, rfl, by decide +kernel, rfl, by decide +kernel, by decide +kernel⟩
theorem ok_stitch {f fO fF : Addr} {fd fdO fdF : FuncData} (D : Df K mg "stitches" sStitch f fd) (DO : Df K mg "ordered" sOrd fO fdO) (bO : Binds K fdO ["one", "other"] []) (GO : FnOk P w K mg base CX0 1 fO fdO ["one", "other"] spOrd)
    (DF : Df K mg "face_at" sAt fF fdF) (bF : Binds K fdF ["thread", "at"] []) (GF : FnOk P w K mg base CX0 2 fF fdF ["thread", "at"] spAt) (hrange : mg "range" = none) (hlen : mg "len" = none) :
    FnOk P w K mg base CX0 3 f fd ["thread"] spStitch := by
  refine D.F.ok scStitch (fun vs H Q E h => ?_) (fun cdv A outer s H vs Q E hr h => ?_)
  · obtain ⟨t, th, f, hs, rfl, _⟩ := h
    rfl
  · obtain ⟨t, th, f, hs, rfl, ht, hT, h2, h400, z⟩ := h
    obtain ⟨vs, eT, dT⟩ := hT
    have hvl : vs.length = hs.length := by rw [dT.length, List.length_map]
    have hr1 : Room 1 _ := hr.mono (by decide)
    refine ⟨_, (pss_cons (ps_set (i := 1) scStitch.nd rfl (Or.inr rfl) (pe_ix ix_tup (pv 0) pe_int (fun _ _ => rfl)))
      (pss_one (ps_ret (pe_comp (te := tTup (tCons (tCall spAt [] _ (tCons (tVar 1) (tCons (tVar 0) tNil))) (tCons (tCall spOrd [] _ (tCons (tOp (rIxT K) (tVar 2) (tVar 0)) (tCons (tOp (rIxT K) (tVar 2) (tOp (rI0 fun i j => .int (i + j)) (tVar 0) (tC (.int 1)))) tNil))) tNil))) (N' := ["at", "thread", "holes"]) (idx := [none, some 0, some 1]) (compOk_of (by kernel_rfl)) (by kernel_rfl) rfl
        (pi_range1 rfl hrange (pac (pe_op op_sub (pe_callB call_len_seq (by rfl) hlen PySem.boot_len (pac (pv 1) pa_nil)) pe_int) pa_nil))
        (fun _ _ _ _ _ => pg_name (i := 0) (show (["at", "thread", "holes"] : List Str).Nodup by decide +kernel) rfl (Or.inl rfl)) (fun _ _ _ _ _ => pts_nil)
        (fun _ _ _ _ _ => pe_tup (pac (pec GF hr rfl DF.m DF.F.kp bF .nil pass0 (pac (pv 1) (pac (pv 0) pa_nil)))
          (pac (pec GO hr1 rfl DO.m DO.F.kp bO .nil pass0 (pac (pe_ix ix_tup (pv 2) (pv 0) (fun _ _ => rfl)) (pac (pe_ix ix_tup (pv 2) (pe_op op_add (pv 0) pe_int) (fun _ _ => rfl)) pa_nil))) pa_nil))))))), ?_⟩
    refine ⟨_, rfl, t, _, _, _, rfl, rfl, SqT.of ht, rfl, ?_⟩
    refine ⟨_, rfl, th, _, rfl, .inr (SqT.of eT), _, _, rfl, rfl, _, rfl, by show -2 ^ 62 ≤ (vs.length : Int) - 1; omega, by show (vs.length : Int) - 1 < 2 ^ 62; omega, ?_⟩
    have en : ((vs.length : Int) - 1).toNat = hs.length - 1 := by omega
    rw [en]
    intro L nL
    refine comp_n (J := Itr 0 (hs.length - 1)) (n := hs.length - 1) (fun i σ2 H2 => (∃ v0, σ2 = [v0, some (.ref t), some (.ref th)]) ∧ Same H H2 ∧ DtL H2 L ((stL f hs).take i)) ?_ ?_ ?_ ?_
    · exact ⟨⟨_, rfl⟩, same_upd nL, [], upd_same, .nil⟩
    · rintro i σ2 H2 hi _
      exact hi
    · rintro σ2 H2 ⟨⟨v0, rfl⟩, S2, hL⟩
      rw [stL_all] at hL
      exact ⟨Nat.le_refl _, z L H2 S2 nL hL⟩
    · rintro i σ2 H2 hi ⟨⟨v0, rfl⟩, S2, ys, eL, dL⟩ x H3 ⟨rfl, rfl⟩
      have d2 := dT.same S2
      obtain ⟨xq, xp, hxv, hxp, tx⟩ := th_at d2 (i := i) (List.getElem?_eq_getElem (by omega))
      obtain ⟨yq, yp, hyv, hyp, ty⟩ := th_at d2 (i := i + 1) (List.getElem?_eq_getElem (by omega))
      have ix : atI vs (0 + (i : Int)) = some (.ref xq) := by
        rw [Int.zero_add]
        exact atI_nat (by rw [List.getElem?_eq_getElem (by omega), hxv])
      have iy : atI vs (0 + (i : Int) + 1) = some (.ref yq) := by
        rw [Int.zero_add]
        exact atI_nat (i := i + 1) (by rw [List.getElem?_eq_getElem (by omega), hyv])
      have eT2 := S2 _ _ eT
      refine ⟨_, rfl, _, rfl, t, f, i, .ref th, _, rfl, by omega, S2 _ _ ht, ?_⟩
      refine ⟨_, rfl, _, rfl, th, _, _, _, rfl, rfl, SqT.of eT2, ix, _, rfl, _, rfl, _, _, rfl, rfl, th, _, _, _, rfl, rfl, SqT.of eT2, iy, xq, yq, xp, yp, rfl, tx, ty, fun r H3 S3 h3 => ?_⟩
      refine ⟨szr rfl, fun u nu => ?_⟩
      have Su := same_upd (o := HO.tup [.str (fN (f + i)), .ref r]) nu
      have S24 := S3.trans Su
      have eL4 := S24 _ _ eL
      have yl : ys.length ≤ 400 := by
        rw [dL.length, List.length_take, stL_len]
        omega
      have du := (DtIs.tup upd_same (.cons (.str _) (.cons (h3.same Su) .nil)) : DtIs _ (.ref u) (stD (f + i) xp yp))
      refine ⟨ys, eL4, small1000 (by omega), ⟨_, rfl⟩, same_updN (S2.trans S24) nL, _, upd_same, ?_⟩
      rw [stL_take hxp hyp]
      exact ((dL.same S24).updL eL4).snoc (du.updL eL4)

def spAbout : Sp := fun vs H Q _ => ∃ (t th : Addr) (f : Nat) (hs : List (Int × Int)), vs = [.ref t] ∧ H t = some (.tup [.str (fN f), .ref th]) ∧ ThT H th hs ∧ 2 ≤ hs.length ∧ hs.length ≤ 400 ∧
  ∀ r rh H', Same H H' → H' r = some (.tup [.str (fN (f + (hs.length - 2))), .ref rh]) → ThT H' rh hs.reverse → Q (.ref r) H'
theorem scAbout : FnScope ["thread", "last"] ["thread"] (defScope sAbout) := ⟨rfl, rfl, rfl, by decide +kernel, rfl, by decide +kernel, by decide +kernel⟩
theorem ok_about {f fF : Addr} {fd fdF : FuncData} (D : Df K mg "turned_about" sAbout f fd) (DF : Df K mg "face_at" sAt fF fdF) (bF : Binds K fdF ["thread", "at"] []) (GF : FnOk P w K mg base CX0 2 fF fdF ["thread", "at"] spAt) (hlen : mg "len" = none) :
    FnOk P w K mg base CX0 3 f fd ["thread"] spAbout := by
  refine D.F.ok scAbout (fun vs H Q E h => ?_) (fun cdv A outer s H vs Q E hr h => ?_)
  · obtain ⟨t, th, f, hs, rfl, _⟩ := h
    rfl
  · obtain ⟨t, th, f, hs, rfl, ht, hT, h2, h400, z⟩ := h
    refine ⟨_, (pss_cons (ps_set (i := 1) scAbout.nd rfl (Or.inl rfl) (pe_op op_sub (pe_callB call_len_seq (by rfl) hlen PySem.boot_len (pac (pe_ix ix_tup (pv 0) pe_int (fun _ _ => rfl)) pa_nil)) pe_int))
      (pss_one (ps_ret (pe_tup (pac (pec GF hr rfl DF.m DF.F.kp bF .nil pass0 (pac (pv 0) (pac (pv 1) pa_nil))) (pac (pe_rev rv_tup (pe_ix ix_tup (pv 0) pe_int (fun _ _ => rfl)) (pe_un un_neg pe_int)) pa_nil)))))), ?_⟩
    obtain ⟨vs, eT, dT⟩ := hT
    have hvl : vs.length = hs.length := by rw [dT.length, List.length_map]
    refine ⟨_, rfl, t, _, _, _, rfl, rfl, SqT.of ht, rfl, th, _, rfl, .inr (SqT.of eT), _, _, rfl, rfl, ?_⟩
    refine ⟨_, rfl, _, rfl, t, f, hs.length - 2, .ref th, _, rfl, by omega, ht, ?_⟩
    refine ⟨_, rfl, t, _, _, _, rfl, rfl, SqT.of ht, rfl, _, rfl, rfl, th, vs, rfl, SqT.of eT, fun rh nrh => ?_⟩
    have S2 := same_upd (o := HO.tup vs.reverse) nrh
    refine ⟨szr rfl, fun ra nra => ?_⟩
    have S3 := same_upd (o := HO.tup [.str (fN (f + (hs.length - 2))), .ref rh]) nra
    refine z ra rh _ (S2.trans S3) upd_same ⟨vs.reverse, S3 _ _ upd_same, ?_⟩
    rw [List.map_reverse]
    exact (dT.same (S2.trans S3)).rev
end
end K42
namespace K42
open PySem PySem.Spec PyProof.Rows L2 BF
seal L2.PE L2.PA L2.PS L2.PSs L2.PT L2.PW L2.PG L2.PI BF.PTs L2.PO
section
variable {P : Program} {w : World} {K : PySem.W.Frag} {mg : Str → Option Value} {base : Heap}
theorem fb_eq (f : Nat) : decide (V.str (fN f) = V.str "back") = decide (f % 2 = 1) := by
  by_cases h : f % 2 = 0
  · rw [fN_0 h]
    rw [decide_eq_false (by omega : ¬ f % 2 = 1)]
    exact decide_eq_false (by decide +kernel)
  · rw [fN_1 h]
    rw [decide_eq_true (by omega : f % 2 = 1)]
    exact decide_eq_true rfl
theorem fb_at (f k : Nat) : atI [V.str "front", V.str "back"] (((0 + (k : Int)) + (if decide (f % 2 = 1) = true then 1 else 0)) % 2) = some (.str (fN (f + k))) := by
  by_cases h : f % 2 = 1
  · rw [if_pos (decide_eq_true h)]
    by_cases h2 : k % 2 = 0
    · have e : ((0 + (k : Int)) + 1) % 2 = 1 := by omega
      rw [e, fN_1 (by omega)]
      rfl
    · have e : ((0 + (k : Int)) + 1) % 2 = 0 := by omega
      rw [e, fN_0 (by omega)]
      rfl
  · rw [if_neg (by rw [decide_eq_false h]; exact Bool.false_ne_true)]
    by_cases h2 : k % 2 = 0
    · have e : ((0 + (k : Int)) + 0) % 2 = 0 := by omega
      rw [e, fN_0 (by omega)]
      rfl
    · have e : ((0 + (k : Int)) + 0) % 2 = 1 := by omega
      rw [e, fN_1 (by omega)]
      rfl
def spLStitch : Sp := fun vs H Q _ => ∃ (a : Addr) (f : Nat) (hs : List (Int × Int)), vs = [.str (fN f), .ref a] ∧ ThL H a hs ∧ hs.length ≤ 400 ∧ 2 ≤ hs.length ∧ ∀ l H', Same H H' → H l = none → DtL H' l (stL f hs) → Q (.ref l) H'
theorem scLStitch : FnScope ["_law_face", "_law_holes_here", "_law_found", "_law_k", "_law_here"] ["_law_face", "_law_holes_here"] (defScope sLStitch) := ⟨rfl, rfl, rfl, by decide +kernel, rfl, by decide +kernel, by decide +kernel⟩
theorem ok_lstitch {f : Addr} {fd : FuncData} (D : Df K mg "_law_stitches" sLStitch f fd) (hrange : mg "range" = none) (hlen : mg "len" = none) (hint : mg "int" = none) (hmin : mg "min" = none) (hmax : mg "max" = none) : FnOk P w K mg base CX0 1 f fd ["_law_face", "_law_holes_here"] spLStitch := by
  refine D.F.ok scLStitch (fun vs H Q E h => ?_) (fun cdv A outer s H vs Q E hr h => ?_)
  · obtain ⟨a, f, hs, rfl, _⟩ := h
    rfl
  · obtain ⟨a, fc, hs, rfl, hT, h400, h2, z⟩ := h
    obtain ⟨vs, ea, dv⟩ := hT
    have hvl : vs.length = hs.length := by rw [dv.length, List.length_map]
    have hu := hr.un
    have hu1 := hr.units
    have hu2 : (A.deeper (envOfC "_law_stitches" (defScope sLStitch) s.heap.objs.size f cdv)).units + 1 < cLine := by omega
    refine ⟨_, (pss_cons (ps_set (i := 2) scLStitch.nd rfl (Or.inl rfl) (pe_lst pa_nil))
      (pss_cons (ps_for PassesOwn.never rfl (pi_range1 rfl hrange (pac (pe_op op_sub (pe_callB call_len_seq (by rfl) hlen PySem.boot_len (pac (pv 1) pa_nil)) pe_int) pa_nil)) (pg_name (i := 3) scLStitch.nd rfl (Or.inl rfl))
        (pss_cons (ps_set (i := 4) scLStitch.nd rfl (Or.inl rfl) (pe_ix ix_list (pe_lst (pac (pe_str) (pac (pe_str) pa_nil))) (pe_op op_mod (pe_op op_add (pv 3) (pe_callTy call_int1 (by rfl) hint boot_int (pac (pe_cmpR op_eq (pv 0) pe_str (nomark _)) pa_nil))) pe_int) (fun _ _ => rfl)))
      (pss_one (ps_expr (pe_bm PySem.F.plainAttrs_list PySem.F.slot_list_append PySem.F.type_list_append mt_append (pv 2) (pac (pe_tup (pac (pv 4) (pac (pe_tup (pac (pe_callB (call_minT rfl hu2) (by rfl) hmin boot_min (pac (pe_ix ix_list (pv 1) (pv 3) (fun _ _ => rfl)) (pac (pe_ix ix_list (pv 1) (pe_op op_add (pv 3) pe_int) (fun _ _ => rfl)) pa_nil))) (pac (pe_callB (call_maxT rfl hu2) (by rfl) hmax boot_max (pac (pe_ix ix_list (pv 1) (pv 3) (fun _ _ => rfl)) (pac (pe_ix ix_list (pv 1) (pe_op op_add (pv 3) pe_int) (fun _ _ => rfl)) pa_nil))) pa_nil))) pa_nil))) pa_nil))))))
      (pss_one (ps_ret (pv 2))))), ?_⟩
    refine ⟨szr rfl, fun L nL => ?_⟩
    have S0 := same_upd (o := HO.lst []) nL
    refine ⟨_, rfl, a, _, rfl, .inl (SqL.of (S0 _ _ ea)), _, _, rfl, rfl, _, rfl, by show -2 ^ 62 ≤ (vs.length : Int) - 1; omega, by show (vs.length : Int) - 1 < 2 ^ 62; omega, ?_⟩
    have en : ((vs.length : Int) - 1).toNat = hs.length - 1 := by omega
    rw [en]
    refine for_range (fun i σ H2 => (∃ v3 v4, σ = [some (.str (fN fc)), some (.ref a), some (.ref L), v3, v4]) ∧ Same H H2 ∧ ∃ ys, H2 L = some (.lst ys) ∧ DtsIs H2 ys ((stL fc hs).take i))
      ⟨⟨_, _, rfl⟩, S0, [], upd_same, .nil⟩ ?_ ?_
    · rintro i σ H2 hi ⟨⟨v3, v4, rfl⟩, S2, ys, eL, dL⟩
      obtain ⟨xq, xp, hxv, hxp, tx⟩ := th_at (dv.same S2) (i := i) (List.getElem?_eq_getElem (by omega))
      obtain ⟨yq, yp, hyv, hyp, ty⟩ := th_at (dv.same S2) (i := i + 1) (List.getElem?_eq_getElem (by omega))
      have ix : atI vs (0 + (i : Int)) = some (.ref xq) := by
        rw [Int.zero_add]
        exact atI_nat (by rw [List.getElem?_eq_getElem (by omega), hxv])
      have iy : atI vs (0 + (i : Int) + 1) = some (.ref yq) := by
        rw [Int.zero_add]
        exact atI_nat (i := i + 1) (by rw [List.getElem?_eq_getElem (by omega), hyv])
      refine ⟨szr rfl, fun l1 m1 => ?_⟩
      have S1 := same_upd (o := HO.lst [.str "front", .str "back"]) m1
      refine ⟨_, rfl, _, rfl, rfl, .inr ⟨_, rfl, _, _, rfl, rfl, _, _, rfl, rfl, (by show (0 : Int) < 2; decide), l1, _, _, _, rfl, rfl, SqL.of upd_same, (by rw [fb_eq]; exact fb_at fc i), ?_⟩⟩
      have eL1 := S1 _ _ eL
      have ea1 := S1 _ _ (S2 _ _ ea)
      have tx1 := S1 _ _ tx
      have ty1 := S1 _ _ ty
      refine ⟨_, rfl, .inl ⟨rfl, _, SqL.of eL1⟩, _, rfl, ?_⟩
      refine ⟨_, rfl, _, rfl, a, _, _, _, rfl, rfl, SqL.of ea1, ix, _, rfl, _, rfl, _, _, rfl, rfl, a, _, _, _, rfl, rfl, SqL.of ea1, iy, xq, yq, [xp.1, xp.2], [yp.1, yp.2], rfl, SqT.of tx1, SqT.of ty1, ?_⟩
      refine ⟨_, rfl, _, rfl, a, _, _, _, rfl, rfl, SqL.of ea1, ix, _, rfl, _, rfl, _, _, rfl, rfl, a, _, _, _, rfl, rfl, SqL.of ea1, iy, xq, yq, [xp.1, xp.2], [yp.1, yp.2], rfl, SqT.of tx1, SqT.of ty1, ?_⟩
      refine ⟨szr rfl, fun t1 nt1 => ⟨szr rfl, fun t nt => ?_⟩⟩
      obtain ⟨q1, q2⟩ := min_max tx1 ty1
      have T1 := same_upd (o := .tup [(if hLt yp xp = true then V.ref yq else .ref xq), (if hLt xp yp = true then V.ref yq else .ref xq)]) nt1
      have T2 := same_upd (o := .tup [.str (fN (fc + i)), .ref t1]) nt
      have eL3 := T2 _ _ (T1 _ _ eL1)
      have du : DtIs _ (.ref t) (stD (fc + i) xp yp) := .tup upd_same (.cons (.str _) (.cons (.tup (T2 _ _ upd_same) (.cons ((q1.same T1).same T2) (.cons ((q2.same T1).same T2) .nil))) .nil))
      have yl : ys.length ≤ 400 := by
        rw [dL.length, List.length_take, stL_len]
        omega
      refine ⟨L, _, _, rfl, rfl, eL3, small1000 (by omega), ⟨_, _, rfl⟩, same_updN (S2.trans ((S1.trans T1).trans T2)) nL, _, upd_same, ?_⟩
      rw [stL_take hxp hyp]
      exact ((dL.same ((S1.trans T1).trans T2)).updL eL3).snoc (du.updL eL3)
    · rintro σ H2 ⟨⟨v3, v4, rfl⟩, S2, ys, eL, dL⟩
      rw [stL_all] at dL
      exact ⟨_, rfl, z L H2 S2 nL ⟨ys, eL, dL⟩⟩

def spIsThread : Sp := fun vs H Q _ => ∃ (r rh a : Addr) (f : Nat) (hs : List (Int × Int)), vs = [.ref r, .str (fN f), .ref a] ∧ H r = some (.tup [.str (fN f), .ref rh]) ∧ ThT H rh hs ∧ ThL H a hs ∧ ∀ H', Same H H' → Q (.bl true) H'
theorem scIsThread : FnScope ["_law_found", "_law_face", "_law_holes_here"] ["_law_found", "_law_face", "_law_holes_here"] (defScope sIsThread) := ⟨rfl, rfl, rfl, by decide +kernel, rfl, by decide +kernel, by decide +kernel⟩
theorem ok_isThread {f : Addr} {fd : FuncData} (D : Df K mg "_law_is_thread" sIsThread f fd) (hisi : mg "isinstance" = none) (htuple : mg "tuple" = none) (hlen : mg "len" = none) (hstr : mg "str" = none) :
    FnOk P w K mg base CX0 1 f fd ["_law_found", "_law_face", "_law_holes_here"] spIsThread := by
  refine D.F.ok scIsThread (fun vs H Q E h => ?_) (fun cdv A outer s H vs Q E hr h => ?_)
  · obtain ⟨r, rh, a, f, hs, rfl, _⟩ := h
    rfl
  · obtain ⟨r, rh, a, f, hs, rfl, er, hT, hL, z⟩ := h
    refine ⟨_, (pss_cons (ps_if (PW.pt (pw_or (pt_not (pt_val (pe_callB call_isi (by rfl) hisi boot_isinstance (pac (pv 0) (pac (pe_bltn (v := .ty "tuple") (by rfl) htuple boot_tuple rfl) pa_nil)))))
          (pw_or (pt_cmpR op_ne (pe_callB call_len_seq (by rfl) hlen PySem.boot_len (pac (pv 0) pa_nil)) pe_int (nomark _))
          (pw_or1 (pt_not (pt_val (pe_callB call_isi (by rfl) hisi boot_isinstance (pac (pe_ix ix_tup (pv 0) pe_int (fun _ _ => rfl)) (pac (pe_bltn (v := .ty "str") (by rfl) hstr PyProof.Rows.boot_str rfl) pa_nil)))))))))
        (pss_one (ps_ret pe_bl)) pss_nil)
      (pss_one (ps_ret (pe_and (pe_callB call_isi (by rfl) hisi boot_isinstance (pac (pe_ix ix_tup (pv 0) pe_int (fun _ _ => rfl)) (pac (pe_bltn (v := .ty "tuple") (by rfl) htuple boot_tuple rfl) pa_nil)))
          (pe_one (pe_cmpR (op_eqD hr) (pv 0) (pe_tup (pac (pv 1) (pac (pe_callTy call_tuple_of (by rfl) htuple boot_tuple (pac (pv 2) pa_nil)) pa_nil))) (nomark _))))))), ?_⟩
    refine ⟨_, rfl, .ref r, .tup, .tup, rfl, .tup er, _, rfl, iteF ?_⟩
    refine ⟨_, rfl, r, _, rfl, .inr (SqT.of er), rfl, _, rfl, iteF ?_⟩
    refine ⟨_, rfl, r, _, _, _, rfl, rfl, SqT.of er, rfl, _, .str, .str, rfl, .str _, _, rfl, iteF ?_⟩
    obtain ⟨vs, eh, dh⟩ := id hT
    refine ⟨_, rfl, r, _, _, _, rfl, rfl, SqT.of er, rfl, _, .tup, .tup, rfl, .tup eh, _, rfl, iteT ?_⟩
    obtain ⟨us, ea, da⟩ := hL
    refine ⟨_, rfl, _, rfl, _, rfl, a, us, rfl, .inl ⟨SqL.of ea, fun l nl => ?_⟩⟩
    have S1 := same_upd (o := HO.tup us) nl
    refine ⟨szr rfl, fun t nt => ?_⟩
    have S2 := same_upd (o := HO.tup [.str (fN f), .ref l]) nt
    refine ⟨.tup [.str (fN f), .tup (hs.map hD)], .tup [.str (fN f), .tup (hs.map hD)], .tup ((S1.trans S2) _ _ er) (.cons (.str _) (.cons ((hT.dt.same S1).same S2) .nil)), .tup upd_same (.cons (.str _) (.cons (.tup (S2 _ _ upd_same) ((da.same S1).same S2)) .nil)), thread_dp _ _, ⟨_, rfl⟩, ⟨_, rfl⟩, ?_⟩
    rw [Dt.beq_self]
    exact z _ (S1.trans S2)

def spRow : Sp := fun vs H Q _ => ∃ (a b : Addr) (ds : List Dt), vs = [.ref a, .ref b] ∧ DtL H a ds ∧ DtL H b ds ∧ (∀ d ∈ ds, ∃ j p q, d = stD j p q) ∧ Q (.bl true) H
theorem scRow : FnScope ["_law_found", "_law_due", "_law_one"] ["_law_found", "_law_due"] (defScope sRow) := ⟨rfl, rfl, rfl, by decide +kernel, rfl, by decide +kernel, by decide +kernel⟩
theorem ok_row {f : Addr} {fd : FuncData} (D : Df K mg "_law_row" sRow f fd) (hisi : mg "isinstance" = none) (htuple : mg "tuple" = none) (hlen : mg "len" = none) (hlist : mg "list" = none) :
    FnOk P w K mg base CX0 1 f fd ["_law_found", "_law_due"] spRow := by
  refine D.F.ok scRow (fun vs H Q E h => ?_) (fun cdv A outer s H vs Q E hr h => ?_)
  · obtain ⟨a, b, ds, rfl, _⟩ := h
    rfl
  · obtain ⟨a, b, ds, rfl, ha, hb, hst, z⟩ := h
    obtain ⟨xs, ea, da⟩ := ha
    obtain ⟨ys, eb, db⟩ := hb
    refine ⟨_, (pss_cons (ps_if (PW.pt (pw_or (pt_not (pt_val (pe_callB call_isi (by rfl) hisi boot_isinstance (pac (pv 0) (pac (pe_bltn (v := .ty "list") (by rfl) hlist PyProof.Rows.boot_list rfl) pa_nil)))))
          (pw_or1 (pt_cmpR op_ne (pe_callB call_len_seq (by rfl) hlen PySem.boot_len (pac (pv 0) pa_nil)) (pe_callB call_len_seq (by rfl) hlen PySem.boot_len (pac (pv 1) pa_nil)) (nomark _)))))
        (pss_one (ps_ret pe_bl)) pss_nil)
      (pss_cons (ps_for PassesOwn.never rfl (pi_list (pv 0)) (pg_name (i := 2) scRow.nd rfl (Or.inl rfl))
        (pss_one (ps_if (PW.pt (pw_or (pt_not (pt_val (pe_callB call_isi (by rfl) hisi boot_isinstance (pac (pv 2) (pac (pe_bltn (v := .ty "tuple") (by rfl) htuple boot_tuple rfl) pa_nil)))))
          (pw_or (pt_cmpR op_ne (pe_callB call_len_seq (by rfl) hlen PySem.boot_len (pac (pv 2) pa_nil)) pe_int (nomark _))
          (pw_or1 (pt_not (pt_val (pe_callB call_isi (by rfl) hisi boot_isinstance (pac (pe_ix ix_tup (pv 2) pe_int (fun _ _ => rfl)) (pac (pe_bltn (v := .ty "tuple") (by rfl) htuple boot_tuple rfl) pa_nil)))))))))
          (pss_one (ps_ret pe_bl)) pss_nil)))
      (pss_one (ps_ret (pe_cmpR (op_eqL hr) (pv 0) (pv 1) (nomark _)))))), ?_⟩
    refine ⟨_, rfl, .ref a, .lst, .lst, rfl, .lst ea, _, rfl, iteF ?_⟩
    refine ⟨_, rfl, a, _, rfl, .inl (SqL.of ea), _, rfl, b, _, rfl, .inl (SqL.of eb), rfl, _, rfl, ?_⟩
    have el : xs.length = ys.length := by rw [da.length, db.length]
    refine ifB_neg (by rw [el]; simp) ?_
    refine ⟨_, rfl, a, rfl, ⟨_, SqL.of ea⟩, ?_⟩
    refine for_list (K := K) (a := a) (xs := xs) (fun i σ H2 => (∃ v, σ = [some (.ref a), some (.ref b), v]) ∧ H2 = H) ⟨⟨_, rfl⟩, rfl⟩ (fun i σ H2 _ ⟨_, e⟩ => by rw [e]; exact SqL.of ea) ?_ ?_
    · rintro i x σ H2 hx ⟨⟨v, rfl⟩, rfl⟩
      obtain ⟨d, ed, dx⟩ := da.at i x hx
      obtain ⟨j, p, q, rfl⟩ := hst d (List.mem_of_getElem? ed)
      obtain ⟨r, y, zs, rfl, er, ey⟩ := stD_at dx
      refine ⟨_, rfl, .ref r, .tup, .tup, rfl, .tup er, _, rfl, iteF ?_⟩
      refine ⟨_, rfl, r, _, rfl, .inr (SqT.of er), rfl, _, rfl, iteF ?_⟩
      refine ⟨_, rfl, r, _, _, _, rfl, rfl, SqT.of er, rfl, _, .tup, .tup, rfl, .tup ey, _, rfl, iteF ?_⟩
      exact ⟨⟨_, rfl⟩, rfl⟩
    · rintro σ H2 ⟨⟨v, rfl⟩, rfl⟩
      refine ⟨_, rfl, _, rfl, a, b, xs, ys, ds, ds, rfl, rfl, SqL.of ea, SqL.of eb, da, db, fun d hd => ?_, ?_⟩
      · obtain ⟨j, p, q, rfl⟩ := hst d hd
        exact stD_dp j p q
      · rw [Dt.beqs_self]
        exact z
end
end K42
namespace K42
open PySem PySem.Spec PyProof.Rows L2 BF
seal L2.PE L2.PA L2.PS L2.PSs L2.PT L2.PW L2.PG L2.PI BF.PTs L2.PO
structure Blt (mg : Str → Option Value) : Prop where
  isi : mg "isinstance" = none
  int : mg "int" = none
  tuple : mg "tuple" = none
  list : mg "list" = none
  str : mg "str" = none
  len : mg "len" = none
  range : mg "range" = none
  abs : mg "abs" = none
  min : mg "min" = none
  max : mg "max" = none
  zip : mg "zip" = none
section
variable {P : Program} {w : World} {K : PySem.W.Frag} {mg : Str → Option Value} {base : Heap}
theorem th_pick {H : Hp} {vs : List V} {hs : List (Int × Int)} (d : DtsIs H vs (hs.map hD)) : ∀ {ws : List V}, (∀ v ∈ ws, v ∈ vs) → ∃ gs : List (Int × Int), gs.length = ws.length ∧ DtsIs H ws (gs.map hD)
  | [], _ => ⟨[], rfl, .nil⟩
  | v :: ws, h => by
    obtain ⟨gs, e, q⟩ := th_pick d (ws := ws) fun u hu => h u (List.mem_cons_of_mem _ hu)
    obtain ⟨i, hi⟩ := List.getElem?_of_mem (h v (List.mem_cons_self ..))
    obtain ⟨x, p, rfl, _, t⟩ := th_at d hi
    exact ⟨p :: gs, by simp [e], .cons (two_dt t) q⟩
theorem mem_rep {xs : List V} {k : Nat} {v : V} (h : v ∈ (List.replicate k xs).flatten) : v ∈ xs := by
  obtain ⟨l, hl, hv⟩ := List.mem_flatten.mp h
  rw [(List.mem_replicate.mp hl).2] at hv
  exact hv
theorem stD_face {H : Hp} {ds : List Dt} {vs us : List V} {y : V} {f : Nat} {hs : List (Int × Int)} (d : DtsIs H (us ++ [y]) (stL f hs)) (h2 : 2 ≤ hs.length) : ∃ r x, y = .ref r ∧ H r = some (.tup [.str (fN (f + (hs.length - 2))), .ref x]) := by
  have hl := d.length
  rw [List.length_append, stL_len] at hl
  have h1 : ([y] : List V).length = 1 := rfl
  obtain ⟨e, ee, de⟩ := d.at us.length y (by simp)
  have hu : us.length = hs.length - 2 := by omega
  have := stL_at (f := f) (hs := hs) (i := hs.length - 2) (p := hs[hs.length - 2]) (q := hs[hs.length - 1]) (by rw [List.getElem?_eq_getElem]) (by
    rw [List.getElem?_eq_getElem (by omega)]
    congr 1
    congr 1
    omega)
  rw [hu, this] at ee
  cases ee
  obtain ⟨r, x, xs, rfl, er, _⟩ := stD_at de
  exact ⟨r, x, rfl, er⟩
def spLaw (K : PySem.W.Frag) : Sp := fun vs H Q _ => ∃ (a : Addr) (ns : List Int), vs = [.ref a] ∧ SqL K H a (ns.map V.int) ∧ ns.length ≤ 63 ∧ ∀ H', Q (.bl true) H'
theorem scLaw : FnScope ["_law_script", "_law_face", "_law_holes_here", "_law_due", "_law_thread", "_law_found", "_law_about"] ["_law_script"] (defScope sLaw) := ⟨rfl, rfl, rfl, by decide +kernel, rfl, by decide +kernel, by decide +kernel⟩
theorem ok_law {f fC fF fH fL fS fR fA fI : Addr} {fd fdC fdF fdH fdL fdS fdR fdA fdI : FuncData} (D : Df K mg "law" sLaw f fd)
    (DC : Df K mg "_law_cell_at" sCell fC fdC) (bC : Binds K fdC ["_law_script", "_law_k"] []) (GC : FnOk P w K mg base CX0 1 fC fdC ["_law_script", "_law_k"] (spCell K))
    (DF : Df K mg "_law_far" sFar fF fdF) (bF : Binds K fdF ["_law_cell"] []) (GF : FnOk P w K mg base CX0 1 fF fdF ["_law_cell"] spFar)
    (DH : Df K mg "_law_holes" sHoles fH fdH) (bH : Binds K fdH ["_law_cells", "_law_far_here"] []) (GH : FnOk P w K mg base CX0 2 fH fdH ["_law_cells", "_law_far_here"] (spHoles K))
    (DL : Df K mg "_law_stitches" sLStitch fL fdL) (bL : Binds K fdL ["_law_face", "_law_holes_here"] []) (GL : FnOk P w K mg base CX0 1 fL fdL ["_law_face", "_law_holes_here"] spLStitch)
    (DS : Df K mg "stitches" sStitch fS fdS) (bS : Binds K fdS ["thread"] []) (GS : FnOk P w K mg base CX0 3 fS fdS ["thread"] spStitch)
    (DR : Df K mg "_law_row" sRow fR fdR) (bR : Binds K fdR ["_law_found", "_law_due"] []) (GR : FnOk P w K mg base CX0 1 fR fdR ["_law_found", "_law_due"] spRow)
    (DA : Df K mg "turned_about" sAbout fA fdA) (bA : Binds K fdA ["thread"] []) (GA : FnOk P w K mg base CX0 3 fA fdA ["thread"] spAbout)
    (DI : Df K mg "_law_is_thread" sIsThread fI fdI) (bI : Binds K fdI ["_law_found", "_law_face", "_law_holes_here"] []) (GI : FnOk P w K mg base CX0 1 fI fdI ["_law_found", "_law_face", "_law_holes_here"] spIsThread) (B : Blt mg) :
    FnOk P w K mg base CX0 4 f fd ["_law_script"] (spLaw K) := by
  refine D.F.ok scLaw (fun vs H Q E h => ?_) (fun cdv A outer s H vs Q E hr h => ?_)
  · obtain ⟨a, ns, rfl, _⟩ := h
    rfl
  · obtain ⟨a, ns, rfl, hS, hlen, k⟩ := h
    have hr1 : Room 1 _ := hr.mono (by decide)
    have hr2 : Room 2 _ := hr.mono (by decide)
    refine ⟨_, (pss_cons (ps_set (i := 1) scLaw.nd rfl (Or.inl rfl) (pe_ix ix_list (pe_lst (pac (pe_str) (pac (pe_str) pa_nil))) (pe_op op_mod (pec GC hr1 rfl DC.m DC.F.kp bC .nil pass0 (pac (pv 0) (pac (pe_int) pa_nil))) pe_int) (fun _ _ => rfl)))
      (pss_cons (ps_set (i := 2) scLaw.nd rfl (Or.inl rfl) (pec GH hr2 rfl DH.m DH.F.kp bH .nil pass0 (pac (pe_op op_cat (pe_slice sl_list (pv 0) (po_some pe_int) (po_some pe_int)) (pe_lst (pac (pe_callB call_len_seq (by rfl) B.len PySem.boot_len (pac (pv 0) pa_nil)) pa_nil))) (pac (pec GF hr1 rfl DF.m DF.F.kp bF .nil pass0 (pac (pec GC hr1 rfl DC.m DC.F.kp bC .nil pass0 (pac (pv 0) (pac (pe_int) pa_nil))) pa_nil)) pa_nil))))
      (pss_cons (ps_if (pt_cmpR op_eq (pe_op op_mod (pe_op op_fdiv (pec GC hr1 rfl DC.m DC.F.kp bC .nil pass0 (pac (pv 0) (pac (pe_int) pa_nil))) pe_int) pe_int) pe_int (nomark _)) (pss_one (ps_set (i := 2) scLaw.nd rfl (Or.inl rfl) (pe_slice sl_list (pe_op op_rep (pe_slice sl_list (pv 2) po_none (po_some pe_int)) pe_int) po_none (po_some (pe_op op_add pe_int (pe_op op_mod (pe_op op_fdiv (pec GC hr1 rfl DC.m DC.F.kp bC .nil pass0 (pac (pv 0) (pac (pe_int) pa_nil))) pe_int) pe_int)))))) pss_nil)
      (pss_cons (ps_set (i := 3) scLaw.nd rfl (Or.inl rfl) (pec GL hr1 rfl DL.m DL.F.kp bL .nil pass0 (pac (pv 1) (pac (pv 2) pa_nil))))
      (pss_cons (ps_set (i := 4) scLaw.nd rfl (Or.inl rfl) (pe_tup (pac (pv 1) (pac (pe_callTy call_tuple_of (by rfl) B.tuple boot_tuple (pac (pv 2) pa_nil)) pa_nil))))
      (pss_cons (ps_set (i := 5) scLaw.nd rfl (Or.inl rfl) (pec GS hr rfl DS.m DS.F.kp bS .nil pass0 (pac (pv 4) pa_nil)))
      (pss_cons (ps_if (pt_not (pt_val (pec GR hr1 rfl DR.m DR.F.kp bR .nil pass0 (pac (pv 5) (pac (pv 3) pa_nil))))) (pss_one (ps_ret pe_bl)) pss_nil)
      (pss_cons (ps_expr (pe_bm0 PySem.F.plainAttrs_list PySem.F.slot_list_clear PySem.F.type_list_clear mt_clear (pv 5)))
      (pss_cons (ps_set (i := 6) scLaw.nd rfl (Or.inl rfl) (pec GA hr rfl DA.m DA.F.kp bA .nil pass0 (pac (pv 4) pa_nil)))
      (pss_cons (ps_if (PW.pt (pw_or (pt_not (pt_val (pec GI hr1 rfl DI.m DI.F.kp bI .nil pass0 (pac (pv 6) (pac (pe_ix ix_tup (pe_ix ix_list (pv 3) (pe_un un_neg pe_int) (fun _ _ => rfl)) pe_int (fun _ _ => rfl)) (pac (pe_rev rv_lst (pv 2) (pe_un un_neg pe_int)) pa_nil))))))
          (pw_or1 (pt_not (pt_val (pec GR hr1 rfl DR.m DR.F.kp bR .nil pass0 (pac (pec GS hr rfl DS.m DS.F.kp bS .nil pass0 (pac (pv 6) pa_nil)) (pac (pe_rev rv_lst (pv 3) (pe_un un_neg pe_int)) pa_nil)))))))) (pss_one (ps_ret pe_bl)) pss_nil)
      (pss_one (ps_ret (pe_and (pec GI hr1 rfl DI.m DI.F.kp bI .nil pass0 (pac (pec GA hr rfl DA.m DA.F.kp bA .nil pass0 (pac (pv 6) pa_nil)) (pac (pv 1) (pac (pv 2) pa_nil))))
          (pe_one (pec GR hr1 rfl DR.m DR.F.kp bR .nil pass0 (pac (pec GS hr rfl DS.m DS.F.kp bS .nil pass0 (pac (pv 4) pa_nil)) (pac (pv 3) pa_nil))))))))))))))))), ?_⟩
    -- the face
    refine ⟨szr rfl, fun l0 m0 => ?_⟩
    have S0 := same_upd (o := HO.lst [.str "front", .str "back"]) m0
    refine ⟨_, rfl, a, ns, 0, rfl, S0.seq hS, fun c0 => ?_⟩
    have hface : atI [V.str "front", V.str "back"] (c0 % 2) = some (.str (fN (c0 % 2).toNat)) := by
      have h2 : c0 % 2 = 0 ∨ c0 % 2 = 1 := by omega
      rcases h2 with e | e <;> rw [e] <;> rfl
    refine ⟨_, _, rfl, rfl, (by show (0 : Int) < 2; decide), l0, _, _, _, rfl, rfl, SqL.of upd_same, hface, ?_⟩
    generalize (c0 % 2).toNat = fc
    revert S0
    generalize (upd H l0 (.lst [.str "front", .str "back"])) = H0
    intro S0
    have hS0 := S0.seq hS
    -- the holes
    refine ⟨_, rfl, _, rfl, _, rfl, a, _, rfl, hS0, fun l1 m1 => ?_⟩
    have T1 := same_upd (o := HO.lst (cutV (ns.map V.int) (some 3) (some 62))) m1
    refine ⟨_, rfl, a, _, rfl, .inl (T1.seq hS0), szr rfl, fun l2 m2 => ?_⟩
    have T2 := same_upd (o := HO.lst [.int ((ns.map V.int).length : Int)]) m2
    have cl := cutV_length (ns.map V.int) (some 3) (some 62)
    rw [List.length_map] at cl
    refine ⟨l1, l2, _, _, rfl, rfl, T2 _ _ upd_same, upd_same, sz (by show _ + 1 ≤ 1000; omega), fun l3 m3 => ?_⟩
    have T3 := same_upd (o := HO.lst (cutV (ns.map V.int) (some 3) (some 62) ++ [.int ((ns.map V.int).length : Int)])) m3
    have S3 := S0.trans ((T1.trans T2).trans T3)
    have e3 : (upd (upd (upd H0 l1 (.lst (cutV (ns.map V.int) (some 3) (some 62)))) l2 (.lst [.int ((ns.map V.int).length : Int)])) l3 (.lst (cutV (ns.map V.int) (some 3) (some 62) ++ [.int ((ns.map V.int).length : Int)]))) l3 = some (.lst (cutV (ns.map V.int) (some 3) (some 62) ++ [.int ((ns.map V.int).length : Int)])) := upd_same
    obtain ⟨cs, hcs⟩ : ∃ cs : List Int, cutV (ns.map V.int) (some 3) (some 62) ++ [V.int ((ns.map V.int).length : Int)] = cs.map V.int := by
      refine ⟨((ns.drop (HT.sIx (ns.map V.int).length 0 (some 3))).take (HT.sIx (ns.map V.int).length (ns.map V.int).length (some 62) - HT.sIx (ns.map V.int).length 0 (some 3))) ++ [((ns.map V.int).length : Int)], ?_⟩
      unfold cutV
      rw [List.map_append, List.map_take, List.map_drop]
      rfl
    have hcl : 1 ≤ cs.length ∧ cs.length ≤ 64 := by
      have := congrArg List.length hcs
      rw [List.length_append, List.length_map (f := V.int) (as := cs)] at this
      have h1 : ([V.int ((ns.map V.int).length : Int)]).length = 1 := rfl
      omega
    rw [hcs] at e3
    rw [hcs] at S3
    revert S3 e3
    rw [hcs]
    generalize (upd (upd (upd H0 l1 (.lst (cutV (ns.map V.int) (some 3) (some 62)))) l2 (.lst [.int ((ns.map V.int).length : Int)])) l3 (.lst (cs.map V.int))) = H3
    intro S3 e3
    have hS3 := S3.seq hS
    refine ⟨_, rfl, a, ns, 1, rfl, hS3, fun c1 => ⟨c1, rfl, fun fr H4 S4 _ _ => ?_⟩⟩
    refine ⟨l3, cs, fr, rfl, SqL.of (S4 _ _ e3), by omega, fun L hs H5 S5 _ hl5 _ hL5 => ?_⟩
    have S5' := S3.trans (S4.trans S5)
    have hS5 := S5'.seq hS
    refine' laterS (fun σ H6 => ∃ L gs v3 v4 v5 v6, σ = [some (.ref a), some (.str (fN fc)), some (.ref L), v3, v4, v5, v6] ∧ Same H H6 ∧ ThL H6 L gs ∧ 2 ≤ gs.length ∧ gs.length ≤ 400) (fun fin => _) _
    rotate_left
    · refine ⟨_, rfl, a, ns, 0, rfl, hS5, fun c2 => ⟨_, _, rfl, rfl, ⟨by decide, by decide⟩, _, _, rfl, rfl, (by show (0 : Int) < _; decide), rfl, _, rfl, ?_⟩⟩
      by_cases h1 : c2 / 2 % 8 = 1
      rotate_left
      · refine ifI_neg h1 ?_
        exact fin _ _ ⟨L, hs, _, _, _, _, rfl, S5', hL5, by omega, by omega⟩
      · refine ifI_pos h1 ?_
        obtain ⟨vs, eL, dL⟩ := hL5
        have hvl : vs.length = hs.length := by rw [dL.length, List.length_map]
        have c2e : cutV vs none (some 2) = vs.take 2 := by
          unfold cutV
          have e1 : HT.sIx vs.length vs.length (some 2) = 2 := by
            have := HT.sIx_nat vs.length vs.length 2
            rw [show (some ((2 : Nat) : Int)) = some (2 : Int) from rfl] at this
            rw [this]
            omega
          rw [e1, HT.sIx_none]
          rfl
        refine ⟨_, rfl, _, rfl, L, vs, rfl, SqL.of eL, fun p1 n1 => ?_⟩
        rw [c2e]
        have U1 := same_upd (o := HO.lst (vs.take 2)) n1
        have h2l : (vs.take 2).length = 2 := by rw [List.length_take]; omega
        refine ⟨p1, 200, _, rfl, rfl, upd_same, by decide, by decide, ?_, fun p2 n2 => ?_⟩
        · rw [h2l]; exact szr rfl
        have U2 := same_upd (o := HO.lst (List.replicate (200 : Int).toNat (vs.take 2)).flatten) n2
        have S7 := S5'.trans (U1.trans U2)
        refine ⟨_, rfl, a, ns, 0, rfl, S7.seq hS, fun c3 => ⟨_, _, rfl, rfl, ⟨by decide, by decide⟩, _, _, rfl, rfl, (by show (0 : Int) < _; decide), _, _, rfl, rfl, _, rfl, p2, _, rfl, SqL.of upd_same, fun p3 n3 => ?_⟩⟩
        have U3 := same_upd (o := HO.lst (cutV (List.replicate (200 : Int).toNat (vs.take 2)).flatten none (some (2 + c3 / 16 % 399)))) n3
        have hm : ∀ v ∈ cutV (List.replicate (200 : Int).toNat (vs.take 2)).flatten none (some (2 + c3 / 16 % 399)), v ∈ vs := fun v hv => List.mem_of_mem_take (mem_rep (cut_mem hv))
        obtain ⟨gs, hg, dg⟩ := th_pick (dL.same ((U1.trans U2).trans U3)) hm
        have hfl : (List.replicate (200 : Int).toNat (vs.take 2)).flatten.length = 400 := by
          rw [len_rep, h2l]
          rfl
        have hgl : gs.length = (2 + c3 / 16 % 399).toNat := by
          rw [hg]
          unfold cutV
          have e1 : HT.sIx 400 400 (some (2 + c3 / 16 % 399)) = (2 + c3 / 16 % 399).toNat := by
            show (if 2 + c3 / 16 % 399 < 0 then _ else min (2 + c3 / 16 % 399).toNat 400) = _
            rw [if_neg (by omega)]
            omega
          rw [hfl, HT.sIx_none, e1, List.length_take, List.length_drop, hfl]
          omega
        exact fin _ _ ⟨p3, gs, _, _, _, _, rfl, S7.trans U3, ⟨_, upd_same, dg⟩, by omega, by omega⟩
    · rintro σ H6 ⟨L, gs, v3, v4, v5, v6, rfl, S6, hL, h2, h400⟩
      -- what is due, and the thread
      refine ⟨_, rfl, _, rfl, L, fc, gs, rfl, hL, h400, h2, fun M H7 S7 _ hM => ?_⟩
      obtain ⟨vs, eL, dL⟩ := hL.same S7
      refine ⟨_, rfl, _, rfl, L, vs, rfl, .inl ⟨SqL.of eL, fun th nth => ?_⟩⟩
      have V1 := same_upd (o := HO.tup vs) nth
      refine ⟨szr rfl, fun t nt => ?_⟩
      have V2 := same_upd (o := HO.tup [.str (fN fc), .ref th]) nt
      have et : (upd (upd H7 th (.tup vs)) t (.tup [.str (fN fc), .ref th])) t = some (.tup [.str (fN fc), .ref th]) := upd_same
      have hTh : ThT (upd (upd H7 th (.tup vs)) t (.tup [.str (fN fc), .ref th])) th gs := ⟨vs, V2 _ _ upd_same, dL.same (V1.trans V2)⟩
      have hL8 : ThL (upd (upd H7 th (.tup vs)) t (.tup [.str (fN fc), .ref th])) L gs := ThL.same ⟨vs, eL, dL⟩ (V1.trans V2)
      have hM8 : DtL (upd (upd H7 th (.tup vs)) t (.tup [.str (fN fc), .ref th])) M (stL fc gs) := hM.same (V1.trans V2)
      revert et hTh hL8 hM8
      generalize (upd (upd H7 th (.tup vs)) t (.tup [.str (fN fc), .ref th])) = H8
      intro et hTh hL8 hM8
      -- the stitches told
      refine ⟨_, rfl, t, th, fc, gs, rfl, et, hTh, h2, h400, fun F H9 S9 nF hF => ?_⟩
      refine ⟨_, rfl, _, rfl, F, M, stL fc gs, rfl, hF, hM8.same S9, fun d hd => stL_mem hd, _, rfl, iteF ?_⟩
      obtain ⟨fs, eF, _⟩ := hF
      refine ⟨_, rfl, .inl ⟨rfl, _, SqL.of eF⟩, F, _, rfl, rfl, eF, ?_⟩
      have Sa : Same H8 (upd H9 F (.lst [])) := same_updN S9 nF
      revert Sa
      generalize (upd H9 F (.lst [])) = Ha
      intro Sa
      -- turned about
      refine ⟨_, rfl, t, th, fc, gs, rfl, Sa _ _ et, hTh.same Sa, h2, h400, fun ab abh Hb Sb eb hb => ?_⟩
      have Sab := Sa.trans Sb
      obtain ⟨ms, eM, dM⟩ := hM8.same Sab
      have hml : ms.length = gs.length - 1 := by rw [dM.length, stL_len]
      obtain ⟨us, y, rfl⟩ : ∃ us y, ms = us ++ [y] := ⟨ms.dropLast, ms.getLast (by intro e; rw [e] at hml; simp at hml; omega), (List.dropLast_concat_getLast _).symm⟩
      obtain ⟨r, x, rfl, er⟩ := stD_face (ds := []) (vs := []) dM h2
      obtain ⟨ws, eL9, dL9⟩ := hL8.same Sab
      refine ⟨_, rfl, _, rfl, _, rfl, M, _, _, _, rfl, rfl, SqL.of eM, atI_last _ _, r, _, _, _, rfl, rfl, SqT.of er, rfl, ?_⟩
      refine ⟨_, rfl, _, rfl, rfl, L, ws, rfl, SqL.of eL9, fun Lr nLr => ?_⟩
      have W1 := same_upd (o := HO.lst ws.reverse) nLr
      have dr : DtsIs (upd Hb Lr (.lst ws.reverse)) ws.reverse (gs.reverse.map hD) := by
        rw [List.map_reverse]
        exact (dL9.same W1).rev
      refine ⟨ab, abh, Lr, fc + (gs.length - 2), gs.reverse, rfl, W1 _ _ eb, hb.same W1, ⟨_, upd_same, dr⟩, fun Hc Sc => ⟨_, rfl, iteF ?_⟩⟩
      have Sbc := W1.trans Sc
      have rl : gs.reverse.length = gs.length := List.length_reverse
      refine ⟨_, rfl, ab, abh, fc + (gs.length - 2), gs.reverse, rfl, Sbc _ _ eb, hb.same Sbc, by omega, by omega, fun G Hd Sd _ hG => ?_⟩
      rw [stL_rev h2] at hG
      have Sbd := Sbc.trans Sd
      refine ⟨_, rfl, _, rfl, rfl, M, _, rfl, SqL.of (Sbd _ _ eM), fun Mr nMr => ?_⟩
      have W2 := same_upd (o := HO.lst (us ++ [V.ref r]).reverse) nMr
      refine ⟨G, Mr, (stL fc gs).reverse, rfl, hG.same W2, ⟨_, upd_same, ((dM.same Sbd).same W2).rev⟩, fun d hd => stL_mem (List.mem_reverse.mp hd), _, rfl, iteF ?_⟩
      have Sbe := Sbd.trans W2
      -- and about again
      refine ⟨_, rfl, ab, abh, fc + (gs.length - 2), gs.reverse, rfl, Sbe _ _ eb, hb.same Sbe, by omega, by omega, fun ag agh Hf Sf ef hf => ?_⟩
      rw [List.reverse_reverse] at hf
      have Sbf := Sbe.trans Sf
      have ef' : Hf ag = some (.tup [.str (fN fc), .ref agh]) := by
        rw [ef, rl, fN_mod (j := fc + (gs.length - 2) + (gs.length - 2)) (k := fc) (by omega)]
      refine ⟨_, rfl, _, rfl, ag, agh, L, fc, gs, rfl, ef', hf, hL8.same (Sab.trans Sbf), fun Hg Sg => ⟨_, rfl, iteT ?_⟩⟩
      have Sg' := Sab.trans (Sbf.trans Sg)
      refine ⟨_, rfl, t, th, fc, gs, rfl, Sg' _ _ et, hTh.same Sg', h2, h400, fun R Hh Sh _ hR => ?_⟩
      exact ⟨_, rfl, R, M, stL fc gs, rfl, hR, hM8.same (Sg'.trans Sh), fun d hd => stL_mem hd, k _⟩
end
end K42
namespace K42
open PySem PySem.Spec PyProof.Rows L2 BF
/-! what the top has written, and the law's head -/
theorem ln1 {us : List Value} (h : us.length = 1) : ∃ a0, us = [a0] := match us, h with | [a0], _ => ⟨a0, rfl⟩
theorem ln2 {us : List Value} (h : us.length = 2) : ∃ a0 a1, us = [a0, a1] := match us, h with | [a0, a1], _ => ⟨a0, a1, rfl⟩
theorem ln3 {us : List Value} (h : us.length = 3) : ∃ a0 a1 a2, us = [a0, a1, a2] := match us, h with | [a0, a1, a2], _ => ⟨a0, a1, a2, rfl⟩
theorem all_mk {l : PySem.W.OpenLaw} {w : World} {K : PySem.W.Frag} {h : Heap} {mg : Str → Option Value} {fa fO fF fT fS fA fC fB fG fH fL fI fR fZ : Addr} (X : K.In h) (G : h.Ns mainGlobals mg) (hfa : mg "law" = some (.ref fa))
    {odO anO odF anF odT anT odS anS odA anA odC anC odB anB odG anG odH anH odL anL odI anI odR anR odZ anZ : Option Addr} {slO slF slT slS slA slC slB slG slH slL slI slR slZ : Array (Option Value)} {ocO kVO dcO pmO cdO ctO ocF kVF dcF pmF cdF ctF ocT kVT dcT pmT cdT ctT ocS kVS dcS pmS cdS ctS ocA kVA dcA pmA cdA ctA ocC kVC dcC pmC cdC ctC ocB kVB dcB pmB cdB ctB ocG kVG dcG pmG cdG ctG ocH kVH dcH pmH cdH ctH ocL kVL dcL pmL cdL ctL ocI kVI dcI pmI cdI ctI ocR kVR dcR pmR cdR ctR ocZ kVZ dcZ pmZ cdZ ctZ : Value}
    (aO : PySem.W.nsIn K mainGlobals "ordered" = some (some (.ref fO))) (lO : K.lookup fO = some ⟨ocO, odO, .func (PySem.W.fnOf "ordered" "ordered" (defArgs sOrd) (defBody sOrd) (defScope sOrd) .none kVO dcO pmO anO cdO ctO), slO⟩) (cO : PySem.W.codeIn K cdO "ordered" = true) (kO : PySem.W.keepIn K (.ref fO) = true)
    (aF : PySem.W.nsIn K mainGlobals "other_face" = some (some (.ref fF))) (lF : K.lookup fF = some ⟨ocF, odF, .func (PySem.W.fnOf "other_face" "other_face" (defArgs sOther) (defBody sOther) (defScope sOther) .none kVF dcF pmF anF cdF ctF), slF⟩) (cF : PySem.W.codeIn K cdF "other_face" = true) (kF : PySem.W.keepIn K (.ref fF) = true)
    (aT : PySem.W.nsIn K mainGlobals "face_at" = some (some (.ref fT))) (lT : K.lookup fT = some ⟨ocT, odT, .func (PySem.W.fnOf "face_at" "face_at" (defArgs sAt) (defBody sAt) (defScope sAt) .none kVT dcT pmT anT cdT ctT), slT⟩) (cT : PySem.W.codeIn K cdT "face_at" = true) (kT : PySem.W.keepIn K (.ref fT) = true)
    (aS : PySem.W.nsIn K mainGlobals "stitches" = some (some (.ref fS))) (lS : K.lookup fS = some ⟨ocS, odS, .func (PySem.W.fnOf "stitches" "stitches" (defArgs sStitch) (defBody sStitch) (defScope sStitch) .none kVS dcS pmS anS cdS ctS), slS⟩) (cS : PySem.W.codeIn K cdS "stitches" = true) (kS : PySem.W.keepIn K (.ref fS) = true)
    (aA : PySem.W.nsIn K mainGlobals "turned_about" = some (some (.ref fA))) (lA : K.lookup fA = some ⟨ocA, odA, .func (PySem.W.fnOf "turned_about" "turned_about" (defArgs sAbout) (defBody sAbout) (defScope sAbout) .none kVA dcA pmA anA cdA ctA), slA⟩) (cA : PySem.W.codeIn K cdA "turned_about" = true) (kA : PySem.W.keepIn K (.ref fA) = true)
    (aC : PySem.W.nsIn K mainGlobals "_law_cell_at" = some (some (.ref fC))) (lC : K.lookup fC = some ⟨ocC, odC, .func (PySem.W.fnOf "_law_cell_at" "_law_cell_at" (defArgs sCell) (defBody sCell) (defScope sCell) .none kVC dcC pmC anC cdC ctC), slC⟩) (cC : PySem.W.codeIn K cdC "_law_cell_at" = true) (kC : PySem.W.keepIn K (.ref fC) = true)
    (aB : PySem.W.nsIn K mainGlobals "_law_hole_behind" = some (some (.ref fB))) (lB : K.lookup fB = some ⟨ocB, odB, .func (PySem.W.fnOf "_law_hole_behind" "_law_hole_behind" (defArgs sBehind) (defBody sBehind) (defScope sBehind) .none kVB dcB pmB anB cdB ctB), slB⟩) (cB : PySem.W.codeIn K cdB "_law_hole_behind" = true) (kB : PySem.W.keepIn K (.ref fB) = true)
    (aG : PySem.W.nsIn K mainGlobals "_law_far" = some (some (.ref fG))) (lG : K.lookup fG = some ⟨ocG, odG, .func (PySem.W.fnOf "_law_far" "_law_far" (defArgs sFar) (defBody sFar) (defScope sFar) .none kVG dcG pmG anG cdG ctG), slG⟩) (cG : PySem.W.codeIn K cdG "_law_far" = true) (kG : PySem.W.keepIn K (.ref fG) = true)
    (aH : PySem.W.nsIn K mainGlobals "_law_holes" = some (some (.ref fH))) (lH : K.lookup fH = some ⟨ocH, odH, .func (PySem.W.fnOf "_law_holes" "_law_holes" (defArgs sHoles) (defBody sHoles) (defScope sHoles) .none kVH dcH pmH anH cdH ctH), slH⟩) (cH : PySem.W.codeIn K cdH "_law_holes" = true) (kH : PySem.W.keepIn K (.ref fH) = true)
    (aL : PySem.W.nsIn K mainGlobals "_law_stitches" = some (some (.ref fL))) (lL : K.lookup fL = some ⟨ocL, odL, .func (PySem.W.fnOf "_law_stitches" "_law_stitches" (defArgs sLStitch) (defBody sLStitch) (defScope sLStitch) .none kVL dcL pmL anL cdL ctL), slL⟩) (cL : PySem.W.codeIn K cdL "_law_stitches" = true) (kL : PySem.W.keepIn K (.ref fL) = true)
    (aI : PySem.W.nsIn K mainGlobals "_law_is_thread" = some (some (.ref fI))) (lI : K.lookup fI = some ⟨ocI, odI, .func (PySem.W.fnOf "_law_is_thread" "_law_is_thread" (defArgs sIsThread) (defBody sIsThread) (defScope sIsThread) .none kVI dcI pmI anI cdI ctI), slI⟩) (cI : PySem.W.codeIn K cdI "_law_is_thread" = true) (kI : PySem.W.keepIn K (.ref fI) = true)
    (aR : PySem.W.nsIn K mainGlobals "_law_row" = some (some (.ref fR))) (lR : K.lookup fR = some ⟨ocR, odR, .func (PySem.W.fnOf "_law_row" "_law_row" (defArgs sRow) (defBody sRow) (defScope sRow) .none kVR dcR pmR anR cdR ctR), slR⟩) (cR : PySem.W.codeIn K cdR "_law_row" = true) (kR : PySem.W.keepIn K (.ref fR) = true)
    (aZ : PySem.W.nsIn K mainGlobals "law" = some (some (.ref fZ))) (lZ : K.lookup fZ = some ⟨ocZ, odZ, .func (PySem.W.fnOf "law" "law" (defArgs sLaw) (defBody sLaw) (defScope sLaw) .none kVZ dcZ pmZ anZ cdZ ctZ), slZ⟩) (cZ : PySem.W.codeIn K cdZ "law" = true) (kZ : PySem.W.keepIn K (.ref fZ) = true)
    (z_isi : PySem.W.nsIn K mainGlobals "isinstance" = some none)
    (z_int : PySem.W.nsIn K mainGlobals "int" = some none)
    (z_tuple : PySem.W.nsIn K mainGlobals "tuple" = some none)
    (z_list : PySem.W.nsIn K mainGlobals "list" = some none)
    (z_str : PySem.W.nsIn K mainGlobals "str" = some none)
    (z_len : PySem.W.nsIn K mainGlobals "len" = some none)
    (z_range : PySem.W.nsIn K mainGlobals "range" = some none)
    (z_abs : PySem.W.nsIn K mainGlobals "abs" = some none)
    (z_min : PySem.W.nsIn K mainGlobals "min" = some none)
    (z_max : PySem.W.nsIn K mainGlobals "max" = some none)
    (z_zip : PySem.W.nsIn K mainGlobals "zip" = some none) :
    ∃ fd : FuncData, (∀ (s : Shared) (v : Value), BindsTo s fd ⟨[v], []⟩ [("_law_script", v)]) ∧ ∀ base : Heap, K.In base → base.Ns mainGlobals mg → FnOk l.prog w K mg base CX0 4 fa fd ["_law_script"] (spLaw K) := by
  have e := hfa.symm.trans (PySem.W.mg_of X G aZ)
  cases e
  have DO := df_mk (st := sOrd) X G aO lO cO kO
  have DF := df_mk (st := sOther) X G aF lF cF kF
  have DT := df_mk (st := sAt) X G aT lT cT kT
  have DS := df_mk (st := sStitch) X G aS lS cS kS
  have DA := df_mk (st := sAbout) X G aA lA cA kA
  have DC := df_mk (st := sCell) X G aC lC cC kC
  have DB := df_mk (st := sBehind) X G aB lB cB kB
  have DG := df_mk (st := sFar) X G aG lG cG kG
  have DH := df_mk (st := sHoles) X G aH lH cH kH
  have DL := df_mk (st := sLStitch) X G aL lL cL kL
  have DI := df_mk (st := sIsThread) X G aI lI cI kI
  have DR := df_mk (st := sRow) X G aR lR cR kR
  have DZ := df_mk (st := sLaw) X G aZ lZ cZ kZ
  have B : Blt mg := ⟨PySem.W.mg_none_of X G z_isi, PySem.W.mg_none_of X G z_int, PySem.W.mg_none_of X G z_tuple, PySem.W.mg_none_of X G z_list, PySem.W.mg_none_of X G z_str, PySem.W.mg_none_of X G z_len, PySem.W.mg_none_of X G z_range, PySem.W.mg_none_of X G z_abs, PySem.W.mg_none_of X G z_min, PySem.W.mg_none_of X G z_max, PySem.W.mg_none_of X G z_zip⟩
  have bO := DO.F.binds (ps := ["one", "other"]) fun _ _ _ _ _ _ us hl => by obtain ⟨_, _, rfl⟩ := ln2 hl; rfl
  have bF := DF.F.binds (ps := ["face"]) fun _ _ _ _ _ _ us hl => by obtain ⟨_, rfl⟩ := ln1 hl; rfl
  have bT := DT.F.binds (ps := ["thread", "at"]) fun _ _ _ _ _ _ us hl => by obtain ⟨_, _, rfl⟩ := ln2 hl; rfl
  have bS := DS.F.binds (ps := ["thread"]) fun _ _ _ _ _ _ us hl => by obtain ⟨_, rfl⟩ := ln1 hl; rfl
  have bA := DA.F.binds (ps := ["thread"]) fun _ _ _ _ _ _ us hl => by obtain ⟨_, rfl⟩ := ln1 hl; rfl
  have bC := DC.F.binds (ps := ["_law_script", "_law_k"]) fun _ _ _ _ _ _ us hl => by obtain ⟨_, _, rfl⟩ := ln2 hl; rfl
  have bB := DB.F.binds (ps := ["_law_hole", "_law_cell", "_law_far_here"]) fun _ _ _ _ _ _ us hl => by obtain ⟨_, _, _, rfl⟩ := ln3 hl; rfl
  have bG := DG.F.binds (ps := ["_law_cell"]) fun _ _ _ _ _ _ us hl => by obtain ⟨_, rfl⟩ := ln1 hl; rfl
  have bH := DH.F.binds (ps := ["_law_cells", "_law_far_here"]) fun _ _ _ _ _ _ us hl => by obtain ⟨_, _, rfl⟩ := ln2 hl; rfl
  have bL := DL.F.binds (ps := ["_law_face", "_law_holes_here"]) fun _ _ _ _ _ _ us hl => by obtain ⟨_, _, rfl⟩ := ln2 hl; rfl
  have bI := DI.F.binds (ps := ["_law_found", "_law_face", "_law_holes_here"]) fun _ _ _ _ _ _ us hl => by obtain ⟨_, _, _, rfl⟩ := ln3 hl; rfl
  have bR := DR.F.binds (ps := ["_law_found", "_law_due"]) fun _ _ _ _ _ _ us hl => by obtain ⟨_, _, rfl⟩ := ln2 hl; rfl
  refine ⟨PySem.W.fnOf "law" "law" (defArgs sLaw) (defBody sLaw) (defScope sLaw) .none kVZ dcZ pmZ anZ cdZ ctZ, fun s v => .of_eq rfl, fun base _ _ => ?_⟩
  have GT : FnOk l.prog w K mg base CX0 2 fT _ ["thread", "at"] spAt := ok_at DT DF bF (ok_face DF)
  have GS : FnOk l.prog w K mg base CX0 3 fS _ ["thread"] spStitch := ok_stitch DS DO bO (ok_ord DO) DT bT GT B.range B.len
  have GA : FnOk l.prog w K mg base CX0 3 fA _ ["thread"] spAbout := ok_about DA DT bT GT B.len
  have GH : FnOk l.prog w K mg base CX0 2 fH _ ["_law_cells", "_law_far_here"] (spHoles K) := ok_holes DH DB bB (ok_behind DB B.abs)
  have GL : FnOk l.prog w K mg base CX0 1 fL _ ["_law_face", "_law_holes_here"] spLStitch := ok_lstitch DL B.range B.len B.int B.min B.max
  have GI : FnOk l.prog w K mg base CX0 1 fI _ ["_law_found", "_law_face", "_law_holes_here"] spIsThread := ok_isThread DI B.isi B.tuple B.len B.str
  have GR : FnOk l.prog w K mg base CX0 1 fR _ ["_law_found", "_law_due"] spRow := ok_row DR B.isi B.tuple B.len B.list
  exact ok_law DZ DC bC (ok_cell DC B.len) DG bG (ok_far DG) DH bH GH DL bL GL DS bS GS DR bR GR DA bA GA DI bI GI B
theorem walk {l : PySem.W.OpenLaw} {q : Program} {loose : List Str} {XP : (Str → Option Value) → Heap → Prop} {YP : World → Heap → Prop} {d : DefRec} {K : Params → PySem.W.Frag} (hn : l.most = some 63) (hdf : d.params.defaults = [])
    (hY : ∀ (w : World) (h : Heap), YP w h → (K w.params).In h)
    (F : ∀ (w : World) (mg : Str → Option Value) (fa : Addr) (h : Heap), (K w.params).In h → h.Ns mainGlobals mg → mg d.name = some (.ref fa) →
      ∃ fd : FuncData, (∀ (s : Shared) (u : Value), BindsTo s fd ⟨[u], []⟩ [("_law_script", u)]) ∧ ∀ base : Heap, (K w.params).In base → base.Ns mainGlobals mg → FnOk l.prog w (K w.params) mg base CX0 4 fa fd ["_law_script"] (spLaw (K w.params))) :
    PySem.W.WalkO q loose XP YP l.row.toRowW d [] (fun f vs => PySem.call f vs) :=
  L2.walk_of (n := 63) (k := 4) (x := "_law_script") (CX := fun _ => CX0) (sp := fun w => spLaw (K w.params)) hn (by decide) hdf ⟨rfl, by decide, by decide⟩ hY F (fun _ _ a ns hl _ hS => ⟨a, ns, rfl, hS, hl, fun _ => rfl⟩) fun _ _ _ _ _ z => z
end K42
open PySem PySem.W PyProof.Rows
set_option maxRecDepth 100000 in
set_option maxHeartbeats 0 in
theorem PySem.Challenge.cw_bothfaces_k42_stitches_holds : PySem.Challenge.rw_bothfaces_k42_stitches.Holds := by
  w_on; o_law; k_head; (case hw => w_witness2)
  k_fill
  refine K42.walk (l := PySem.Challenge.rw_bothfaces_k42_stitches) rfl rfl (fun w h Y => PySem.W.kIn_of Y) ?F
  case F =>
    intro w mg fa h KX G hmg
    refine' K42.all_mk KX G hmg ?aO ?lO ?cO ?kO ?aF ?lF ?cF ?kF ?aT ?lT ?cT ?kT ?aS ?lS ?cS ?kS ?aA ?lA ?cA ?kA ?aC ?lC ?cC ?kC ?aB ?lB ?cB ?kB ?aG ?lG ?cG ?kG ?aH ?lH ?cH ?kH ?aL ?lL ?cL ?kL ?aI ?lI ?cI ?kI ?aR ?lR ?cR ?kR ?aZ ?lZ ?cZ ?kZ ?z_isi ?z_int ?z_tuple ?z_list ?z_str ?z_len ?z_range ?z_abs ?z_min ?z_max ?z_zip
    (case aO => k_is)
    (case lO => k_is)
    (case cO => k_is)
    (case kO => k_is)
    (case aF => k_is)
    (case lF => k_is)
    (case cF => k_is)
    (case kF => k_is)
    (case aT => k_is)
    (case lT => k_is)
    (case cT => k_is)
    (case kT => k_is)
    (case aS => k_is)
    (case lS => k_is)
    (case cS => k_is)
    (case kS => k_is)
    (case aA => k_is)
    (case lA => k_is)
    (case cA => k_is)
    (case kA => k_is)
    (case aC => k_is)
    (case lC => k_is)
    (case cC => k_is)
    (case kC => k_is)
    (case aB => k_is)
    (case lB => k_is)
    (case cB => k_is)
    (case kB => k_is)
    (case aG => k_is)
    (case lG => k_is)
    (case cG => k_is)
    (case kG => k_is)
    (case aH => k_is)
    (case lH => k_is)
    (case cH => k_is)
    (case kH => k_is)
    (case aL => k_is)
    (case lL => k_is)
    (case cL => k_is)
    (case kL => k_is)
    (case aI => k_is)
    (case lI => k_is)
    (case cI => k_is)
    (case kI => k_is)
    (case aR => k_is)
    (case lR => k_is)
    (case cR => k_is)
    (case kR => k_is)
    (case aZ => k_is)
    (case lZ => k_is)
    (case cZ => k_is)
    (case kZ => k_is)
    (case z_isi => k_is)
    (case z_int => k_is)
    (case z_tuple => k_is)
    (case z_list => k_is)
    (case z_str => k_is)
    (case z_len => k_is)
    (case z_range => k_is)
    (case z_abs => k_is)
    (case z_min => k_is)
    (case z_max => k_is)
    (case z_zip => k_is)
